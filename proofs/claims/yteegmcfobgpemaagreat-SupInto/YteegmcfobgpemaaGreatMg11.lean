/-
  ClWith SrtGen ClNmM AbKind CodeMath CodeLen CodePut CodePutMore RefSame CodeRef CodeAlive CodeReadMath CodeRead CodeUint CodeText CodeBackMath ClBy ClCode ClPut ClGet ClGet2 ClA ClB ClNmN EqMath EqDoc AbNest AbNest2 AbNest3 AbNest4 EqWays EqConcat ClSort AbZero ClNmW AbNilF EqUni EqFns EqFac KbRef KbRef2
-/
import Derived.Test.YteegmcfobgpemaaGreatMg10
import Derived.Test.YteegmcfobgpemaaGreatMg4
import Derived.Test.YteegmcfobgpemaaGreatMg3
import Derived.WalkKit
import Derived.Test.YteegmcfobgpemaaGreatChecked
import Derived.WalkLawsBesides
import Derived.WalkSpells
import Derived.Test.YteegmcfobgpemaaGreatMg1
import Derived.Laws.BitsAllLaws
import Derived.Deep.QuietTactic
import Derived.BigQuiet
import Derived.Laws.BytesArg
import Derived.Test.YteegmcfobgpemaaGreatMg2
import Derived.Test.YteegmcfobgpemaaGreatMg8
import Derived.Test.YteegmcfobgpemaaGreatMg7
import Derived.RangeFuncNested
import Derived.Test.YteegmcfobgpemaaGreatMg9
namespace Go.Proofs.YteegmcfobgpemaaGreat
open Go.RowKit
set_option linter.unusedVariables false
set_option linter.unusedSimpArgs false
set_option maxRecDepth 100000
theorem sidL_at : ∀ {c : List Lt} {k : Nat} {l : Lt}, c[k]? = some l → (sidL c)[2 * k]? = some l.a ∧ (sidL c)[2 * k + 1]? = some l.b
  | [], k, l, h => by simp at h
  | x :: c, 0, l, h => by
    simp at h
    subst h
    exact ⟨rfl, rfl⟩
  | x :: c, k + 1, l, h => by
    have := sidL_at (c := c) (k := k) (l := l) (by simpa using h)
    have e : sidL (x :: c) = x.a :: x.b :: sidL c := rfl
    rw [e, show 2 * (k + 1) = 2 * k + 1 + 1 by omega]
    simpa using this

-- 
theorem cWith_abs (W : World) (c d : List Lt) (f : Int) (hn : c.length ≤ 1000000) (hcd : d.map Lt.neg = c.map Lt.neg) : AFun Tryz.prog W 45 [.lst (c.map Lt.cv), Tm.cw ⟨f, sidL d⟩] (.val (.lst (d.map Lt.cv))) := by
  have hsz := Lt.size_all c
  have hszT := Tm.size_all (sidL d)
  have hlen : d.length = c.length := by have := congrArg List.length hcd; simpa using this
  refine afun_of (rs := [.lst (d.map Lt.cv)]) Tryz.func45 Tryz.ntmps45 rfl rfl rfl rfl ?_
  intro w U hW
  refine aS (aR ?_)
  (refine nx (a_box (gN rfl) rfl rfl rfl rfl rfl) rfl ?_)
  (refine nx (aA (gN rfl) rfl rfl rfl rfl rfl) rfl ?_)
  show AWp _ _ _ _ _ _ _
  refine aS (aR ?_)
  (refine nx (aA (gN rfl) rfl rfl rfl rfl rfl) rfl ?_)
  show AWp _ _ _ _ _ _ _
  refine aS (aS (aR ?_))
  (refine nx (aM (gN rfl) rfl rfl rfl rfl rfl) rfl ?_)
  (refine nx (a_len (gN rfl) rfl rfl rfl rfl rfl rfl rfl) rfl ?_)
  (refine nx (aM (gN rfl) rfl rfl rfl rfl rfl) rfl ?_)
  show AWp _ _ _ _ _ _ _
  refine aB (awp_count c.length (fun k => [(3, .bp 3 0 []), (100003, .bx (Tm.cw ⟨f, sidL d⟩)), (5, .own (.lst ((d.take k).map Lt.cv)) 200033), (200033, .tok 43 5), (8, .val (.lst (c.map Lt.cv))), (9, .val (.i (c.map Lt.cv).length)), (10, .val (.i k))])
    ((wk_nil 5 200033 43 5 rfl rfl rfl rfl rfl rfl rfl).trans (wk_sub ⟨rfl, rfl, rfl, rfl, rfl, rfl, rfl, trivial⟩)) ?_)
  intro k hk
  refine aS (aR ?_)
  (refine nx (a_lss (gN rfl) rfl rfl rfl rfl rfl rfl) rfl ?_)
  show AWp _ _ _ _ _ _ _
  refine aS (aC rfl (fun hlt => ?_) (fun hlt => ?_))
  · have hkl : k < c.length := by simpa using hlt
    obtain ⟨x, hx⟩ : ∃ x, c[k]? = some x := ⟨c[k], List.getElem?_eq_getElem hkl⟩
    obtain ⟨y, hy⟩ : ∃ y, d[k]? = some y := ⟨d[k], List.getElem?_eq_getElem (by omega)⟩
    have hneg : x.neg = y.neg := by
      have := congrArg (fun l => l[k]?) hcd
      simp only [List.getElem?_map, hx, hy, Option.map_some] at this
      injection this with this
      exact this.symm
    obtain ⟨n1, a1, b1⟩ := x
    simp only at hneg
    subst hneg
    have hx' := Lt.map_at hx
    obtain ⟨ha, hb⟩ := sidL_at hy
    have ha' := Tm.map_at ha
    have hb' := Tm.map_at hb
    have hsz2 : ∀ z ∈ (d.take k).map Lt.cv, z.size = 5 := Lt.size_all _
    have hl3 : ((d.take k).map Lt.cv).length ≤ 1000000 := by rw [List.length_map, List.length_take]; omega
    refine aK ?_
    show AWp _ _ _ _ _ _ _
    refine aS (aB (aS (aR ?_)))
    (refine nx (aM (gN rfl) rfl rfl rfl rfl rfl) rfl ?_)
    (refine nx (a_index (j := k) (gN rfl) rfl rfl rfl rfl rfl rfl rfl rfl rfl (hx') rfl (hsz)) rfl ?_)
    (refine nx (a_load_ad (gN rfl) rfl rfl rfl rfl rfl rfl rfl rfl rfl) rfl ?_)
    (refine nx (a_alloc (gN rfl) rfl rfl rfl rfl rfl rfl rfl rfl rfl rfl) rfl ?_)
    (refine nx (aA (gN rfl) rfl rfl rfl rfl rfl) rfl ?_)
    (refine nx (aSt (gN rfl) rfl rfl rfl rfl rfl rfl rfl rfl rfl rfl) rfl ?_)
    show AWp _ _ _ _ _ _ _
    refine aD (by kernel_rfl) (by kernel_rfl) ?_
    (refine nx (aM (gN rfl) rfl rfl rfl rfl rfl) rfl ?_)
    (refine nx (aF (gN rfl) rfl rfl rfl rfl rfl rfl rfl rfl rfl) rfl ?_)
    (refine nx (aLb (gN rfl) rfl rfl rfl rfl rfl rfl rfl rfl rfl rfl rfl rfl) rfl ?_)
    (refine nx (aF (gN rfl) rfl rfl rfl rfl rfl rfl rfl rfl rfl) rfl ?_)
    (refine nx (aLb (gN rfl) rfl rfl rfl rfl rfl rfl rfl rfl rfl rfl rfl rfl) rfl ?_)
    (refine nx (aM (gN rfl) rfl rfl rfl rfl rfl) rfl ?_)
    (refine nx (a_mul (gN rfl) rfl rfl rfl rfl rfl rfl (by first | omega | (simp only [List.length_map, List.length_append, List.length_cons, List.length_nil] <;> omega) | (simp <;> omega))) rfl ?_)
    (refine nx (a_index (j := (2 * k)) (gN rfl) rfl rfl rfl rfl rfl rfl rfl rfl rfl (ha') rfl (hszT)) rfl ?_)
    (refine nx (a_load_ad (gN rfl) rfl rfl rfl rfl rfl rfl rfl rfl rfl) rfl ?_)
    (refine nx (aF (gN rfl) rfl rfl rfl rfl rfl rfl rfl rfl rfl) rfl ?_)
    (refine nx (aLb (gN rfl) rfl rfl rfl rfl rfl rfl rfl rfl rfl rfl rfl rfl) rfl ?_)
    (refine nx (aM (gN rfl) rfl rfl rfl rfl rfl) rfl ?_)
    (refine nx (a_mul (gN rfl) rfl rfl rfl rfl rfl rfl (by first | omega | (simp only [List.length_map, List.length_append, List.length_cons, List.length_nil] <;> omega) | (simp <;> omega))) rfl ?_)
    (refine nx (a_add (gN rfl) rfl rfl rfl rfl rfl rfl (by first | omega | (simp only [List.length_map, List.length_append, List.length_cons, List.length_nil] <;> omega) | (simp <;> omega))) rfl ?_)
    (refine nx (a_index (j := (2 * k + 1)) (gN rfl) rfl rfl rfl rfl rfl rfl rfl rfl rfl (hb') rfl (hszT)) rfl ?_)
    (refine nx (a_load_ad (gN rfl) rfl rfl rfl rfl rfl rfl rfl rfl rfl) rfl ?_)
    (refine nx (a_build (gN rfl) rfl rfl rfl rfl rfl rfl rfl rfl rfl rfl rfl) rfl ?_)
    (refine nx (a_bslice (gN rfl) rfl rfl rfl rfl rfl rfl rfl rfl rfl rfl rfl rfl rfl) rfl ?_)
    (refine nx (a_app (gN rfl) rfl rfl rfl rfl rfl rfl rfl rfl rfl rfl rfl rfl rfl rfl rfl (by first | assumption | exact sZ rfl | exact Tm.size_all _ | exact Bd.size_all _ | exact ints_size _ | exact bys_size _ | exact Lt.size_all _) (by first | assumption | exact sZ rfl | exact Tm.size_all _ | exact Bd.size_all _ | exact ints_size _ | exact bys_size _ | exact Lt.size_all _) (by first | omega | (simp only [List.length_map, List.length_append, List.length_cons, List.length_nil] <;> omega) | (simp <;> omega))) rfl ?_)
    (refine nx (aA (gN rfl) rfl rfl rfl rfl rfl) rfl ?_)
    refine ⟨by kernel_rfl, ?_⟩
    show AWp _ _ _ _ _ _ _
    refine aR ?_
    (refine nx (a_add (gN rfl) rfl rfl rfl rfl rfl rfl (by first | omega | (simp only [List.length_map, List.length_append, List.length_cons, List.length_nil] <;> omega) | (simp <;> omega))) rfl ?_)
    (refine nx (aM (gN rfl) rfl rfl rfl rfl rfl) rfl ?_)
    refine ⟨hkl, Wk.trans (wk_sub (s' := [(3, .bp 3 0 []), (100003, .bx (Tm.cw ⟨f, sidL d⟩)), (5, .own (.lst ((d.take (k + 1)).map Lt.cv)) 300033), (300033, .tok 43 5), (8, .val (.lst (c.map Lt.cv))), (9, .val (.i (c.map Lt.cv).length)), (10, .val (.i ((k + 1 : Nat) : Int)))]) ⟨rfl, rfl, ?_, rfl, rfl, rfl, rfl, trivial⟩) (wk_ren 300033 200033 rfl rfl rfl rfl)⟩
    rw [List.take_add_one, hy]
    simp only [Option.toList_some, List.map_append, List.map_cons, List.map_nil]
    rfl
  · have hkl : k = d.length := by
      have : ¬ k < c.length := by simpa using hlt
      omega
    subst hkl
    rw [List.take_length]
    refine aE ?_
    show AWp _ _ _ _ _ _ _
    refine aS (aR ?_)
    (refine nx (aM (gN rfl) rfl rfl rfl rfl rfl) rfl ?_)
    (refine nx (aA (gN rfl) rfl rfl rfl rfl rfl) rfl ?_)
    show AWp _ _ _ _ _ _ _
    exact aT (And.intro (.inr rfl) rfl)

def Lt.rep (img : Int → Tm) (l : Lt) : Lt := ⟨l.neg, repT img l.a, repT img l.b⟩
theorem sidL_rep (img : Int → Tm) : ∀ c : List Lt, (sidL c).map (repT img) = sidL (c.map (Lt.rep img))
  | [] => rfl
  | l :: c => by
    show repT img l.a :: repT img l.b :: (sidL c).map (repT img) = _
    rw [sidL_rep img c]
    rfl
theorem rep_sides (img : Int → Tm) (c : List Lt) : repT img ⟨0, sidL c⟩ = ⟨0, sidL (c.map (Lt.rep img))⟩ := by
  rw [repT_sym (show ¬ (0 : Int) < 0 by decide), sidL_rep]
theorem rep_neg (img : Int → Tm) (c : List Lt) : (c.map (Lt.rep img)).map Lt.neg = c.map Lt.neg := by
  rw [List.map_map]; rfl

-- 
theorem cApply_abs (W : World) (L : List Bd) (c : List Lt) (hn : c.length ≤ 1000000) (hl : L.length ≤ 1000000000) (hb : bdsOk L) (hr : (⟨0, sidL c⟩ : Tm).rng) (hok : (⟨0, sidL c⟩ : Tm).ok) : AFun Tryz.prog W 67 [.lst (L.map Bd.cv), .lst (c.map Lt.cv)] (.val (.lst ((c.map (Lt.rep (imgB L))).map Lt.cv))) := by
  have h2 := fun w => applyG_abs w L ⟨0, sidL c⟩ hl hb hr hok
  rw [rep_sides] at h2
  refine afun_of (rs := [.lst ((c.map (Lt.rep (imgB L))).map Lt.cv)]) Tryz.func67 Tryz.ntmps67 rfl rfl rfl rfl ?_
  intro w U hW
  refine aS (aR ?_)
  (refine nx (aA (gN rfl) rfl rfl rfl rfl rfl) rfl ?_)
  show AWp _ _ _ _ _ _ _
  refine aS (aR ?_)
  (refine nx (aM (gN rfl) rfl rfl rfl rfl rfl) rfl ?_)
  (refine nx (aM (gN rfl) rfl rfl rfl rfl rfl) rfl ?_)
  (refine nx (aM (gN rfl) rfl rfl rfl rfl rfl) rfl ?_)
  (refine nx (a_call (gN rfl) rfl rfl rfl rfl rfl (cSides_abs w c hn)) rfl ?_)
  (refine nx (a_call (gN rfl) rfl rfl rfl rfl rfl (h2 w)) rfl ?_)
  (refine nx (a_call (gN rfl) rfl rfl rfl rfl rfl (cWith_abs w c _ 0 hn (rep_neg _ c))) rfl ?_)
  (refine nx (aA (gN rfl) rfl rfl rfl rfl rfl) rfl ?_)
  show AWp _ _ _ _ _ _ _
  exact aT (And.intro (.inr rfl) rfl)

-- 
theorem cRename_abs (W : World) (c : List Lt) (by_ : Int) (hn : c.length ≤ 1000000) (hr : (⟨0, sidL c⟩ : Tm).rng) (hok : (⟨0, sidL c⟩ : Tm).ok) : AFun Tryz.prog W 18 [.lst (c.map Lt.cv), .i by_] (.val (.lst ((c.map (Lt.rep fun v => varT (upV (max by_ 0) v))).map Lt.cv))) := by
  have h2 := fun w => rename_abs w ⟨0, sidL c⟩ by_ hr hok
  rw [rep_sides] at h2
  refine afun_of (rs := [.lst ((c.map (Lt.rep fun v => varT (upV (max by_ 0) v))).map Lt.cv)]) Tryz.func18 Tryz.ntmps18 rfl rfl rfl rfl ?_
  intro w U hW
  refine aS (aR ?_)
  (refine nx (aA (gN rfl) rfl rfl rfl rfl rfl) rfl ?_)
  show AWp _ _ _ _ _ _ _
  refine aS (aR ?_)
  (refine nx (aM (gN rfl) rfl rfl rfl rfl rfl) rfl ?_)
  (refine nx (aM (gN rfl) rfl rfl rfl rfl rfl) rfl ?_)
  (refine nx (a_call (gN rfl) rfl rfl rfl rfl rfl (cSides_abs w c hn)) rfl ?_)
  (refine nx (aM (gN rfl) rfl rfl rfl rfl rfl) rfl ?_)
  (refine nx (a_call (gN rfl) rfl rfl rfl rfl rfl (h2 w)) rfl ?_)
  (refine nx (a_call (gN rfl) rfl rfl rfl rfl rfl (cWith_abs w c _ 0 hn (rep_neg _ c))) rfl ?_)
  (refine nx (aA (gN rfl) rfl rfl rfl rfl rfl) rfl ?_)
  show AWp _ _ _ _ _ _ _
  exact aT (And.intro (.inr rfl) rfl)
end Go.Proofs.YteegmcfobgpemaaGreat
namespace Go.Proofs.YteegmcfobgpemaaGreat
open Go.RowKit
set_option linter.unusedVariables false
set_option linter.unusedSimpArgs false
section
variable {α β : Type}
end
def sgZ (b : Bool) : Int := if b then 1 else 0
open Classical in
section
variable {P : Program} {w0 : World} {U0 : UX} {nt : Nat} {ops : Array Oper} {o : Oper} {S : Nat → Option AV} {gs : List Nat} {d : Nat}
variable (hg : Gd w0 U0 nt ops o gs S) (hd : o.dst = some d) (hn : Nat.blt d nt = true) (h5 : Nat.blt d 100000 = true)
include hg hd hn h5
end
end Go.Proofs.YteegmcfobgpemaaGreat
namespace Go.Proofs.YteegmcfobgpemaaGreat
set_option linter.unusedVariables false

end Go.Proofs.YteegmcfobgpemaaGreat
namespace Go.Proofs.YteegmcfobgpemaaGreat
open Go.RowKit
set_option linter.unusedVariables false











end Go.Proofs.YteegmcfobgpemaaGreat
namespace Go.Proofs.YteegmcfobgpemaaGreat
set_option linter.unusedVariables false
set_option linter.unusedSimpArgs false

end Go.Proofs.YteegmcfobgpemaaGreat
namespace Go.Proofs.YteegmcfobgpemaaGreat
open Go.RowKit
set_option linter.unusedVariables false
set_option linter.unusedSimpArgs false
set_option maxRecDepth 100000





def finL (size : Int) (l : Lt) : Bool := decide (0 ≤ smallT l.a size 8) && decide (0 ≤ smallT l.b size 8)
def fineC (c : List Lt) (most : Nat) (size : Int) : Bool := decide (c.length ≤ most) && c.all (finL size)
-- 
set_option maxHeartbeats 1000000 in
theorem fine11_abs (W : World) (c : List Lt) (most : Nat) (size : Int) (hm : most ≤ 1000) (h0 : 0 ≤ size) (h1 : size ≤ 60) (hr : okC c) : AFun Tryz.prog W 8 [.lst (c.map Lt.cv), .i (most : Int), .i size] (.val (.b (fineC c most size))) := by
  have hsz := Lt.size_all c
  refine afun_of (rs := [.b (fineC c most size)]) Tryz.func8 Tryz.ntmps8 rfl rfl rfl rfl ?_
  intro w U hW
  refine aS (aR ?_)
  (refine nx (aA (gN rfl) rfl rfl rfl rfl rfl) rfl ?_)
  show AWp _ _ _ _ _ _ _
  refine aS (aS (aR ?_))
  (refine nx (aM (gN rfl) rfl rfl rfl rfl rfl) rfl ?_)
  (refine nx (a_len (gN rfl) rfl rfl rfl rfl rfl rfl rfl) rfl ?_)
  (refine nx (aM (gN rfl) rfl rfl rfl rfl rfl) rfl ?_)
  (refine nx (a_gtr (gN rfl) rfl rfl rfl rfl rfl rfl) rfl ?_)
  show AWp _ _ _ _ _ _ _
  refine aC rfl (fun hc => ?_) (fun hc => ?_)
  · have hno : fineC c most size = false := by
      have := of_decide_eq_true hc
      rw [List.length_map] at this
      unfold fineC
      rw [show decide (c.length ≤ most) = false by rw [decide_eq_false_iff_not]; omega]
      rfl
    rw [hno]
    refine aS (aR ?_)
    (refine nx (aA (gN rfl) rfl rfl rfl rfl rfl) rfl ?_)
    show AWp _ _ _ _ _ _ _
    exact aT (And.intro (.inr rfl) rfl)
  have hl : c.length ≤ most := by
    have := of_decide_eq_false hc
    rw [List.length_map] at this
    omega
  refine aK ?_
  show AWp _ _ _ _ _ _ _
  refine aS (aS (aR ?_))
  (refine nx (aA (gN rfl) rfl rfl rfl rfl rfl) rfl ?_)
  show AWp _ _ _ _ _ _ _
  refine aB (awp_countI c.length (fun k => ∀ l ∈ c.take k, finL size l = true) (fun k => [(0, .val (.lst (c.map Lt.cv))), (2, .val (.i size)), (7, .val (.i k))]) (wk_sub ⟨rfl, rfl, rfl, trivial⟩) (by simp) ?_)
  intro k hk hI
  refine aS (aS (aR ?_))
  (refine nx (aM (gN rfl) rfl rfl rfl rfl rfl) rfl ?_)
  (refine nx (aM (gN rfl) rfl rfl rfl rfl rfl) rfl ?_)
  (refine nx (a_len (gN rfl) rfl rfl rfl rfl rfl rfl rfl) rfl ?_)
  (refine nx (a_lss (gN rfl) rfl rfl rfl rfl rfl rfl) rfl ?_)
  show AWp _ _ _ _ _ _ _
  refine aC rfl (fun hlt => ?_) (fun hlt => ?_)
  · have hkl : k < c.length := by simpa using hlt
    obtain ⟨x, hx⟩ : ∃ x, c[k]? = some x := ⟨c[k], List.getElem?_eq_getElem hkl⟩
    have hx' := Lt.map_at hx
    have hxm := List.mem_of_getElem? hx
    have sa := small_abs w x.a size 8 (hr x hxm).1 h0 h1 (by decide) (by decide)
    have sb := small_abs w x.b size 8 (hr x hxm).2 h0 h1 (by decide) (by decide)
    have hno : finL size x = false → fineC c most size = false := fun h => by
      unfold fineC
      rw [show c.all (finL size) = false from List.all_eq_false.2 ⟨x, hxm, by rw [h]; simp⟩, Bool.and_false]
    refine aK ?_
    show AWp _ _ _ _ _ _ _
    by_cases ha : smallT x.a size 8 < 0
    · have ga : decide (smallT x.a size 8 < 0) = true := by simpa using ha
      rw [hno (by unfold finL; rw [show decide (0 ≤ smallT x.a size 8) = false by rw [decide_eq_false_iff_not]; omega]; rfl)]
      refine aS (aB (aS (aR ?_)))
      (refine nx (aM (gN rfl) rfl rfl rfl rfl rfl) rfl ?_)
      (refine nx (aM (gN rfl) rfl rfl rfl rfl rfl) rfl ?_)
      (refine nx (a_index (j := k) (gN rfl) rfl rfl rfl rfl rfl rfl rfl rfl rfl (hx') rfl (hsz)) rfl ?_)
      (refine nx (a_field_ad (gN rfl) rfl rfl rfl rfl rfl rfl rfl rfl rfl rfl rfl) rfl ?_)
      (refine nx (a_load_ad (gN rfl) rfl rfl rfl rfl rfl rfl rfl rfl rfl) rfl ?_)
      (refine nx (aM (gN rfl) rfl rfl rfl rfl rfl) rfl ?_)
      (refine nx (a_call (gN rfl) rfl rfl rfl rfl rfl (sa)) rfl ?_)
      (refine nx (a_lss (gN rfl) rfl rfl rfl rfl rfl rfl) rfl ?_)
      (refine nx (aM (gN rfl) rfl rfl rfl rfl rfl) rfl ?_)
      (refine ⟨_, _, _, a_off (go_off rfl rfl rfl rfl (by first | rfl | assumption | (simp; done) | (simp [*]; done))) rfl rfl rfl, rfl, ?_⟩)
      (refine ⟨_, _, _, a_off (go_off rfl rfl rfl rfl (by first | rfl | assumption | (simp; done) | (simp [*]; done))) rfl rfl rfl, rfl, ?_⟩)
      (refine ⟨_, _, _, a_off (go_off rfl rfl rfl rfl (by first | rfl | assumption | (simp; done) | (simp [*]; done))) rfl rfl rfl, rfl, ?_⟩)
      (refine ⟨_, _, _, a_off (go_off rfl rfl rfl rfl (by first | rfl | assumption | (simp; done) | (simp [*]; done))) rfl rfl rfl, rfl, ?_⟩)
      (refine ⟨_, _, _, a_off (go_off rfl rfl rfl rfl (by first | rfl | assumption | (simp; done) | (simp [*]; done))) rfl rfl rfl, rfl, ?_⟩)
      (refine ⟨_, _, _, a_off (go_off rfl rfl rfl rfl (by first | rfl | assumption | (simp; done) | (simp [*]; done))) rfl rfl rfl, rfl, ?_⟩)
      (refine ⟨_, _, _, a_off (go_off rfl rfl rfl rfl (by first | rfl | assumption | (simp; done) | (simp [*]; done))) rfl rfl rfl, rfl, ?_⟩)
      (refine ⟨_, _, _, a_off (go_off rfl rfl rfl rfl (by first | rfl | assumption | (simp; done) | (simp [*]; done))) rfl rfl rfl, rfl, ?_⟩)
      (refine ⟨_, _, _, aPt (gN rfl) rfl rfl rfl rfl rfl ?hb rfl, rfl, ?_⟩; case hb => (first | rfl | assumption | (simp; done)))
      show AWp _ _ _ _ _ _ _
      refine aC rfl (fun hc2 => ?_) (fun hc2 => by cases hc2)
      refine aS (aR ?_)
      (refine nx (aA (gN rfl) rfl rfl rfl rfl rfl) rfl ?_)
      show AWp _ _ _ _ _ _ _
      exact aT (And.intro (.inr rfl) rfl)
    · have ga : decide (smallT x.a size 8 < 0) = false := by simpa using ha
      refine aS (aB (aS (aR ?_)))
      (refine nx (aM (gN rfl) rfl rfl rfl rfl rfl) rfl ?_)
      (refine nx (aM (gN rfl) rfl rfl rfl rfl rfl) rfl ?_)
      (refine nx (a_index (j := k) (gN rfl) rfl rfl rfl rfl rfl rfl rfl rfl rfl (hx') rfl (hsz)) rfl ?_)
      (refine nx (a_field_ad (gN rfl) rfl rfl rfl rfl rfl rfl rfl rfl rfl rfl rfl) rfl ?_)
      (refine nx (a_load_ad (gN rfl) rfl rfl rfl rfl rfl rfl rfl rfl rfl) rfl ?_)
      (refine nx (aM (gN rfl) rfl rfl rfl rfl rfl) rfl ?_)
      (refine nx (a_call (gN rfl) rfl rfl rfl rfl rfl (sa)) rfl ?_)
      (refine nx (a_lss (gN rfl) rfl rfl rfl rfl rfl rfl) rfl ?_)
      (refine nx (aM (gN rfl) rfl rfl rfl rfl rfl) rfl ?_)
      (refine nx (aM (gd_on rfl rfl rfl rfl (by first | rfl | assumption | (simp; done))) rfl rfl rfl rfl rfl) rfl ?_)
      (refine nx (aM (gd_on rfl rfl rfl rfl (by first | rfl | assumption | (simp; done))) rfl rfl rfl rfl rfl) rfl ?_)
      (refine nx (a_index (j := k) (gd_on rfl rfl rfl rfl (by first | rfl | assumption | (simp; done))) rfl rfl rfl rfl rfl rfl rfl rfl rfl (hx') rfl (hsz)) rfl ?_)
      (refine nx (a_field_ad (gd_on rfl rfl rfl rfl (by first | rfl | assumption | (simp; done))) rfl rfl rfl rfl rfl rfl rfl rfl rfl rfl rfl) rfl ?_)
      (refine nx (a_load_ad (gd_on rfl rfl rfl rfl (by first | rfl | assumption | (simp; done))) rfl rfl rfl rfl rfl rfl rfl rfl rfl) rfl ?_)
      (refine nx (aM (gd_on rfl rfl rfl rfl (by first | rfl | assumption | (simp; done))) rfl rfl rfl rfl rfl) rfl ?_)
      (refine nx (a_call (gd_on rfl rfl rfl rfl (by first | rfl | assumption | (simp; done))) rfl rfl rfl rfl rfl (sb)) rfl ?_)
      (refine nx (a_lss (gd_on rfl rfl rfl rfl (by first | rfl | assumption | (simp; done))) rfl rfl rfl rfl rfl rfl) rfl ?_)
      (refine ⟨_, _, _, aPf (gN rfl) rfl rfl rfl rfl rfl ?hb rfl, rfl, ?_⟩; case hb => (first | rfl | assumption | (simp; done)))
      show AWp _ _ _ _ _ _ _
      refine aC rfl (fun hc2 => ?_) (fun hc2 => ?_)
      · have hb := of_decide_eq_true hc2
        rw [hno (by unfold finL; rw [show decide (0 ≤ smallT x.b size 8) = false by rw [decide_eq_false_iff_not]; omega]; simp)]
        refine aS (aR ?_)
        (refine nx (aA (gN rfl) rfl rfl rfl rfl rfl) rfl ?_)
        show AWp _ _ _ _ _ _ _
        exact aT (And.intro (.inr rfl) rfl)
      · have hb := of_decide_eq_false hc2
        refine aK ?_
        show AWp _ _ _ _ _ _ _
        refine aR ?_
        (refine nx (aM (gN rfl) rfl rfl rfl rfl rfl) rfl ?_)
        (refine nx (a_add (gN rfl) rfl rfl rfl rfl rfl rfl (by first | omega | (simp only [List.length_map, List.length_append, List.length_cons, List.length_nil] <;> omega) | (simp <;> omega))) rfl ?_)
        (refine nx (aA (gN rfl) rfl rfl rfl rfl rfl) rfl ?_)
        refine ⟨hkl, ?_, wk_sub ⟨rfl, rfl, rfl, trivial⟩⟩
        intro y hy
        rw [List.take_add_one, hx, List.mem_append] at hy
        rcases hy with hy | hy
        · exact hI y hy
        · simp at hy
          rw [hy]
          unfold finL
          rw [show decide (0 ≤ smallT x.a size 8) = true by rw [decide_eq_true_eq]; omega, show decide (0 ≤ smallT x.b size 8) = true by rw [decide_eq_true_eq]; omega]
          rfl
  · have hkl : k = c.length := by
      have : ¬ k < c.length := by simpa using hlt
      omega
    subst hkl
    rw [List.take_length] at hI
    have hyes : fineC c most size = true := by
      unfold fineC
      rw [show decide (c.length ≤ most) = true by simpa using hl, Bool.true_and]
      exact List.all_eq_true.2 hI
    rw [hyes]
    refine aE ?_
    show AWp _ _ _ _ _ _ _
    refine aS (aR ?_)
    (refine nx (aA (gN rfl) rfl rfl rfl rfl rfl) rfl ?_)
    show AWp _ _ _ _ _ _ _
    exact aT (And.intro (.inr rfl) rfl)
theorem fineC_facts {c : List Lt} {most : Nat} {size : Int} (h0 : 0 ≤ size) (h1 : size ≤ 60) (h : fineC c most size = true) : c.length ≤ most ∧ ∀ l ∈ c, ((l.a.sm ∧ l.a.rng ∧ l.a.ok) ∧ (l.a.wt : Int) ≤ size ∧ (l.a.size : Int) ≤ size) ∧ ((l.b.sm ∧ l.b.rng ∧ l.b.ok) ∧ (l.b.wt : Int) ≤ size ∧ (l.b.size : Int) ≤ size) := by
  unfold fineC at h
  rw [Bool.and_eq_true, decide_eq_true_eq] at h
  refine ⟨h.1, fun l hl => ?_⟩
  have hf := List.all_eq_true.1 h.2 l hl
  unfold finL at hf
  rw [Bool.and_eq_true, decide_eq_true_eq, decide_eq_true_eq] at hf
  have key : ∀ t : Tm, 0 ≤ smallT t size 8 → (t.sm ∧ t.rng ∧ t.ok) ∧ (t.wt : Int) ≤ size ∧ (t.size : Int) ≤ size := fun t ht => by
    have hsm := small_sm t _ _ ht
    have hwt : (t.wt : Int) ≤ size := by have := (small_bounds t size 8 h0).2.2 ht; omega
    have := t.size_wt
    exact ⟨⟨hsm, Tm.sm_rng hsm, Tm.wt_ok (t := t) (by omega)⟩, hwt, by omega⟩
  exact ⟨key _ hf.1, key _ hf.2⟩
-- 
set_option maxHeartbeats 1000000 in
theorem of11I_abs (W : World) (c : List Lt) (hl : c.length ≤ 1000000) (hc : ∀ l ∈ c, l.a.ok ∧ l.b.ok) : AFun Tryz.prog W 9 [.lst (c.map Lt.cv)] (.val (.lst ((c.map id).map Lt.cv))) := by
  have hsz := Lt.size_all c
  refine afun_of (rs := [.lst ((c.map id).map Lt.cv)]) Tryz.func9 Tryz.ntmps9 rfl rfl rfl rfl ?_
  intro w U hW
  refine aS (aR ?_)
  (refine nx (aA (gN rfl) rfl rfl rfl rfl rfl) rfl ?_)
  show AWp _ _ _ _ _ _ _
  refine aS (aR ?_)
  (refine nx (aA (gN rfl) rfl rfl rfl rfl rfl) rfl ?_)
  show AWp _ _ _ _ _ _ _
  refine aS (aS (aR ?_))
  (refine nx (aA (gN rfl) rfl rfl rfl rfl rfl) rfl ?_)
  show AWp _ _ _ _ _ _ _
  refine aB (awp_count c.length (fun k => [(0, .val (.lst (c.map Lt.cv))), (3, .own (.lst (((c.take k).map id).map Lt.cv)) 200031), (200031, .tok 43 5), (4, .val (.i k))]) ((wk_nil 3 200031 43 5 rfl rfl rfl rfl rfl rfl rfl).trans (wk_sub ⟨rfl, rfl, rfl, rfl, trivial⟩)) ?_)
  intro k hk
  have hks := Lt.size_all ((c.take k).map id)
  refine aS (aS (aR ?_))
  (refine nx (aM (gN rfl) rfl rfl rfl rfl rfl) rfl ?_)
  (refine nx (aM (gN rfl) rfl rfl rfl rfl rfl) rfl ?_)
  (refine nx (a_len (gN rfl) rfl rfl rfl rfl rfl rfl rfl) rfl ?_)
  (refine nx (a_lss (gN rfl) rfl rfl rfl rfl rfl rfl) rfl ?_)
  show AWp _ _ _ _ _ _ _
  refine aC rfl (fun hlt => ?_) (fun hlt => ?_)
  · have hkl : k < c.length := by simpa using hlt
    obtain ⟨x, hx⟩ : ∃ x, c[k]? = some x := ⟨c[k], List.getElem?_eq_getElem hkl⟩
    have hx' := Lt.map_at hx
    have hxm := List.mem_of_getElem? hx
    have hkn : (((c.take k).map id).map Lt.cv).length ≤ 1000000 := by rw [List.length_map, List.length_map, List.length_take]; omega
    refine aK ?_
    show AWp _ _ _ _ _ _ _
    refine aS (aB (aD (by kernel_rfl) (by kernel_rfl) ?_))
    (refine nx (aM (gN rfl) rfl rfl rfl rfl rfl) rfl ?_)
    (refine nx (aM (gN rfl) rfl rfl rfl rfl rfl) rfl ?_)
    (refine nx (aM (gN rfl) rfl rfl rfl rfl rfl) rfl ?_)
    (refine nx (a_index (j := k) (gN rfl) rfl rfl rfl rfl rfl rfl rfl rfl rfl (hx') rfl (hsz)) rfl ?_)
    (refine nx (a_field_ad (gN rfl) rfl rfl rfl rfl rfl rfl rfl rfl rfl rfl rfl) rfl ?_)
    (refine nx (a_load_ad (gN rfl) rfl rfl rfl rfl rfl rfl rfl rfl rfl) rfl ?_)
    (refine nx (aM (gN rfl) rfl rfl rfl rfl rfl) rfl ?_)
    (refine nx (aM (gN rfl) rfl rfl rfl rfl rfl) rfl ?_)
    (refine nx (a_index (j := k) (gN rfl) rfl rfl rfl rfl rfl rfl rfl rfl rfl (hx') rfl (hsz)) rfl ?_)
    (refine nx (a_field_ad (gN rfl) rfl rfl rfl rfl rfl rfl rfl rfl rfl rfl rfl) rfl ?_)
    (refine nx (a_load_ad (gN rfl) rfl rfl rfl rfl rfl rfl rfl rfl rfl) rfl ?_)
    (refine nx (a_call (gN rfl) rfl rfl rfl rfl rfl (of_abs w x.a (hc x hxm).1)) rfl ?_)
    (refine nx (aM (gN rfl) rfl rfl rfl rfl rfl) rfl ?_)
    (refine nx (aM (gN rfl) rfl rfl rfl rfl rfl) rfl ?_)
    (refine nx (a_index (j := k) (gN rfl) rfl rfl rfl rfl rfl rfl rfl rfl rfl (hx') rfl (hsz)) rfl ?_)
    (refine nx (a_field_ad (gN rfl) rfl rfl rfl rfl rfl rfl rfl rfl rfl rfl rfl) rfl ?_)
    (refine nx (a_load_ad (gN rfl) rfl rfl rfl rfl rfl rfl rfl rfl rfl) rfl ?_)
    (refine nx (a_call (gN rfl) rfl rfl rfl rfl rfl (of_abs w x.b (hc x hxm).2)) rfl ?_)
    (refine nx (a_build (gN rfl) rfl rfl rfl rfl rfl rfl rfl rfl rfl rfl rfl) rfl ?_)
    (refine nx (a_bslice (gN rfl) rfl rfl rfl rfl rfl rfl rfl rfl rfl rfl rfl rfl rfl) rfl ?_)
    (refine nx (a_app (gN rfl) rfl rfl rfl rfl rfl rfl rfl rfl rfl rfl rfl rfl rfl rfl rfl (by first | assumption | exact sZ rfl | exact Tm.size_all _ | exact Bd.size_all _ | exact ints_size _ | exact bys_size _ | exact Lt.size_all _) (by first | assumption | exact sZ rfl | exact Tm.size_all _ | exact Bd.size_all _ | exact ints_size _ | exact bys_size _ | exact Lt.size_all _) (by first | omega | (simp only [List.length_map, List.length_append, List.length_cons, List.length_nil] <;> omega) | (simp <;> omega))) rfl ?_)
    (refine nx (aA (gN rfl) rfl rfl rfl rfl rfl) rfl ?_)
    refine ⟨by kernel_rfl, ?_⟩
    show AWp _ _ _ _ _ _ _
    refine aR ?_
    (refine nx (aM (gN rfl) rfl rfl rfl rfl rfl) rfl ?_)
    (refine nx (a_add (gN rfl) rfl rfl rfl rfl rfl rfl (by first | omega | (simp only [List.length_map, List.length_append, List.length_cons, List.length_nil] <;> omega) | (simp <;> omega))) rfl ?_)
    (refine nx (aA (gN rfl) rfl rfl rfl rfl rfl) rfl ?_)
    refine ⟨hkl, Wk.trans (wk_sub (s' := [(0, .val (.lst (c.map Lt.cv))), (3, .own (.lst (((c.take (k + 1)).map id).map Lt.cv)) 300031), (300031, .tok 43 5), (4, .val (.i ((k + 1 : Nat) : Int)))]) ⟨rfl, ?_, rfl, rfl, trivial⟩) (wk_ren 300031 200031 rfl rfl rfl rfl)⟩
    rw [List.take_add_one, hx, List.map_append, List.map_append]
    rfl
  · have hkl : k = c.length := by
      have : ¬ k < c.length := by simpa using hlt
      omega
    subst hkl
    rw [List.take_length]
    refine aE ?_
    show AWp _ _ _ _ _ _ _
    refine aS (aR ?_)
    (refine nx (aM (gN rfl) rfl rfl rfl rfl rfl) rfl ?_)
    (refine nx (aA (gN rfl) rfl rfl rfl rfl rfl) rfl ?_)
    show AWp _ _ _ _ _ _ _
    exact aT (And.intro (.inr rfl) rfl)
-- 
set_option maxHeartbeats 1000000 in
theorem to11_abs (W : World) (c : List Lt) (hl : c.length ≤ 1000000) (hc : ∀ l ∈ c, l.a.ok ∧ l.b.ok) : AFun Tryz.prog W 17 [.lst (c.map Lt.cv)] (.val (.lst ((c.map Lt.strip).map Lt.cv))) := by
  have hsz := Lt.size_all c
  refine afun_of (rs := [.lst ((c.map Lt.strip).map Lt.cv)]) Tryz.func17 Tryz.ntmps17 rfl rfl rfl rfl ?_
  intro w U hW
  refine aS (aR ?_)
  (refine nx (aA (gN rfl) rfl rfl rfl rfl rfl) rfl ?_)
  show AWp _ _ _ _ _ _ _
  refine aS (aR ?_)
  (refine nx (aA (gN rfl) rfl rfl rfl rfl rfl) rfl ?_)
  show AWp _ _ _ _ _ _ _
  refine aS (aS (aR ?_))
  (refine nx (aA (gN rfl) rfl rfl rfl rfl rfl) rfl ?_)
  show AWp _ _ _ _ _ _ _
  refine aB (awp_count c.length (fun k => [(0, .val (.lst (c.map Lt.cv))), (3, .own (.lst (((c.take k).map Lt.strip).map Lt.cv)) 200031), (200031, .tok 52 5), (4, .val (.i k))]) ((wk_nil 3 200031 52 5 rfl rfl rfl rfl rfl rfl rfl).trans (wk_sub ⟨rfl, rfl, rfl, rfl, trivial⟩)) ?_)
  intro k hk
  have hks := Lt.size_all ((c.take k).map Lt.strip)
  refine aS (aS (aR ?_))
  (refine nx (aM (gN rfl) rfl rfl rfl rfl rfl) rfl ?_)
  (refine nx (aM (gN rfl) rfl rfl rfl rfl rfl) rfl ?_)
  (refine nx (a_len (gN rfl) rfl rfl rfl rfl rfl rfl rfl) rfl ?_)
  (refine nx (a_lss (gN rfl) rfl rfl rfl rfl rfl rfl) rfl ?_)
  show AWp _ _ _ _ _ _ _
  refine aC rfl (fun hlt => ?_) (fun hlt => ?_)
  · have hkl : k < c.length := by simpa using hlt
    obtain ⟨x, hx⟩ : ∃ x, c[k]? = some x := ⟨c[k], List.getElem?_eq_getElem hkl⟩
    have hx' := Lt.map_at hx
    have hxm := List.mem_of_getElem? hx
    have hkn : (((c.take k).map Lt.strip).map Lt.cv).length ≤ 1000000 := by rw [List.length_map, List.length_map, List.length_take]; omega
    refine aK ?_
    show AWp _ _ _ _ _ _ _
    refine aS (aB (aD (by kernel_rfl) (by kernel_rfl) ?_))
    (refine nx (aM (gN rfl) rfl rfl rfl rfl rfl) rfl ?_)
    (refine nx (aM (gN rfl) rfl rfl rfl rfl rfl) rfl ?_)
    (refine nx (aM (gN rfl) rfl rfl rfl rfl rfl) rfl ?_)
    (refine nx (a_index (j := k) (gN rfl) rfl rfl rfl rfl rfl rfl rfl rfl rfl (hx') rfl (hsz)) rfl ?_)
    (refine nx (a_field_ad (gN rfl) rfl rfl rfl rfl rfl rfl rfl rfl rfl rfl rfl) rfl ?_)
    (refine nx (a_load_ad (gN rfl) rfl rfl rfl rfl rfl rfl rfl rfl rfl) rfl ?_)
    (refine nx (aM (gN rfl) rfl rfl rfl rfl rfl) rfl ?_)
    (refine nx (aM (gN rfl) rfl rfl rfl rfl rfl) rfl ?_)
    (refine nx (a_index (j := k) (gN rfl) rfl rfl rfl rfl rfl rfl rfl rfl rfl (hx') rfl (hsz)) rfl ?_)
    (refine nx (a_field_ad (gN rfl) rfl rfl rfl rfl rfl rfl rfl rfl rfl rfl rfl) rfl ?_)
    (refine nx (a_load_ad (gN rfl) rfl rfl rfl rfl rfl rfl rfl rfl rfl) rfl ?_)
    (refine nx (a_call (gN rfl) rfl rfl rfl rfl rfl (to_abs w x.a (hc x hxm).1)) rfl ?_)
    (refine nx (aM (gN rfl) rfl rfl rfl rfl rfl) rfl ?_)
    (refine nx (aM (gN rfl) rfl rfl rfl rfl rfl) rfl ?_)
    (refine nx (a_index (j := k) (gN rfl) rfl rfl rfl rfl rfl rfl rfl rfl rfl (hx') rfl (hsz)) rfl ?_)
    (refine nx (a_field_ad (gN rfl) rfl rfl rfl rfl rfl rfl rfl rfl rfl rfl rfl) rfl ?_)
    (refine nx (a_load_ad (gN rfl) rfl rfl rfl rfl rfl rfl rfl rfl rfl) rfl ?_)
    (refine nx (a_call (gN rfl) rfl rfl rfl rfl rfl (to_abs w x.b (hc x hxm).2)) rfl ?_)
    (refine nx (a_build (gN rfl) rfl rfl rfl rfl rfl rfl rfl rfl rfl rfl rfl) rfl ?_)
    (refine nx (a_bslice (gN rfl) rfl rfl rfl rfl rfl rfl rfl rfl rfl rfl rfl rfl rfl) rfl ?_)
    (refine nx (a_app (gN rfl) rfl rfl rfl rfl rfl rfl rfl rfl rfl rfl rfl rfl rfl rfl rfl (by first | assumption | exact sZ rfl | exact Tm.size_all _ | exact Bd.size_all _ | exact ints_size _ | exact bys_size _ | exact Lt.size_all _) (by first | assumption | exact sZ rfl | exact Tm.size_all _ | exact Bd.size_all _ | exact ints_size _ | exact bys_size _ | exact Lt.size_all _) (by first | omega | (simp only [List.length_map, List.length_append, List.length_cons, List.length_nil] <;> omega) | (simp <;> omega))) rfl ?_)
    (refine nx (aA (gN rfl) rfl rfl rfl rfl rfl) rfl ?_)
    refine ⟨by kernel_rfl, ?_⟩
    show AWp _ _ _ _ _ _ _
    refine aR ?_
    (refine nx (aM (gN rfl) rfl rfl rfl rfl rfl) rfl ?_)
    (refine nx (a_add (gN rfl) rfl rfl rfl rfl rfl rfl (by first | omega | (simp only [List.length_map, List.length_append, List.length_cons, List.length_nil] <;> omega) | (simp <;> omega))) rfl ?_)
    (refine nx (aA (gN rfl) rfl rfl rfl rfl rfl) rfl ?_)
    refine ⟨hkl, Wk.trans (wk_sub (s' := [(0, .val (.lst (c.map Lt.cv))), (3, .own (.lst (((c.take (k + 1)).map Lt.strip).map Lt.cv)) 300031), (300031, .tok 52 5), (4, .val (.i ((k + 1 : Nat) : Int)))]) ⟨rfl, ?_, rfl, rfl, trivial⟩) (wk_ren 300031 200031 rfl rfl rfl rfl)⟩
    rw [List.take_add_one, hx, List.map_append, List.map_append]
    rfl
  · have hkl : k = c.length := by
      have : ¬ k < c.length := by simpa using hlt
      omega
    subst hkl
    rw [List.take_length]
    refine aE ?_
    show AWp _ _ _ _ _ _ _
    refine aS (aR ?_)
    (refine nx (aM (gN rfl) rfl rfl rfl rfl rfl) rfl ?_)
    (refine nx (aA (gN rfl) rfl rfl rfl rfl rfl) rfl ?_)
    show AWp _ _ _ _ _ _ _
    exact aT (And.intro (.inr rfl) rfl)
theorem of11_abs (W : World) (c : List Lt) (hl : c.length ≤ 1000000) (hc : ∀ l ∈ c, l.a.ok ∧ l.b.ok) : AFun Tryz.prog W 9 [.lst (c.map Lt.cv)] (.val (.lst (c.map Lt.cv))) := by
  have := of11I_abs W c hl hc
  rw [List.map_id] at this
  exact this
def sameL (x y : Lt) : Bool := (x.neg == y.neg) && (sameT x.a y.a && sameT x.b y.b)
theorem sameL_iff (x y : Lt) : sameL x y = true ↔ x.strip = y.strip := by
  unfold sameL
  rw [Bool.and_eq_true, Bool.and_eq_true, sameT_iff, sameT_iff, beq_iff_eq]
  cases x
  cases y
  simp [Lt.strip]
-- 
theorem sameLit_abs (W : World) (x y : Lt) (hx : x.a.ok ∧ x.b.ok) (hy : y.a.ok ∧ y.b.ok) : AFun Tryz.prog W 43 [x.cw, y.cw] (.val (.b (sameL x y))) := by
  refine afun_of (rs := [.b (sameL x y)]) Tryz.func43 Tryz.ntmps43 rfl rfl rfl rfl ?_
  intro w U hW
  have ha := refSame_abs w x.a y.a hx.1 hy.1
  have hb := refSame_abs w x.b y.b hx.2 hy.2
  refine aS (aR ?_)
  (refine nx (a_box (gN rfl) rfl rfl rfl rfl rfl) rfl ?_)
  (refine nx (a_box (gN rfl) rfl rfl rfl rfl rfl) rfl ?_)
  (refine nx (aA (gN rfl) rfl rfl rfl rfl rfl) rfl ?_)
  show AWp _ _ _ _ _ _ _
  cases hn : (x.neg == y.neg) with
  | false =>
    have e : sameL x y = false := by unfold sameL; rw [hn]; rfl
    rw [e]
    refine aS (aR ?_)
    (refine nx (aF (gN rfl) rfl rfl rfl rfl rfl rfl rfl rfl rfl) rfl ?_)
    (refine nx (aLb (gN rfl) rfl rfl rfl rfl rfl rfl rfl rfl rfl rfl rfl rfl) rfl ?_)
    (refine nx (aF (gN rfl) rfl rfl rfl rfl rfl rfl rfl rfl rfl) rfl ?_)
    (refine nx (aLb (gN rfl) rfl rfl rfl rfl rfl rfl rfl rfl rfl rfl rfl rfl) rfl ?_)
    (refine nx (a_beq (gN rfl) rfl rfl rfl rfl rfl rfl rfl) rfl ?_)
    (refine nx (aM (gN rfl) rfl rfl rfl rfl rfl) rfl ?_)
    (refine ⟨_, _, _, a_off (go_off rfl rfl rfl rfl (by first | rfl | assumption | (simp; done) | (simp [*]; done))) rfl rfl rfl, rfl, ?_⟩)
    (refine ⟨_, _, _, a_off (go_off rfl rfl rfl rfl (by first | rfl | assumption | (simp; done) | (simp [*]; done))) rfl rfl rfl, rfl, ?_⟩)
    (refine ⟨_, _, _, a_off (go_off rfl rfl rfl rfl (by first | rfl | assumption | (simp; done) | (simp [*]; done))) rfl rfl rfl, rfl, ?_⟩)
    (refine ⟨_, _, _, a_off (go_off rfl rfl rfl rfl (by first | rfl | assumption | (simp; done) | (simp [*]; done))) rfl rfl rfl, rfl, ?_⟩)
    (refine ⟨_, _, _, a_off (go_off rfl rfl rfl rfl (by first | rfl | assumption | (simp; done) | (simp [*]; done))) rfl rfl rfl, rfl, ?_⟩)
    (refine ⟨_, _, _, aPf (gN rfl) rfl rfl rfl rfl rfl ?hb rfl, rfl, ?_⟩; case hb => (first | rfl | assumption | (simp; done)))
    (refine nx (aM (gN rfl) rfl rfl rfl rfl rfl) rfl ?_)
    (refine ⟨_, _, _, a_off (go_off rfl rfl rfl rfl (by first | rfl | assumption | (simp; done) | (simp [*]; done))) rfl rfl rfl, rfl, ?_⟩)
    (refine ⟨_, _, _, a_off (go_off rfl rfl rfl rfl (by first | rfl | assumption | (simp; done) | (simp [*]; done))) rfl rfl rfl, rfl, ?_⟩)
    (refine ⟨_, _, _, a_off (go_off rfl rfl rfl rfl (by first | rfl | assumption | (simp; done) | (simp [*]; done))) rfl rfl rfl, rfl, ?_⟩)
    (refine ⟨_, _, _, a_off (go_off rfl rfl rfl rfl (by first | rfl | assumption | (simp; done) | (simp [*]; done))) rfl rfl rfl, rfl, ?_⟩)
    (refine ⟨_, _, _, a_off (go_off rfl rfl rfl rfl (by first | rfl | assumption | (simp; done) | (simp [*]; done))) rfl rfl rfl, rfl, ?_⟩)
    (refine ⟨_, _, _, aPf (gN rfl) rfl rfl rfl rfl rfl ?hb rfl, rfl, ?_⟩; case hb => (first | rfl | assumption | (simp; done)))
    (refine nx (aA (gN rfl) rfl rfl rfl rfl rfl) rfl ?_)
    show AWp _ _ _ _ _ _ _
    exact aT (And.intro (.inr rfl) rfl)
  | true =>
    cases hA : sameT x.a y.a with
    | false =>
      rw [hA] at ha
      have e : sameL x y = false := by unfold sameL; rw [hn, hA]; rfl
      rw [e]
      refine aS (aR ?_)
      (refine nx (aF (gN rfl) rfl rfl rfl rfl rfl rfl rfl rfl rfl) rfl ?_)
      (refine nx (aLb (gN rfl) rfl rfl rfl rfl rfl rfl rfl rfl rfl rfl rfl rfl) rfl ?_)
      (refine nx (aF (gN rfl) rfl rfl rfl rfl rfl rfl rfl rfl rfl) rfl ?_)
      (refine nx (aLb (gN rfl) rfl rfl rfl rfl rfl rfl rfl rfl rfl rfl rfl rfl) rfl ?_)
      (refine nx (a_beq (gN rfl) rfl rfl rfl rfl rfl rfl rfl) rfl ?_)
      (refine nx (aM (gN rfl) rfl rfl rfl rfl rfl) rfl ?_)
      (refine nx (aF (gd_on rfl rfl rfl rfl (by first | rfl | assumption | (simp; done))) rfl rfl rfl rfl rfl rfl rfl rfl rfl) rfl ?_)
      (refine nx (aLb (gd_on rfl rfl rfl rfl (by first | rfl | assumption | (simp; done))) rfl rfl rfl rfl rfl rfl rfl rfl rfl rfl rfl rfl) rfl ?_)
      (refine nx (aF (gd_on rfl rfl rfl rfl (by first | rfl | assumption | (simp; done))) rfl rfl rfl rfl rfl rfl rfl rfl rfl) rfl ?_)
      (refine nx (aLb (gd_on rfl rfl rfl rfl (by first | rfl | assumption | (simp; done))) rfl rfl rfl rfl rfl rfl rfl rfl rfl rfl rfl rfl) rfl ?_)
      (refine nx (a_call (gd_on rfl rfl rfl rfl (by first | rfl | assumption | (simp; done))) rfl rfl rfl rfl rfl (ha)) rfl ?_)
      (refine ⟨_, _, _, aPt (gN rfl) rfl rfl rfl rfl rfl ?hb rfl, rfl, ?_⟩; case hb => (first | rfl | assumption | (simp; done)))
      (refine nx (aM (gN rfl) rfl rfl rfl rfl rfl) rfl ?_)
      (refine ⟨_, _, _, a_off (go_off rfl rfl rfl rfl (by first | rfl | assumption | (simp; done) | (simp [*]; done))) rfl rfl rfl, rfl, ?_⟩)
      (refine ⟨_, _, _, a_off (go_off rfl rfl rfl rfl (by first | rfl | assumption | (simp; done) | (simp [*]; done))) rfl rfl rfl, rfl, ?_⟩)
      (refine ⟨_, _, _, a_off (go_off rfl rfl rfl rfl (by first | rfl | assumption | (simp; done) | (simp [*]; done))) rfl rfl rfl, rfl, ?_⟩)
      (refine ⟨_, _, _, a_off (go_off rfl rfl rfl rfl (by first | rfl | assumption | (simp; done) | (simp [*]; done))) rfl rfl rfl, rfl, ?_⟩)
      (refine ⟨_, _, _, a_off (go_off rfl rfl rfl rfl (by first | rfl | assumption | (simp; done) | (simp [*]; done))) rfl rfl rfl, rfl, ?_⟩)
      (refine ⟨_, _, _, aPf (gN rfl) rfl rfl rfl rfl rfl ?hb rfl, rfl, ?_⟩; case hb => (first | rfl | assumption | (simp; done)))
      (refine nx (aA (gN rfl) rfl rfl rfl rfl rfl) rfl ?_)
      show AWp _ _ _ _ _ _ _
      exact aT (And.intro (.inr rfl) rfl)
    | true =>
      rw [hA] at ha
      have e : sameL x y = sameT x.b y.b := by unfold sameL; rw [hn, hA]; rfl
      rw [e]
      refine aS (aR ?_)
      (refine nx (aF (gN rfl) rfl rfl rfl rfl rfl rfl rfl rfl rfl) rfl ?_)
      (refine nx (aLb (gN rfl) rfl rfl rfl rfl rfl rfl rfl rfl rfl rfl rfl rfl) rfl ?_)
      (refine nx (aF (gN rfl) rfl rfl rfl rfl rfl rfl rfl rfl rfl) rfl ?_)
      (refine nx (aLb (gN rfl) rfl rfl rfl rfl rfl rfl rfl rfl rfl rfl rfl rfl) rfl ?_)
      (refine nx (a_beq (gN rfl) rfl rfl rfl rfl rfl rfl rfl) rfl ?_)
      (refine nx (aM (gN rfl) rfl rfl rfl rfl rfl) rfl ?_)
      (refine nx (aF (gd_on rfl rfl rfl rfl (by first | rfl | assumption | (simp; done))) rfl rfl rfl rfl rfl rfl rfl rfl rfl) rfl ?_)
      (refine nx (aLb (gd_on rfl rfl rfl rfl (by first | rfl | assumption | (simp; done))) rfl rfl rfl rfl rfl rfl rfl rfl rfl rfl rfl rfl) rfl ?_)
      (refine nx (aF (gd_on rfl rfl rfl rfl (by first | rfl | assumption | (simp; done))) rfl rfl rfl rfl rfl rfl rfl rfl rfl) rfl ?_)
      (refine nx (aLb (gd_on rfl rfl rfl rfl (by first | rfl | assumption | (simp; done))) rfl rfl rfl rfl rfl rfl rfl rfl rfl rfl rfl rfl) rfl ?_)
      (refine nx (a_call (gd_on rfl rfl rfl rfl (by first | rfl | assumption | (simp; done))) rfl rfl rfl rfl rfl (ha)) rfl ?_)
      (refine ⟨_, _, _, aPt (gN rfl) rfl rfl rfl rfl rfl ?hb rfl, rfl, ?_⟩; case hb => (first | rfl | assumption | (simp; done)))
      (refine nx (aM (gN rfl) rfl rfl rfl rfl rfl) rfl ?_)
      (refine nx (aF (gd_on rfl rfl rfl rfl (by first | rfl | assumption | (simp; done))) rfl rfl rfl rfl rfl rfl rfl rfl rfl) rfl ?_)
      (refine nx (aLb (gd_on rfl rfl rfl rfl (by first | rfl | assumption | (simp; done))) rfl rfl rfl rfl rfl rfl rfl rfl rfl rfl rfl rfl) rfl ?_)
      (refine nx (aF (gd_on rfl rfl rfl rfl (by first | rfl | assumption | (simp; done))) rfl rfl rfl rfl rfl rfl rfl rfl rfl) rfl ?_)
      (refine nx (aLb (gd_on rfl rfl rfl rfl (by first | rfl | assumption | (simp; done))) rfl rfl rfl rfl rfl rfl rfl rfl rfl rfl rfl rfl) rfl ?_)
      (refine nx (a_call (gd_on rfl rfl rfl rfl (by first | rfl | assumption | (simp; done))) rfl rfl rfl rfl rfl (hb)) rfl ?_)
      (refine ⟨_, _, _, aPt (gN rfl) rfl rfl rfl rfl rfl ?hb rfl, rfl, ?_⟩; case hb => (first | rfl | assumption | (simp; done)))
      (refine nx (aA (gN rfl) rfl rfl rfl rfl rfl) rfl ?_)
      show AWp _ _ _ _ _ _ _
      exact aT (And.intro (.inr rfl) rfl)
def sameC : List Lt → List Lt → Bool
  | [], [] => true
  | x :: l, y :: m => sameL x y && sameC l m
  | _, _ => false
theorem sameC_iff : ∀ {l m : List Lt}, sameC l m = true ↔ l.map Lt.strip = m.map Lt.strip
  | [], [] => by simp [sameC]
  | [], _ :: _ => by simp [sameC]
  | _ :: _, [] => by simp [sameC]
  | x :: l, y :: m => by
    rw [sameC, Bool.and_eq_true, sameL_iff, sameC_iff, List.map_cons, List.map_cons, List.cons.injEq]
-- 
theorem same11_abs (W : World) (c d : List Lt) (hl : c.length ≤ 1000000) (hc : ∀ l ∈ c, l.a.ok ∧ l.b.ok) (hd : ∀ l ∈ d, l.a.ok ∧ l.b.ok) : AFun Tryz.prog W 16 [.lst (c.map Lt.cv), .lst (d.map Lt.cv)] (.val (.b (sameC c d))) := by
  have hs1 := Lt.size_all c
  have hs2 := Lt.size_all d
  refine afun_of (rs := [.b (sameC c d)]) Tryz.func16 Tryz.ntmps16 rfl rfl rfl rfl ?_
  intro w U hW
  refine aS (aR ?_)
  (refine nx (aA (gN rfl) rfl rfl rfl rfl rfl) rfl ?_)
  show AWp _ _ _ _ _ _ _
  refine aS (aS (aR ?_))
  (refine nx (aM (gN rfl) rfl rfl rfl rfl rfl) rfl ?_)
  (refine nx (a_len (gN rfl) rfl rfl rfl rfl rfl rfl rfl) rfl ?_)
  (refine nx (aM (gN rfl) rfl rfl rfl rfl rfl) rfl ?_)
  (refine nx (a_len (gN rfl) rfl rfl rfl rfl rfl rfl rfl) rfl ?_)
  (refine nx (a_neq (gN rfl) rfl rfl rfl rfl rfl rfl) rfl ?_)
  show AWp _ _ _ _ _ _ _
  refine aC rfl (fun h => ?_) (fun h => ?_)
  · have hne : sameC c d = false := by
      rw [← Bool.not_eq_true, sameC_iff]
      intro e
      have := congrArg List.length e
      rw [List.length_map, List.length_map] at this
      have h := of_decide_eq_true h
      rw [List.length_map, List.length_map] at h
      omega
    rw [hne]
    refine aS (aR ?_)
    (refine nx (aA (gN rfl) rfl rfl rfl rfl rfl) rfl ?_)
    show AWp _ _ _ _ _ _ _
    exact aT (And.intro (.inr rfl) rfl)
  have hll : c.length = d.length := by
    have := of_decide_eq_false h
    simp only [List.length_map, ne_eq, Decidable.not_not] at this
    omega
  refine aK ?_
  show AWp _ _ _ _ _ _ _
  refine aS (aS (aR ?_))
  (refine nx (aA (gN rfl) rfl rfl rfl rfl rfl) rfl ?_)
  show AWp _ _ _ _ _ _ _
  refine aB (awp_countI c.length (fun k => (c.take k).map Lt.strip = (d.take k).map Lt.strip) (fun k => [(0, .val (.lst (c.map Lt.cv))), (1, .val (.lst (d.map Lt.cv))), (5, .val (.i k))]) (wk_sub ⟨rfl, rfl, rfl, trivial⟩) (by simp) ?_)
  intro k hk hI
  refine aS (aS (aR ?_))
  (refine nx (aM (gN rfl) rfl rfl rfl rfl rfl) rfl ?_)
  (refine nx (aM (gN rfl) rfl rfl rfl rfl rfl) rfl ?_)
  (refine nx (a_len (gN rfl) rfl rfl rfl rfl rfl rfl rfl) rfl ?_)
  (refine nx (a_lss (gN rfl) rfl rfl rfl rfl rfl rfl) rfl ?_)
  show AWp _ _ _ _ _ _ _
  refine aC rfl (fun hlt => ?_) (fun hlt => ?_)
  · have hkl : k < c.length := by simpa using hlt
    obtain ⟨x, hx⟩ : ∃ x, c[k]? = some x := ⟨c[k], List.getElem?_eq_getElem hkl⟩
    obtain ⟨y, hy⟩ : ∃ y, d[k]? = some y := ⟨d[k]'(by omega), List.getElem?_eq_getElem (by omega)⟩
    have hx' := Lt.map_at hx
    have hy' := Lt.map_at hy
    have hsl := sameLit_abs w x y (hc x (List.mem_of_getElem? hx)) (hd y (List.mem_of_getElem? hy))
    refine aK ?_
    show AWp _ _ _ _ _ _ _
    refine aS (aB (aS (aD (by kernel_rfl) (by kernel_rfl) ?_)))
    (refine nx (aM (gN rfl) rfl rfl rfl rfl rfl) rfl ?_)
    (refine nx (aM (gN rfl) rfl rfl rfl rfl rfl) rfl ?_)
    (refine nx (a_index (j := k) (gN rfl) rfl rfl rfl rfl rfl rfl rfl rfl rfl (hx') rfl (hs1)) rfl ?_)
    (refine nx (a_load_ad (gN rfl) rfl rfl rfl rfl rfl rfl rfl rfl rfl) rfl ?_)
    (refine nx (aM (gN rfl) rfl rfl rfl rfl rfl) rfl ?_)
    (refine nx (aM (gN rfl) rfl rfl rfl rfl rfl) rfl ?_)
    (refine nx (a_index (j := k) (gN rfl) rfl rfl rfl rfl rfl rfl rfl rfl rfl (hy') rfl (hs2)) rfl ?_)
    (refine nx (a_load_ad (gN rfl) rfl rfl rfl rfl rfl rfl rfl rfl rfl) rfl ?_)
    (refine nx (a_call (gN rfl) rfl rfl rfl rfl rfl (hsl)) rfl ?_)
    (refine nx (a_not (gN rfl) rfl rfl rfl rfl rfl) rfl ?_)
    refine ⟨by kernel_rfl, ?_⟩
    show AWp _ _ _ _ _ _ _
    refine aC rfl (fun hc2 => ?_) (fun hc2 => ?_)
    · have hne : sameC c d = false := by
        rw [← Bool.not_eq_true, sameC_iff]
        intro e
        have e1 := congrArg (fun l => l[k]?) e
        simp only [List.getElem?_map, hx, hy, Option.map_some, Option.some.injEq] at e1
        rw [(sameL_iff x y).2 e1] at hc2
        cases hc2
      rw [hne]
      refine aS (aR ?_)
      (refine nx (aA (gN rfl) rfl rfl rfl rfl rfl) rfl ?_)
      show AWp _ _ _ _ _ _ _
      exact aT (And.intro (.inr rfl) rfl)
    · have hxy : x.strip = y.strip := (sameL_iff x y).1 (by simpa using hc2)
      refine aK ?_
      show AWp _ _ _ _ _ _ _
      refine aR ?_
      (refine nx (aM (gN rfl) rfl rfl rfl rfl rfl) rfl ?_)
      (refine nx (a_add (gN rfl) rfl rfl rfl rfl rfl rfl (by first | omega | (simp only [List.length_map, List.length_append, List.length_cons, List.length_nil] <;> omega) | (simp <;> omega))) rfl ?_)
      (refine nx (aA (gN rfl) rfl rfl rfl rfl rfl) rfl ?_)
      refine ⟨hkl, ?_, wk_sub ⟨rfl, rfl, rfl, trivial⟩⟩
      show (c.take (k + 1)).map Lt.strip = (d.take (k + 1)).map Lt.strip
      rw [List.take_add_one, List.take_add_one, List.map_append, List.map_append, hI, hx, hy]
      simp [hxy]
  · have hkl : k = c.length := by
      have : ¬ k < c.length := by simpa using hlt
      omega
    subst hkl
    have he : sameC c d = true := by
      rw [List.take_length, List.take_of_length_le (by omega)] at hI
      exact sameC_iff.2 hI
    rw [he]
    refine aE ?_
    show AWp _ _ _ _ _ _ _
    refine aS (aR ?_)
    (refine nx (aA (gN rfl) rfl rfl rfl rfl rfl) rfl ?_)
    show AWp _ _ _ _ _ _ _
    exact aT (And.intro (.inr rfl) rfl)
end Go.Proofs.YteegmcfobgpemaaGreat
namespace Go.Proofs.YteegmcfobgpemaaGreat
open Go.RowKit
set_option linter.unusedVariables false
set_option linter.unusedSimpArgs false
def sidT (c : List Lt) : Tm := ⟨0, sidL c⟩
def whlL (l : Lt) : Tm := ⟨sgZ l.neg, [l.a, l.b]⟩
def whlT (c : List Lt) : Tm := ⟨0, c.map whlL⟩
theorem sgZ_nn (b : Bool) : ¬ sgZ b < 0 := by cases b <;> decide
theorem sid_vs (c : List Lt) : (sidT c).vs = c.flatMap fun l => l.a.vs ++ l.b.vs := by
  unfold sidT
  rw [Tm.vs_sym (show ¬ (0 : Int) < 0 by decide)]
  show (sidL c).flatMap Tm.vs = _
  induction c with
  | nil => rfl
  | cons l c ih =>
    show (l.a :: l.b :: sidL c).flatMap Tm.vs = _
    rw [List.flatMap_cons, List.flatMap_cons, List.flatMap_cons, ih, List.append_assoc]
theorem whl_vs (c : List Lt) : (whlT c).vs = c.flatMap fun l => l.a.vs ++ l.b.vs := by
  unfold whlT
  rw [Tm.vs_sym (show ¬ (0 : Int) < 0 by decide)]
  show (c.map whlL).flatMap Tm.vs = _
  rw [List.flatMap_map]
  congr 1
  funext l
  rw [Tm.vs_sym (t := whlL l) (sgZ_nn _)]
  show [l.a, l.b].flatMap Tm.vs = _
  simp
theorem whl_nv (c : List Lt) : (whlT c).nv = (sidT c).nv := by
  unfold Tm.nv
  rw [whl_vs, sid_vs]
theorem mem_sid_vs {c : List Lt} {l : Lt} (h : l ∈ c) {v : Int} (hv : v ∈ l.a.vs ∨ v ∈ l.b.vs) : v ∈ (sidT c).nv := by
  unfold Tm.nv
  rw [mem_nub, sid_vs, List.mem_flatMap]
  exact ⟨l, h, List.mem_append.2 hv⟩
def appL (s : List Bd) (l : Lt) : Lt := ⟨l.neg, appR s l.a, appR s l.b⟩
theorem appL_strip (s : List Bd) (l : Lt) : (appL s l).strip = (Lt.rep (imgB s) l).strip := by
  unfold appL Lt.strip Lt.rep
  simp only [appR_strip]
end Go.Proofs.YteegmcfobgpemaaGreat
namespace Go.Proofs.YteegmcfobgpemaaGreat
open Go.RowKit
set_option linter.unusedVariables false
set_option linter.unusedSimpArgs false
set_option maxRecDepth 100000
theorem ToldU.uniq {l : List (Tm × Tm)} {r1 r2 : List Bd × Bool} (h1 : ToldU l r1) (h2 : ToldU l r2) : r1 = r2 := by
  rcases h1 with ⟨a1, a2, a3⟩ | ⟨a1, s, a2, a3, a4, a5⟩
  · rw [h2.no a3]
    cases r1
    simp only at a1 a2
    rw [a1, a2]
  · have h := (h2.yes a2 a3).1
    cases r1
    simp only at a1 a5
    rw [h, a1, a5]
noncomputable def mgT (a b : Tm) : List Bd × Bool := open Classical in if h : ∃ r, Tells8 [(a, b)] r then Classical.choose h else ([], false)
def Tm.ten (t : Tm) : Prop := (t.rng ∧ t.ok) ∧ t.size ≤ 10
def Lt.ten (l : Lt) : Prop := l.a.ten ∧ l.b.ten
theorem ten_tiny {a b : Tm} (ha : a.ten) (hb : b.ten) : Tiny2 [(a, b)] := fun p hp => by
  rw [List.mem_singleton] at hp
  subst hp
  exact ⟨⟨ha.1, Nat.le_trans ha.2 (by omega)⟩, hb.1, Nat.le_trans hb.2 (by omega)⟩
theorem mg_of {a b : Tm} {r : List Bd × Bool} (h : Tells8 [(a, b)] r) : mgT a b = r := by
  have he : ∃ r, Tells8 [(a, b)] r := ⟨r, h⟩
  unfold mgT
  rw [dif_pos he]
  exact (Classical.choose_spec he).told.uniq h.told
theorem mg_told {a b : Tm} (ha : a.ten) (hb : b.ten) : Tells8 [(a, b)] (mgT a b) := by
  obtain ⟨n, r, _, _, _, h⟩ := told_of (l := [(a, b)]) (by simp) (ten_tiny ha hb)
  rw [mg_of h]
  exact h
theorem all_orig (l : List (Tm × Tm)) (hl : l.length ≤ 2) (ht : Tiny2 l) : ∃ r : Option (List Bd), (r = none → ∀ τ, ¬ uni τ l) ∧ ∀ s, r = some s → Mgu (imgB s) l ∧ bareB s ∧ Orig (subsP l) (imgB s) := by
  have hV : ∀ v ∈ varsP l, 0 ≤ v := fun v hv => by
    obtain ⟨p, _, hv⟩ := List.mem_flatMap.1 hv
    rcases List.mem_append.1 hv with hv | hv <;> exact vs_nonneg _ v hv
  have hsub : ∀ p ∈ l, (∀ u ∈ p.1.vs, u ∈ varsP l) ∧ ∀ u ∈ p.2.vs, u ∈ varsP l := fun p hp => ⟨fun u hu => List.mem_flatMap.2 ⟨p, hp, List.mem_append_left _ hu⟩, fun u hu => List.mem_flatMap.2 ⟨p, hp, List.mem_append_right _ hu⟩⟩
  have h0 : Mgu (imgB []) [] := Mgu.nil
  obtain ⟨n, r, e, g1, g2⟩ := allR_spec hV l [] [] h0 (fun b hb => by cases hb) (fun b hb => by cases hb) hsub
  rw [List.nil_append] at g1 g2
  have hE : arA (subsP l) ≤ 60 := by
    have := subs_ar l fun p hp => ⟨(ht p hp).1.2, (ht p hp).2.2⟩
    omega
  have hvl := varsP_len l ht
  have hmid0 : MidU (varsP l) (subsP l) 64 [] ([] ++ []) := ⟨h0, (fun b hb => by cases hb), (fun b hb => by cases hb), (fun v hv hf => by exfalso; apply hf; show (varT v).f < 0; rw [varT_f]; omega), by
    have : frN (varsP l) [] ≤ (varsP l).length := filt_len _
    show 0 + _ ≤ 64
    omega, fun b hb => by cases hb⟩
  obtain ⟨c1, c2⟩ := rUs_mid (V := varsP l) (S := subsP l) (K := 64) (E := []) hV (rU_mid hV (subs_shut l) (by decide) hE n) l [] [] hmid0 (fun b hb => by cases hb) fun p hp => by
    obtain ⟨s1, s2⟩ := subs_has hp
    exact ⟨fun s1' F1 h1 => ⟨⟨(hsub p hp).1, p.1, s1, rfl⟩, ⟨(hsub p hp).2, p.2, s2, rfl⟩⟩, (ht p hp).1.1, (ht p hp).2.1⟩
  refine ⟨r, g1, fun s hs => ?_⟩
  obtain ⟨k1, k2, k3⟩ := g2 s hs
  rw [hs] at e
  exact ⟨k1, k2, (c2 s e).1.orig⟩
theorem big_18 {s E : Nat} (hE : E ≤ 18) (h : Big E s) : s ≤ 2955 := by
  have h := h.up hE
  unfold Big at h
  have e1 : (2 : Nat) ^ 18 = 262144 := by decide
  have e2 : (3 : Nat) ^ 18 = 387420489 := by decide
  rw [e1, e2] at h
  omega
theorem mg_img {a b : Tm} (ha : a.ten) (hb : b.ten) {v : Int} (hv : 0 ≤ v) : (imgB (mgT a b).1 v).size ≤ 2955 := by
  have hT := mg_told ha hb
  have hvar : ∀ u : Tm, u.f < 0 → u.size ≤ 2955 := fun u hu => by rw [Tm.size_var hu]; omega
  cases h2 : (mgT a b).2 with
  | false =>
    rw [(hT.no h2).1]
    exact hvar _ (by show (varT v).f < 0; rw [varT_f]; omega)
  | true =>
    have hm := hT.yes h2
    obtain ⟨r, g1, g2⟩ := all_orig [(a, b)] (by simp) (ten_tiny ha hb)
    cases r with
    | none => exact absurd hm.uni (g1 rfl _)
    | some s =>
      obtain ⟨k1, k2, k3⟩ := g2 s rfl
      rw [k1.one hm hv]
      by_cases hf : (imgB s v).f < 0
      · exact hvar _ hf
      · obtain ⟨q, hq, _, e⟩ := k3 v hv hf
        rw [← e]
        refine big_18 ?_ (hits_big (subs_shut _) k3 (fun v _ => bare_img k2 v) ⟨q, hq, rfl⟩)
        have e1 : subsP [(a, b)] = (a.flat ++ b.flat) ++ [] := rfl
        have e2 := arA_flat a
        have e3 := arA_flat b
        have e4 := ha.2
        have e5 := hb.2
        rw [e1, List.append_nil, arA_app]
        omega
theorem rep_big {σ : Int → Tm} {M : Nat} (hM : 1 ≤ M) (h : ∀ v, 0 ≤ v → (σ v).size ≤ M) (t : Tm) : (repT σ t).size ≤ M * t.size := by
  induction t using Tm.indp with
  | h t ih =>
    by_cases hf : t.f < 0
    · rw [repT_var hf, Tm.strip_size, Tm.size_var hf, Nat.mul_one]
      exact h _ (by omega)
    · have e1 : (repT σ t).size = 1 + ((t.l.map (repT σ)).map Tm.size).sum := by rw [repT_sym hf]; exact Tm.size_sym (t := ⟨t.f, t.l.map (repT σ)⟩) hf
      have e2 : t.size = 1 + (t.l.map Tm.size).sum := Tm.size_sym hf
      have hps : t.ps = t.l := Tm.ps_of_sym (by omega)
      rw [hps] at ih
      have : ∀ L : List Tm, (∀ s ∈ L, (repT σ s).size ≤ M * s.size) → ((L.map (repT σ)).map Tm.size).sum ≤ M * (L.map Tm.size).sum := fun L => by
        induction L with
        | nil => intro _; simp
        | cons x L ihL =>
          intro g
          rw [List.map_cons, List.map_cons, List.map_cons, List.sum_cons, List.sum_cons, Nat.mul_add]
          have a1 := g x (by simp)
          have a2 := ihL fun s hs => g s (List.mem_cons_of_mem _ hs)
          omega
      have h3 := this t.l ih
      rw [e1, e2, Nat.mul_add, Nat.mul_one]
      omega
noncomputable def mgS (a b : Tm) : Int → Tm := imgB (mgT a b).1
theorem mg_rep {a b : Tm} (ha : a.ten) (hb : b.ten) {t : Tm} (ht : t.ten) : (repT (mgS a b) t).rng ∧ (repT (mgS a b) t).ok ∧ (repT (mgS a b) t).size ≤ 29550 := by
  have hT := mg_told ha hb
  refine ⟨rep_rng hT.bdsOk ht.1.1, repT_ok ht.1.2 fun v => imgB_ok2 (fun b hb => (hT.ok b hb).2) v, ?_⟩
  have h1 := rep_big (M := 2955) (by omega) (fun v hv => mg_img ha hb hv) t
  have h2 : 2955 * t.size ≤ 2955 * 10 := Nat.mul_le_mul_left _ ht.2
  exact Nat.le_trans h1 h2
def offL (c : List Lt) (n : Nat) : List Lt := c.take n ++ c.drop (n + 1)
theorem offL_mem {c : List Lt} {n : Nat} {l : Lt} (h : l ∈ offL c n) : l ∈ c := by
  rcases List.mem_append.1 h with h | h
  · exact List.mem_of_mem_take h
  · exact List.mem_of_mem_drop h
theorem offL_len {c : List Lt} {n : Nat} (h : n < c.length) : (offL c n).length + 1 = c.length := by
  unfold offL
  rw [List.length_append, List.length_take, List.length_drop]
  omega
noncomputable def leadB (a b : Tm) : Bool := decide (kb a b = 1 ∨ kb a b = 2)
def DocU (a b : Tm) (d : List Bd) : Prop := (∀ W, AFun Tryz.prog W 32 [.lst [a.cw], .lst [b.cw]] (.tup [.lst (d.map Bd.cv), .b (mgT a b).2])) ∧ d.length ≤ 1000000 ∧ (∀ x ∈ d, x.t.rng ∧ x.t.ok) ∧ d.map Bd.strip = (mgT a b).1.map Bd.strip
noncomputable def dT (a b : Tm) : List Bd := open Classical in if h : ∃ d, DocU a b d then Classical.choose h else []
theorem doc_u {a b : Tm} (ha : a.ten) (hb : b.ten) : DocU a b (dT a b) := by
  have he : ∃ d, DocU a b d := by
    obtain ⟨n, r, e, hC, hz, hT⟩ := told_of (l := [(a, b)]) (by simp) (ten_tiny ha hb)
    have hm := mg_of hT
    refine ⟨(r.map fun s => rnmF s s.length).getD [], fun W => ?_, ?_, ?_, ?_⟩
    · have h := refAll_abs W n [a] [b] r rfl (by simp) e hC (fun s hs => ⟨(hz s hs).1, fun x hx => ((hz s hs).2 x hx).1⟩)
      simp only [List.map_cons, List.map_nil, Tm.cv_eq] at h
      rw [hm]
      exact h
    · cases r with
      | none => exact Nat.zero_le _
      | some s =>
        have h1 := rnmF_len s s.length
        have h2 := (hz s rfl).1
        show (rnmF s s.length).length ≤ _
        omega
    · cases r with
      | none => intro x hx; cases hx
      | some s =>
        intro x hx
        exact (hz s rfl).2 x (rnmF_mem s _ x hx)
    · rw [hm]
      cases r with
      | none => rfl
      | some s => exact (norm_doc s).symm
  unfold dT
  rw [dif_pos he]
  exact Classical.choose_spec he
theorem img_strips (s : List Bd) (v : Int) : imgB (s.map Bd.strip) v = (imgB s v).strip := by
  unfold imgB
  rw [findB_map]
  cases findB s v with
  | none => exact (varT_strip v).symm
  | some t => rfl
theorem rep_imgs {σ τ : Int → Tm} (h : ∀ v, (σ v).strip = (τ v).strip) (t : Tm) : repT σ t = repT τ t := by
  induction t using Tm.ind with
  | h f l ih =>
    by_cases hf : f < 0
    · rw [repT_var (show (⟨f, l⟩ : Tm).f < 0 from hf), repT_var (show (⟨f, l⟩ : Tm).f < 0 from hf), h]
    · rw [repT_sym (show ¬ (⟨f, l⟩ : Tm).f < 0 from hf), repT_sym (show ¬ (⟨f, l⟩ : Tm).f < 0 from hf)]
      congr 1
      exact List.map_congr_left ih
theorem doc_rep {a b : Tm} (ha : a.ten) (hb : b.ten) (t : Tm) : repT (imgB (dT a b)) t = repT (mgS a b) t := by
  have h := (doc_u ha hb).2.2.2
  refine rep_imgs (fun v => ?_) t
  have h1 := img_strips (dT a b) v
  have h2 := img_strips (mgT a b).1 v
  rw [h] at h1
  exact h1.symm.trans h2
theorem doc_lit {a b : Tm} (ha : a.ten) (hb : b.ten) (l : Lt) : (appL (dT a b) l).strip = (Lt.rep (mgS a b) l).strip := by
  rw [appL_strip]
  unfold Lt.rep
  rw [doc_rep ha hb, doc_rep ha hb]
theorem doc_cl {a b : Tm} (ha : a.ten) (hb : b.ten) (c : List Lt) : (c.map (appL (dT a b))).map Lt.strip = (c.map (Lt.rep (mgS a b))).map Lt.strip := by
  rw [List.map_map, List.map_map]
  exact List.map_congr_left fun l _ => doc_lit ha hb l
theorem doc_app {a b : Tm} (ha : a.ten) (hb : b.ten) {t : Tm} (ht : t.ten) : (appR (dT a b) t).rng ∧ (appR (dT a b) t).ok ∧ (appR (dT a b) t).size ≤ 29550 ∧ (appR (dT a b) t).strip = (repT (mgS a b) t).strip := by
  obtain ⟨h1, h2, h3, h4⟩ := doc_u ha hb
  have hs : (appR (dT a b) t).strip = (repT (mgS a b) t).strip := by rw [appR_strip, doc_rep ha hb]
  refine ⟨appR_rng ht.1.1 fun x hx => (h3 x hx).1, appR_ok ht.1.2 fun x hx => (h3 x hx).2, ?_, hs⟩
  rw [← Tm.strip_size, hs, Tm.strip_size]
  exact (mg_rep ha hb ht).2.2
theorem doc_kb {a b : Tm} (ha : a.ten) (hb : b.ten) {t u : Tm} (ht : t.ten) (hu : u.ten) : kb (appR (dT a b) t) (appR (dT a b) u) = kb (repT (mgS a b) t) (repT (mgS a b) u) := by
  rw [← kb_strip, (doc_app ha hb ht).2.2.2, (doc_app ha hb hu).2.2.2, kb_strip]

def offD (c : List Lt) (i : Int) (k : Nat) : List Lt := (List.range k).filterMap fun j : Nat => if (j : Int) = i then none else c[j]?
theorem offD_succ {c : List Lt} {i : Int} {k : Nat} {x : Lt} (h : c[k]? = some x) : offD c i (k + 1) = offD c i k ++ (if (k : Int) = i then [] else [x]) := by
  unfold offD
  rw [List.range_succ, List.filterMap_append]
  congr 1
  rw [List.filterMap_cons, h]
  split <;> rename_i h2 <;> split at h2 <;> simp_all
theorem offD_len (c : List Lt) (i : Int) (k : Nat) : (offD c i k).length ≤ k := by
  unfold offD
  exact Nat.le_trans (List.length_filterMap_le _ _) (by rw [List.length_range]; omega)
theorem offD_at (c : List Lt) (i : Int) : ∀ k, k ≤ c.length → offD c i k = if 0 ≤ i ∧ i < k then c.take i.toNat ++ (c.take k).drop (i.toNat + 1) else c.take k
  | 0, _ => by
    rw [if_neg (by omega)]
    rfl
  | k + 1, hk => by
    obtain ⟨x, hx⟩ : ∃ x, c[k]? = some x := ⟨c[k], List.getElem?_eq_getElem (by omega)⟩
    rw [offD_succ hx, offD_at c i k (by omega)]
    have ht : c.take (k + 1) = c.take k ++ [x] := by rw [List.take_add_one, hx]; rfl
    have hl : (c.take k).length = k := by rw [List.length_take]; omega
    by_cases h1 : (k : Int) = i
    · rw [if_neg (by omega), if_pos h1, if_pos (by omega), show i.toNat = k by omega, ht, List.append_nil, List.drop_of_length_le (by rw [List.length_append, hl]; simp), List.append_nil]
    · rw [if_neg h1]
      by_cases h2 : 0 ≤ i ∧ i < k
      · rw [if_pos h2, if_pos (by omega), ht, List.drop_append_of_le_length (by rw [hl]; omega), List.append_assoc]
      · rw [if_neg h2, if_neg (by omega), ht]
theorem offD_eq (c : List Lt) (i : Int) : offD c i c.length = if 0 ≤ i ∧ i < c.length then offL c i.toNat else c := by
  rw [offD_at c i c.length (Nat.le_refl _), List.take_length]
  rfl
def sdT (l : Lt) (n : Nat) : Tm := if n = 0 then l.a else l.b
theorem sd_ten {l : Lt} (h : l.ten) (n : Nat) : (sdT l n).ten := by
  unfold sdT
  split
  · exact h.1
  · exact h.2
def stC (L : List (List Lt)) : List (List Lt) := L.map (List.map Lt.strip)

theorem hvK_lt (c : List Lt) : ∀ k : Nat, -1 ≤ (hvK c k).1 ∧ (hvK c k).1 < k
  | 0 => ⟨by show (-1 : Int) ≤ -1; omega, by show (-1 : Int) < _; omega⟩
  | k + 1 => by
    obtain ⟨h1, h2⟩ := hvK_lt c k
    unfold hvK
    split
    · omega
    · split
      · simp only; omega
      · omega
theorem range_one {β : Type} (g : Nat → List β) (h : Nat) : ∀ n, (List.range n).flatMap (fun i => if i = h then g i else []) = if h < n then g h else []
  | 0 => by rw [if_neg (by omega)]; rfl
  | n + 1 => by
    rw [List.range_succ, List.flatMap_append, range_one g h n]
    by_cases h1 : h < n
    · rw [if_pos h1, if_pos (by omega)]
      simp only [List.flatMap_cons, List.flatMap_nil, List.append_nil]
      rw [if_neg (by omega), List.append_nil]
    · rw [if_neg h1]
      simp only [List.flatMap_cons, List.flatMap_nil, List.append_nil, List.nil_append]
      by_cases h2 : n = h
      · rw [if_pos h2, if_pos (by omega), h2]
      · rw [if_neg h2, if_neg (by omega)]
theorem filter_flat {α β : Type} (P : α → Bool) (g : α → List β) : ∀ L : List α, (L.filter P).flatMap g = L.flatMap fun i => if P i = true then g i else []
  | [] => rfl
  | x :: L => by
    rw [List.flatMap_cons, ← filter_flat P g L]
    by_cases h : P x = true
    · rw [List.filter_cons_of_pos h, List.flatMap_cons, if_pos h]
    · rw [List.filter_cons_of_neg h, if_neg h, List.nil_append]
theorem flat_congr {α β : Type} {f g : α → List β} : ∀ {L : List α}, (∀ x ∈ L, f x = g x) → L.flatMap f = L.flatMap g
  | [], _ => rfl
  | x :: L, h => by rw [List.flatMap_cons, List.flatMap_cons, h x (by simp), flat_congr fun y hy => h y (List.mem_cons_of_mem _ hy)]
theorem lok_flat {β : Type} (c : List Lt) (g : Nat → List β) : ((lokL c).flatMap fun z => g z.toNat) = (List.range c.length).flatMap fun i : Nat => if (i : Int) ∈ lokL c then g i else [] := by
  unfold lokL
  split
  · rename_i h
    obtain ⟨h0, h1⟩ : ∃ h0 : Nat, (hvK c c.length).1 = (h0 : Int) := ⟨(hvK c c.length).1.toNat, by omega⟩
    have hlt := (hvK_lt c c.length).2
    rw [h1] at hlt ⊢
    have e : (fun i : Nat => if (i : Int) ∈ [(h0 : Int)] then g i else []) = fun i => if i = h0 then g i else [] := by
      funext i
      by_cases hi : i = h0
      · rw [if_pos hi, if_pos (by rw [hi]; simp)]
      · rw [if_neg hi, if_neg (by rw [List.mem_singleton]; omega)]
    rw [e, range_one, if_pos (by omega)]
    simp
  · unfold gsK
    rw [List.flatMap_map]
    have e1 : (fun i : Nat => g (i : Int).toNat) = g := by funext i; rw [Int.toNat_natCast]
    show List.flatMap (fun i : Nat => g (i : Int).toNat) _ = _
    rw [e1, filter_flat]
    refine flat_congr fun i hi => ?_
    have hm : ((i : Int) ∈ ((List.range c.length).filter fun i : Nat => gstI c (i : Int)).map fun i : Nat => (i : Int)) ↔ gstI c (i : Int) = true := by
      rw [List.mem_map]
      constructor
      · rintro ⟨j, hj, e⟩
        have : j = i := by omega
        rw [← this]
        exact (List.mem_filter.1 hj).2
      · intro h
        exact ⟨i, List.mem_filter.2 ⟨hi, h⟩, rfl⟩
    by_cases h : gstI c (i : Int) = true
    · rw [if_pos h, if_pos (hm.2 h)]
    · rw [if_neg h, if_neg (fun h2 => h (hm.1 h2))]
end Go.Proofs.YteegmcfobgpemaaGreat
namespace Go.Proofs.YteegmcfobgpemaaGreat
open Go.RowKit Go.MapKept
set_option linter.unusedVariables false
set_option linter.unusedSimpArgs false
theorem cell_neN {w : World} {l : Nat} {y : Obj} (hy : w.heap[l]? = some y) (hnc : ∀ xs ty fl, y ≠ .cells xs ty fl) {b o : Nat} {v : Value} (h : w.cell? ⟨b, o, none⟩ = some v) : b ≠ l := by
  rintro rfl
  cases y with
  | cells xs ty fl => exact hnc _ _ _ rfl
  | _ => simp [World.cell?, hy] at h
theorem putObj_back {w : World} {l : Nat} {y x : Obj} (h : w.heap[l]? = some y) : (w.putObj l x).putObj l y = w := by
  obtain ⟨hlt, he⟩ := Array.getElem?_eq_some_iff.1 h
  have : (w.heap.setIfInBounds l x).setIfInBounds l y = w.heap := by
    refine Array.ext (by simp) fun i h1 h2 => ?_
    rw [Array.getElem_setIfInBounds, Array.getElem_setIfInBounds]
    · split
      · rename_i e; subst e; exact he.symm
      · rfl
    · simpa using h2
  unfold World.putObj
  rw [this]
section
variable {P : Program} {w0 : World} {U0 : UX} {nt : Nat} {s : AS} {a : Act} {w : World} {D : Nat → Nat → Prop} {hv : Nat → Value}

theorem SimG.rebase (h : SimG w0 U0 nt s a w D hv) {l : Nat} {y : Obj} (hy : w0.heap[l]? = some y) (hx : ¬ U0.x l) (hnc : ∀ xs ty fl, y ≠ .cells xs ty fl) (x : Obj) : SimG (w0.putObj l x) U0 nt s a (w.putObj l x) D hv := by
  have hl : l < w0.heap.size := (Array.getElem?_eq_some_iff.1 hy).1
  have hy2 : w.heap[l]? = some y := (h.below.block l hl hx).trans hy
  have hl2 : l < w.heap.size := (Array.getElem?_eq_some_iff.1 hy2).1
  have hcell : ∀ b o v, w.cell? ⟨b, o, none⟩ = some v → (w.putObj l x).cell? ⟨b, o, none⟩ = some v := fun b o v hc => by
    rw [World.cell?_of_block (w := w) (World.putObj_heap_other (cell_neN hy2 hnc hc))]; exact hc
  have hUs : Us (w0.putObj l x) U0 D = Us w0 U0 D := by funext b o; unfold Us; rw [World.putObj_size]
  have hMn : ∀ t g, Mn w0 U0 t g → Mn (w0.putObj l x) U0 t g := fun t g h => by unfold Mn at h ⊢; rw [World.putObj_size]; exact h
  have hne : ∀ k av g, look s k = some av → oKey k → av.t ≠ 7 → hb (hv k) = some g → g ≠ l := fun k av g h1 h2 h3 h4 e => by
    obtain ⟨g1, _, _⟩ := h.blk k av g h1 h2 h3 h4
    subst e
    rcases g1 with g1 | g1
    · omega
    · exact hx g1.2
  have hk : ∀ b o v, Us w0 U0 D b o → w.cell? ⟨b, o, none⟩ = some v → Us w0 U0 D b o ∧ (w.putObj l x).cell? ⟨b, o, none⟩ = some v := fun b o v h1 h2 => ⟨h1, hcell _ _ _ h2⟩
  refine ⟨⟨h.below.os, h.below.tape, h.below.output, by rw [World.putObj_size, World.putObj_size]; exact h.below.size, fun k hk hxk => ?_⟩, h.dfr, h.size, fun d av h1 h2 => ?_, fun n o av h1 h2 h3 h4 => ?_, h.fdis, fun k av h1 h2 => ?_, fun k av g h1 h2 h3 h4 => ?_, h.disj, h.fix, fun b o hd => by rw [World.putObj_size]; exact h.dlt b o hd⟩
  · rw [World.putObj_size] at hk
    by_cases e : k = l
    · subst e; rw [World.putObj_heap_same hl2, World.putObj_heap_same hl]
    · rw [World.putObj_heap_other e, World.putObj_heap_other e]; exact h.below.block k hk hxk
  · rw [hUs]
    obtain ⟨v, h3, h4⟩ := h.slot d av h1 h2
    exact ⟨v, h3, h4.keep hk⟩
  · rw [hUs]
    obtain ⟨v, h5, h6, h7⟩ := h.fld n o av h1 h2 h3 h4
    refine ⟨v, h5.keep hk, h6, fun i hi => ?_⟩
    have h8 := h7 i hi
    rw [Array.getElem?_eq_getElem hi] at h8 ⊢
    exact hcell _ _ _ h8
  · rw [hUs]
    by_cases h7 : av.t = 7
    · exact oc_no h7
    · exact (h.obj k av h1 h2).move hk (fun _ h3 => ⟨h3, rfl⟩) fun g hg => World.putObj_heap_other (hne k av g h1 h2 h7 hg)
  · rw [World.putObj_size]
    obtain ⟨g1, g2, g3⟩ := h.blk k av g h1 h2 h3 h4
    exact ⟨hMn _ _ g1, g2, g3⟩

def AWpN (P : Program) (w0 : World) (U0 : UX) (nt : Nat) (c : Code) (Q : Exit → AS → Prop) (s : AS) : Prop :=
  ∀ M a w l₀ r₀, M.r = some l₀ → w0.heap[l₀]? = some (.loop r₀) → ¬ U0.x l₀ → Sim w0 U0 nt s a w → WP P M c (fun e a' w' => ∃ s', Q e s' ∧ Sim w0 U0 nt s' a' w') a w
theorem awpN_of {c : Code} {Q : Exit → AS → Prop} (h : AWp P w0 U0 nt c Q s) : AWpN P w0 U0 nt c Q s := fun M a w _ _ _ _ _ hs => h M a w hs
theorem awpN_mono {c : Code} {Q Q' : Exit → AS → Prop} (h : AWpN P w0 U0 nt c Q s) (hq : ∀ e s, Q e s → Q' e s) : AWpN P w0 U0 nt c Q' s := fun M a w l r h1 h2 h3 hs =>
  WP_mono (h M a w l r h1 h2 h3 hs) fun e a' w' ⟨s', g1, g2⟩ => ⟨s', hq _ _ g1, g2⟩
theorem awpN_wk {c : Code} {Q : Exit → AS → Prop} {s' : AS} (h : Wk w0 U0 nt s s') (h2 : AWpN P w0 U0 nt c Q s') : AWpN P w0 U0 nt c Q s := fun M a w l r g1 g2 g3 hs => h2 M a w l r g1 g2 g3 (h a w hs)
theorem awpN_pre {x y : Code} {Q : Exit → AS → Prop} (h : AWp P w0 U0 nt x (fun e s' => e = .normal ∧ AWpN P w0 U0 nt y Q s') s) : AWpN P w0 U0 nt (.seq x y) Q s := fun M a w l r h1 h2 h3 hs =>
  WP_seq (WP_mono (h M a w hs) fun e a' w' ⟨s', ⟨he, hn⟩, hs'⟩ => by subst he; exact hn M a' w' l r h1 h2 h3 hs')
theorem awpN_block {id : Nat} {c : Code} {Q : Exit → AS → Prop} (h : AWpN P w0 U0 nt c (fun e s' => e = .normal ∧ Q .normal s') s) : AWpN P w0 U0 nt (.block id c) Q s := fun M a w l r h1 h2 h3 hs =>
  WP_block (WP_mono (h M a w l r h1 h2 h3 hs) fun e a' w' ⟨s', ⟨he, hn⟩, hs'⟩ => by subst he; exact ⟨s', hn, hs'⟩)
end

section
variable {α : Type} {P : Program}
end
section
variable {P : Program} {w0 : World} {U0 : UX} {nt : Nat} {s : AS} {a : Act} {W : World} {D : Nat → Nat → Prop} {hv : Nat → Value}

theorem ob_off {ob lp : AS} (hS : SimG w0 U0 nt (ob ++ lp) a W D hv) (hlend : ob.all lendB = true) (hko : ((kO ob).all fun k => Nat.ble 300000 k) = true) {V : UX} (v3 : ∀ b, V.x b ↔ ∃ k av, look ob k = some av ∧ oKey k ∧ hb (hv k) = some b) {b kk o : Nat} (hkk : kk = 299998 ∨ kk = 299999) (h9 : look (ob ++ lp) kk = some (.ob b o)) : ¬ V.x b := fun hb => by
  obtain ⟨q, av, g1, g2, g3⟩ := (v3 b).1 hb
  have hq : 300000 ≤ q := Nat.le_of_ble_eq_true (List.all_eq_true.1 hko q (mem_keys g1))
  have hav : av.t ≠ 7 := by
    have h3 := all_look hlend g1
    unfold lendB at h3
    unfold oKey at g2
    have h4 : Nat.ble 500000 q = false := by
      cases e : Nat.ble 500000 q with
      | false => rfl
      | true => have := Nat.le_of_ble_eq_true e; omega
    simp only [h4, Bool.and_eq_true, Bool.not_eq_true'] at h3
    intro e
    rw [e] at h3
    exact absurd h3.1.2 (by decide)
  have hkk' : oKey kk := by unfold oKey; omega
  have hO : OX (Us w0 U0 D) W (.ob b o) (hv kk) := hS.obj kk (.ob b o) h9 hkk'
  have hval : hv kk = .pointer (some ⟨b, 0, none⟩) := (hO.2.1 rfl).1
  have hsub : look (ob ++ lp) q = some av := by rw [look_append, g1]; rfl
  exact hS.disj q kk av _ b hsub h9 g2 hkk' hav (fun e => by cases e) (by omega) g3 (by rw [hval]; rfl)
end
section
variable {P : Program} {w0 : World} {U0 : UX} {nt : Nat} {s : AS}
end
section
variable {P : Program} {nt : Nat}

theorem callsM_of {f : FuncId} {fn : Func} {c : Code} {pre post : AS} {args : List AV} {r : AV} (hf : P.funcs[f]? = some fn) (hn : fn.ntmps = nt) (hb : fn.body = some c) (hl : Nat.ble args.length nt = true) (hnt : Nat.blt nt 100000 = true) (hpre : (kO pre).all (Nat.ble 100000) = true) (hpost : (kO post).all (Nat.ble 100000) = true) {w : World} {U : UX}
    (h : AWpM P w U nt c (fun e s' g => (e = .normal ∨ e = .ret) ∧ ∃ s2, Wk w U nt s' ((299999, .ob g 0) :: s2) ∧ resA P s2 fn.results.toList = some r ∧ SubL s2 post ∧ look s2 299999 = none) (argA args 0 ++ pre)) {hv : Nat → Value} {a0 : Act} {vs : List Value} (hpS : SimG w U 0 pre a0 w (fun _ _ => False) hv) (hargs : AVReps (Us w U (fun _ _ => False)) w hv (LiveN pre) args vs) :
    Calls P f vs.toArray w fun e w' => ∃ v D' hv' a', e = .returned v ∧ SimG w U 0 post a' w' D' hv' ∧ AVRep (Us w U D') w' hv' (LiveN post) r v := by
  have hlen := hargs.len
  refine callsIn_wide.1 (callsIn_of_wp_marks (F := Fence.wide) (n := 1) hf hb trivial ?_ rfl)
  have hle := Nat.le_of_ble_eq_true hl
  have hnt := bL hnt
  have hlow : ∀ {k av}, look pre k = some av → 100000 ≤ k := fun {k av} h1 => by
    rw [List.all_eq_true] at hpre
    exact Nat.le_of_ble_eq_true (hpre k (mem_keys h1))
  have hlk : ∀ {k}, 100000 ≤ k → look (argA args 0 ++ pre) k = look pre k := fun {k} h1 => by
    rw [look_append]
    cases h2 : look (argA args 0) k with
    | none => rfl
    | some av =>
      obtain ⟨_, h3⟩ := look_argA h2
      rw [Nat.sub_zero, List.getElem?_eq_none (by omega)] at h3
      cases h3
  have hlive : LiveN (argA args 0 ++ pre) = LiveN pre := by
    funext n
    unfold LiveN Live
    apply propext
    constructor
    · rintro (h1 | ⟨e, h1, h2, h3⟩)
      · exact .inl h1
      · rw [hlk (by omega)] at h1; exact .inr ⟨e, h1, h2, h3⟩
    · rintro (h1 | ⟨e, h1, h2, h3⟩)
      · exact .inl h1
      · exact .inr ⟨e, by rw [hlk (by omega)]; exact h1, h2, h3⟩
  have hs : Sim w U nt (argA args 0 ++ pre) { tmps := vs.toArray ++ Array.replicate (fn.ntmps - vs.toArray.size) undef, defers := [] } w := by
    refine ⟨fun _ _ => False, hv, hpS.below, rfl, by simp [hn]; omega, fun d av h1 h2 => ?_, fun n o av h1 h2 h3 h4 => ?_, fun n o o' av av' h1 h2 => ?_, fun k av h1 h2 => ?_, fun k av g h1 h2 => ?_, fun k k' av av' g h1 h2 h3 h4 => ?_, hpS.fix, fun b o hd => hd.elim⟩
    · rw [look_append] at h1
      cases h3 : look (argA args 0) d with
      | none =>
        rw [h3] at h1
        have := hlow h1
        omega
      | some av' =>
        rw [h3] at h1
        cases h1
        obtain ⟨_, h4⟩ := look_argA h3
        rw [Nat.sub_zero] at h4
        obtain ⟨v, h6, h7⟩ := hargs.at h4
        have hdl : d < vs.length := by
          rcases Nat.lt_or_ge d vs.length with h | h
          · exact h
          · rw [List.getElem?_eq_none h] at h6; cases h6
        rw [hlive]
        refine ⟨v, ?_, h7⟩
        rw [Array.getElem?_append_left (by simpa using hdl)]
        simpa using h6
    · rw [hlk (by unfold fKey; omega)] at h1
      rw [hlk (by omega)] at h3
      rw [hlive]
      exact hpS.fld n o av h1 h2 h3 h4
    · rw [hlk (by unfold fKey; omega)] at h1 h2
      exact hpS.fdis n o o' av av' h1 h2
    · rw [hlk h2.1] at h1; rw [hlive]; exact hpS.obj k av h1 h2
    · rw [hlk h2.1] at h1; exact hpS.blk k av g h1 h2
    · rw [hlk h3.1] at h1; rw [hlk h4.1] at h2; exact hpS.disj k k' av av' g h1 h2 h3 h4
  refine wpIn_mono (h _ w hs) ?_
  rintro e a' w' ⟨s', a'', g, ⟨h1, s2, g1, g2, g3, g4⟩, h3, rfl, g5⟩
  obtain ⟨D', hv', h4⟩ := g1 a'' w' h3
  obtain ⟨h5, h6, h7, y, h8, h9⟩ := h4.putob (n := 299999) (o := 0) (o' := 1) (by unfold RW; omega) (lS _ _ _) (x := .deferred none) (fun _ _ _ e => by cases e) (fun e => by cases e)
  have h9 := h9 rfl
  subst h9
  have hS := h5.sub (s' := s2) fun k av hk => by
    have hne : (299999 : Nat) ≠ k := fun e => by rw [← e, g4] at hk; cases hk
    rw [lN hne, lN hne]; exact hk
  obtain ⟨v, i1, i2⟩ := resA_run hS g2
  have hlow2 : ∀ {k av}, look post k = some av → 100000 ≤ k := fun {k av} h1 => by
    rw [List.all_eq_true] at hpost
    exact Nat.le_of_ble_eq_true (hpost k (mem_keys h1))
  have hSp := hS.sub g3.sub
  have hS0 : SimG w U 0 post ⟨#[], []⟩ (w'.putObj g (.deferred none)) D' hv' := ⟨hSp.below, rfl, rfl, fun d av h7 h8 => by have := hlow2 h7; omega, hSp.fld, hSp.fdis, hSp.obj, hSp.blk, hSp.disj, hSp.fix, hSp.dlt⟩
  have hleave : LeavesInM Fence.wide 1 P fn a''.tmps (fun e w' => ∃ v D' hv' a', e = .returned v ∧ SimG w U 0 post a' w' D' hv' ∧ AVRep (Us w U D') w' hv' (LiveN post) r v) [⟨.collected g, #[]⟩] .returning w' :=
    ⟨(fun e => by cases e), .inl ⟨g, _, rfl, run_takeDeferred h8, v, i1, v, D', hv', _, rfl, hS0, i2.move (fun _ _ _ h1 h2 => ⟨h1, h2⟩) (fun _ h7 => h7.imp id fun ⟨e, he⟩ => ⟨e, g3.sub _ _ he.1, he.2⟩) fun _ => rfl⟩⟩
  rcases h1 with rfl | rfl
  · exact hleave
  · exact hleave
theorem afunM_of {W : World} {f : FuncId} {fn : Func} {c : Code} {args : List CV} {r : CV} (hf : P.funcs[f]? = some fn) (hn : fn.ntmps = nt) (hname : (fn.name == "runtime.NumGoroutine") = false) (hb : fn.body = some c) (hl : Nat.ble (args.map AV.val).length nt = true) (hnt : Nat.blt nt 100000 = true)
    (h : ∀ (w : World) (U : UX), Hw w w U → AWpM P w U nt c (fun e s' g => (e = .normal ∨ e = .ret) ∧ ∃ s2, Wk w U nt s' ((299999, .ob g 0) :: s2) ∧ resA P s2 fn.results.toList = some (.val r) ∧ SubL s2 [] ∧ look s2 299999 = none) (argA (args.map AV.val) 0 ++ [])) : AFun P W f args (.val r) := by
  refine ⟨ent_of hf hname (by rw [hb]; rfl), .inl rfl, rfl, fun U w vs _ hv => ?_⟩
  obtain ⟨V, hV⟩ : ∃ V : UX, V = ⟨U, fun _ => False, fun _ => none, fun k v e => by cases e⟩ := ⟨_, rfl⟩
  have hus : ∀ b o v, U b o → w.cell? ⟨b, o, none⟩ = some v → Us w V (fun _ _ => False) b o ∧ w.cell? ⟨b, o, none⟩ = some v := fun b o v h1 h2 => ⟨.inl ⟨World.block_lt_of_cell? w _ h2, by rw [hV]; exact h1, by rw [hV]; exact fun h => h⟩, h2⟩
  have hS : SimG w V 0 [] ⟨#[], []⟩ w (fun _ _ => False) (fun _ => .slice none 0 0) := ⟨BelowX.refl _ _, rfl, rfl, (fun d av h => by cases h), (fun n o av h => by cases h), (fun n o o' av av' h => by cases h), (fun k av h => by cases h), (fun k av g h => by cases h), (fun k k' av av' g h => by cases h), (fun k v h => by rw [hV] at h; cases h), fun b o h => h.elim⟩
  have hargs : ∀ (cs : List CV) (vs : List Value), VReps U w cs vs → AVReps (Us w V (fun _ _ => False)) w (fun _ => .slice none 0 0) (LiveN []) (cs.map AV.val) vs := by
    intro cs
    induction cs with
    | nil => intro vs h; exact h
    | cons a cs ih =>
      rintro vs ⟨u, us, rfl, h1, h2⟩
      exact ⟨u, us, rfl, avrep_val (h1.keep hus), ih us h2⟩
  refine (callsM_of (post := []) hf hn hb hl hnt rfl rfl (h w V ⟨fun _ => by rw [hV], fun b hb => by rw [hV] at hb; exact hb⟩) hS (hargs args vs hv)).mono ?_
  rintro e w' ⟨v, D', hv', a', rfl, h1, h2⟩
  refine ⟨v, rfl, ?_, h1.below.below fun k hk => by rw [hV] at hk; exact hk⟩
  have h3 : VRep (Us w V D') w' r v := by
    have : VRep (Us w V D') w' r v ∧ Tk hv' (LiveN []) (.val r) v.cells.toList := h2
    exact this.1
  show VRep _ w' r v
  refine h3.keep fun b o u hu hc => ⟨?_, hc⟩
  rcases hu with hu | hu
  · left; have := hu.2.1; rw [hV] at this; exact this
  · exact .inr hu.1
end
end Go.Proofs.YteegmcfobgpemaaGreat
namespace Go.Proofs.YteegmcfobgpemaaGreat
open Go.RowKit Go.MapKept Go.Shelf
set_option linter.unusedVariables false
set_option linter.unusedSimpArgs false
attribute [local go_sem] Oper.semAt_some
end Go.Proofs.YteegmcfobgpemaaGreat
namespace Go.Proofs.YteegmcfobgpemaaGreat
open Go.RowKit
set_option linter.unusedVariables false
set_option linter.unusedSimpArgs false
theorem info_lit : (Tryz.prog.info? 43).map (fun i => (i.zero, i.size, i.bytes)) = some (some (.agg #[.bool false, .int .i64 0, .slice none 0 0, .int .i64 0, .slice none 0 0]), 5, 72) := by kernel_rfl

set_option maxRecDepth 100000 in
set_option maxHeartbeats 400000 in
theorem growL_any (n : Nat) (hn : n ≤ 2199023255552) (w : World) :
    Calls Tryz.prog 132 #[.slice none 0 0, .int .i64 (n : Int)] w fun e w' => ∃ v, e = .returned v ∧ w'.ownsRow w.heap.size 43 5 v 0 [] ∧ Below w.heap.size w w' := by
  obtain ⟨i, hi1, hi2, hi3, hi4⟩ := info_parts info_lit
  rcases Nat.eq_zero_or_pos n with rfl | h0
  · go_enter Tryz.func132, Tryz.ntmps132
    go_wp2
    go_ret
    exact ⟨_, rfl, World.ownsRow_nil _ _ _ _, bW _⟩
  · have hr := Lib.run_append_nil_zeros (P := Tryz.prog) w 26 3 26 43 i (.agg #[.bool false, .int .i64 0, .slice none 0 0, .int .i64 0, .slice none 0 0]) .i64 .i64 Tryz.underlying26 Tryz.underlying3 hi1 hi2 n h0 (by rw [hi3]; omega) (by omega) (by rw [hi4]; omega)
    go_enter Tryz.func132, Tryz.ntmps132
    go_wp2_with (at_builtin; refine Lib.wpList_append_run _ rfl _ _ _ _ rfl _ _ rfl rfl _ _ hr ?_)
    go_wp2
    go_ret
    refine ⟨_, rfl, World.ownsRow_made w.drew _ _ (Nat.le_refl _) (grownCap_le_maxLen _ _ _ _ (by unfold maxLen; omega)) ?_, (Below.refl _ _).drew.alloc (Nat.le_refl _) _⟩
    have := grownCap_ge w n 0 43
    simp [size_zeroCells]
    try omega

set_option maxRecDepth 100000 in
set_option maxHeartbeats 800000 in
theorem concatL_any (a : Option Addr) (m c : Nat) (A : Nat → Option Addr) (L C : Nat → Nat) (R : Nat → List Value) (w : World) (hr : Rw 5 w a m A L C R) (hm : m ≤ 1000) (hs : lenJ L m ≤ 1099511627776) :
    Calls Tryz.prog 95 #[.slice a m c] w fun e w' => ∃ v, e = .returned v ∧ w'.ownsRow w.heap.size 43 5 v (lenJ L m) (joinV R m) ∧ Below w.heap.size w w' := by
  obtain ⟨J, hJ⟩ : ∃ J : Nat → List Value, J = joinV R := ⟨_, rfl⟩
  obtain ⟨N, hN⟩ : ∃ N : Nat → Nat, N = lenJ L := ⟨_, rfl⟩
  have HS : Hid (∀ k, J (k + 1) = J k ++ R k) := fun k => by rw [hJ]; rfl
  have HSN : Hid (∀ k, N (k + 1) = N k + L k) := fun k => by rw [hN]; rfl
  have HJ0 : Hid (J 0 = [] ∧ N 0 = 0) := by rw [hJ, hN]; exact ⟨rfl, rfl⟩
  have HL : Hid (∀ k, k ≤ m → N k ≤ 1099511627776) := fun k hk => by rw [hN]; exact Nat.le_trans (lenJ_le L hk) hs
  have HR : Hid (∀ B w', Below B w w' → w.heap.size ≤ B → Rw 5 w' a m A L C R) := fun B w' hb hB => hr.below hb hB
  have HR0 : Hid (Rw 5 w a m A L C R) := hr
  rw [← hJ, ← hN]
  clear hJ hs hr hN
  go_enter Tryz.func95, Tryz.ntmps95
  go_wp2
  go_loop [3, 11] (fun s i => ∃ k x : Nat, i = .int .i64 (k : Int) ∧ k ≤ m ∧ s = .int .i64 (x : Int) ∧ x = N k) (fun s i => m - (intOf i).toNat)
  case atStart => exact ⟨0, 0, rfl, by omega, rfl, by rw [HJ0.out.2]⟩
  case round =>
    obtain ⟨k, x, rfl, hk, rfl, hx⟩ := hrel
    have HX : Hid (x = N k) := hx
    have hx1 : x ≤ 1099511627776 := by rw [hx]; exact HL.out k hk
    clear hx
    by_cases hlt : k < m
    · rcases HR0.out.2 with h0 | ⟨b, off, rfl, hb, hc⟩
      · omega
      have hck := hc k hlt
      have HXX : Hid (x + L k = N (k + 1)) := by show x + L k = _; rw [HSN.out k, ← HX.out]
      have hx2 : x + L k ≤ 1099511627776 := by rw [HXX.out]; exact HL.out (k + 1) hlt
      obtain ⟨Lk, hLk⟩ : ∃ y, L k = y := ⟨_, rfl⟩
      obtain ⟨Ak, hAk⟩ : ∃ y, A k = y := ⟨_, rfl⟩
      obtain ⟨Ck, hCk⟩ : ∃ y, C k = y := ⟨_, rfl⟩
      rw [hLk] at HXX hx2
      rw [hLk, hAk, hCk] at hck
      clear hLk hAk hCk hc
      go_wp2
      refine ⟨⟨k + 1, x + Lk, by go_num, by omega, by go_num, HXX.out⟩, ?_⟩
      simp [intOf]; omega
    · obtain rfl : k = m := by omega
      go_wp2_with fail
      refine (growL_any x (by omega) w).mono ?_
      rintro e w1 ⟨v1, rfl, ho1, hb1⟩
      go_wp2
      go_loopw [6, 27] (fun u i wr => ∃ j : Nat, i = .int .i64 (j : Int) ∧ j ≤ k ∧ wr.ownsRow w.heap.size 43 5 u (N j) (J j) ∧ Below w.heap.size w wr) (fun _ i _ => k - (intOf i).toNat)
      case atStart => exact ⟨0, rfl, by omega, by rw [HJ0.out.1, HJ0.out.2]; exact ho1, hb1⟩
      case round =>
        obtain ⟨j, rfl, hj, hoj, hbj⟩ := hrel
        by_cases hlt : j < k
        · obtain ⟨hn1, hbs, hRl, hone⟩ := (HR.out _ _ hbj (Nat.le_refl _)).1 j hlt
          rcases (HR.out _ _ hbj (Nat.le_refl _)).2 with h0 | ⟨b, off, rfl, hb, hc⟩
          · omega
          have hck := hc j hlt
          have hJl : N j + L j ≤ 1099511627776 := by
            have := HL.out (j + 1) hlt
            rw [HSN.out j] at this
            exact this
          have HSj' : Hid (J (j + 1) = J j ++ R j ∧ N (j + 1) = N j + L j) := ⟨HS.out j, HSN.out j⟩
          obtain ⟨Lk, hLk⟩ : ∃ y, L j = y := ⟨_, rfl⟩
          obtain ⟨Ak, hAk⟩ : ∃ y, A j = y := ⟨_, rfl⟩
          obtain ⟨Ck, hCk⟩ : ∃ y, C j = y := ⟨_, rfl⟩
          obtain ⟨Rk, hRk⟩ : ∃ y, R j = y := ⟨_, rfl⟩
          obtain ⟨Jk, hJk⟩ : ∃ y, J j = y := ⟨_, rfl⟩
          obtain ⟨Nk, hNk⟩ : ∃ y, N j = y := ⟨_, rfl⟩
          rw [hAk, hRk] at hbs
          rw [hRk] at hone
          rw [hLk, hRk] at hRl
          rw [hLk, hAk, hCk] at hck
          rw [hLk, hAk, hCk] at hn1
          rw [hJk, hRk, hNk, hLk] at HSj'
          rw [hJk, hNk] at hoj
          rw [hNk, hLk] at hJl
          have hsz := hbj.size
          have HRl := hid hRl
          clear hLk hAk hCk hRk hJk hNk hc hRl
          go_wp2_with (at_builtin; refine wpList_append_cells _ rfl _ _ 26 rfl w.heap.size 43 (.agg #[.bool false, .int .i64 0, .slice none 0 0, .int .i64 0, .slice none 0 0]) 5 72 Tryz.underlying26 info_lit rfl (by decide) _ Nk Jk rfl hoj Ak Lk Ck Rk rfl hn1 hbs HRl.out hone ?d1 ?d2 hsz ?_)
          case d1 => unfold maxLen; omega
          case d2 => omega
          intro v2 w2 ho2 hg2
          have hb2 := hbj.trans (below_grown hoj hg2 hsz)
          clear hg2
          go_wp2
          go_roundw
          case rel => exact ⟨j + 1, by go_num, hlt, by rw [HSj'.out.1, HSj'.out.2]; exact ho2, hb2⟩
          case measure => simp [intOf]; omega
        · obtain rfl : j = k := by omega
          go_wp2
          go_ret
          exact ⟨_, rfl, hoj, hbj⟩

set_option maxRecDepth 100000
theorem sq_rowsL {U : Nat → Nat → Prop} {w : World} : ∀ {l : List (List Lt)} {ys : List Value}, Sq ((l.map fun x => CV.lst (x.map Lt.cv)).map fun c => Rep U w c) ys →
    ∃ (A : Nat → Option Addr) (L C : Nat → Nat) (R : Nat → List Value), ∀ r x, l[r]? = some x → ys[r]? = some (.slice (A r) (L r) (C r)) ∧ L r = x.length ∧ (A r = none → L r = 0 ∧ C r = 0) ∧ At U w (A r) (R r) ∧ Sq ((x.map Lt.cv).map fun c => Rep U w c) (R r)
  | [], ys, h => ⟨fun _ => none, fun _ => 0, fun _ => 0, fun _ => [], fun r x hx => by simp at hx⟩
  | x :: l, ys, h => by
    obtain ⟨y1, y2, rfl, h1, h2⟩ := h
    obtain ⟨a, n, c, rfl, g1, g2, g3, g4, zs, g5, g6⟩ := rep_lst.1 h1
    obtain ⟨A, L, C, R, hR⟩ := sq_rowsL (l := l) h2
    refine ⟨fun r => match r with | 0 => a | r + 1 => A r, fun r => match r with | 0 => n | r + 1 => L r, fun r => match r with | 0 => c | r + 1 => C r, fun r => match r with | 0 => zs | r + 1 => R r, fun r y hy => ?_⟩
    cases r with
    | zero =>
      simp at hy
      subst hy
      exact ⟨rfl, by rw [g1, List.length_map], g4, g5, g6⟩
    | succ r =>
      simp at hy
      exact hR r y hy
theorem sq_joinedL {U : Nat → Nat → Prop} {w : World} {l : List (List Lt)} {L : Nat → Nat} {R : Nat → List Value} (h : ∀ r x, l[r]? = some x → L r = x.length ∧ Sq ((x.map Lt.cv).map fun c => Rep U w c) (R r)) :
    ∀ k, k ≤ l.length → Sq (((l.take k).flatten.map Lt.cv).map fun c => Rep U w c) (joinV R k) ∧ lenJ L k = (l.take k).flatten.length := by
  intro k
  induction k with
  | zero => intro _; exact ⟨rfl, rfl⟩
  | succ k ih =>
    intro hk
    obtain ⟨h1, h2⟩ := ih (by omega)
    obtain ⟨x, hx⟩ : ∃ x, l[k]? = some x := ⟨l[k], List.getElem?_eq_getElem (by omega)⟩
    obtain ⟨h3, h4⟩ := h k x hx
    rw [List.take_add_one, hx, List.flatten_append, joinV, lenJ, List.map_append, List.map_append, List.length_append, h2, h3]
    simp only [Option.toList_some, List.flatten_cons, List.flatten_nil, List.append_nil]
    exact ⟨sq_append h1 h4, trivial⟩
theorem concatL_abs (W : World) (l : List (List Lt)) (hl : l.length ≤ 1000) (hs : l.flatten.length ≤ 1099511627776) : AFun Tryz.prog W 95 [.lst (l.map fun x => CV.lst (x.map Lt.cv))] (.val (.lst (l.flatten.map Lt.cv))) := by
  refine ⟨ent_of Tryz.func95 rfl rfl, .inl rfl, rfl, ?_⟩
  rintro U w vs hW ⟨u1, us1, rfl, h1, h3⟩
  have h3 : us1 = [] := h3
  subst h3
  obtain ⟨a, n, c, rfl, g1, g2, g3, g4, ys, g5, g6⟩ := vrep_lst.1 h1
  rw [List.length_map] at g1
  subst g1
  obtain ⟨A, L, C, R, hR⟩ := sq_rowsL g6
  obtain ⟨hj, hn⟩ := sq_joinedL (fun r x hx => ⟨(hR r x hx).2.1, (hR r x hx).2.2.2.2⟩) l.length (Nat.le_refl _)
  rw [List.take_length] at hj hn
  have hrw : Rw 5 w a l.length A L C R := by
    refine ⟨fun r hr => ?_, ?_⟩
    · obtain ⟨k1, k2, k3, k4, k5⟩ := hR r _ (List.getElem?_eq_getElem hr)
      refine ⟨k3, cs_of_at k4, ?_, rep_one_of k5⟩
      rw [sq_len (n := fun _ => 5) (fun c hc xs hx => by
        obtain ⟨t, ht, rfl⟩ := List.mem_map.1 hc
        rw [hx.len]
        exact Lt.size_all [t] _ (by simp)) k5, k2]
      rw [List.map_const', List.sum_replicate_nat]
      simp
    · by_cases hz : l.length = 0
      · exact .inl hz
      · refine .inr ?_
        have hc := cs_of_at g5
        have hy0 := (hR 0 _ (List.getElem?_eq_getElem (by omega : 0 < l.length))).1
        rcases hc with hc | ⟨b, off, ha, hb, hc⟩
        · rw [hc] at hy0; simp at hy0
        · refine ⟨b, off, ha, hb, fun r hr => ?_⟩
          have hy := (hR r _ (List.getElem?_eq_getElem hr)).1
          have hlt : r < ys.length := by
            rcases Nat.lt_or_ge r ys.length with h | h
            · exact h
            · rw [List.getElem?_eq_none h] at hy; cases hy
          rw [hc r hlt, hy]
  refine (concatL_any a l.length c A L C R w hrw hl (by rw [hn]; exact hs)).mono ?_
  rintro e w' ⟨v, rfl, ho, hb⟩
  obtain ⟨a', c', rfl, k1, k2, k3, k4⟩ := ownsRow_at ho
  refine ⟨_, rfl, vrep_lst.2 ⟨a', _, c', rfl, by rw [hn, List.length_map], k1, k2, k3, _, k4.keep fun b o v h1 h2 => ⟨.inr h1, h2⟩, hj.keep fun b o v h1 h2 => ⟨.inl h1, ?_⟩⟩, hb⟩
  rw [hb.cell (World.block_lt_of_cell? w _ h2)]
  exact h2
end Go.Proofs.YteegmcfobgpemaaGreat
namespace Go.Proofs.YteegmcfobgpemaaGreat
open Go.RowKit
set_option linter.unusedVariables false
set_option linter.unusedSimpArgs false
set_option maxRecDepth 100000

end Go.Proofs.YteegmcfobgpemaaGreat
namespace Go.Proofs.YteegmcfobgpemaaGreat
open Go.RowKit
set_option linter.unusedVariables false
set_option linter.unusedSimpArgs false
def catO : List (Option (List Value)) → Option (List Value)
  | [] => some []
  | none :: _ => none
  | some x :: r => match catO r with | some y => some (x ++ y) | none => none
def plS (k : Nat) (v : Value) (l : List CV) (r : Option (List Value)) : Option (List Value) := match k, v, l with
  | 0, v, [] => match plainV v, isNil v with | true, false => some [v] | _, _ => none
  | 1, .nilFunc, [] => some [.slice none 0 0]
  | 2, .nilFunc, _ => r
  | _, _, _ => none
def plC : Nat → CV → Option (List Value)
  | 0, _ => none
  | n + 1, ⟨k, v, l⟩ => plS k v l (catO (l.map (plC n)))
theorem catO_spec {U : Nat → Nat → Prop} {w : World} {n : Nat} (ih : ∀ c vs, plC n c = some vs → Rep U w c vs ∧ vs.length = c.size) : ∀ {zs : List CV} {vs : List Value}, catO (zs.map (plC n)) = some vs → ∃ segs : List (List Value), segs.flatten = vs ∧ segs.map List.length = zs.map CV.size ∧ zs.length = segs.length ∧ ∀ (i : Nat) (c : CV), zs[i]? = some c → ∃ seg, segs[i]? = some seg ∧ Rep U w c seg
  | [], vs, h => by
    simp [catO] at h
    subst h
    exact ⟨[], rfl, rfl, rfl, fun i c hi => by simp at hi⟩
  | z :: zs, vs, h => by
    rw [List.map_cons] at h
    cases hz : plC n z with
    | none => rw [hz] at h; simp [catO] at h
    | some x =>
      rw [hz] at h
      unfold catO at h
      split at h
      · rename_i y hy
        cases h
        obtain ⟨segs, a1, a2, a3, a4⟩ := catO_spec ih hy
        obtain ⟨b1, b2⟩ := ih z x hz
        refine ⟨x :: segs, by simp [a1], by simp [a2, b2], by simp [a3], fun i c hi => ?_⟩
        cases i with
        | zero => simp at hi; subst hi; exact ⟨x, rfl, b1⟩
        | succ i => obtain ⟨seg, c1, c2⟩ := a4 i c (by simpa using hi); exact ⟨seg, by simpa using c1, c2⟩
      · cases h
theorem plC_spec {U : Nat → Nat → Prop} {w : World} : ∀ (n : Nat) (c : CV) (vs : List Value), plC n c = some vs → Rep U w c vs ∧ vs.length = c.size
  | 0, c, vs, h => by cases h
  | n + 1, ⟨k, v, l⟩, vs, h => by
    rw [plC] at h
    unfold plS at h
    split at h
    · split at h
      · rename_i h1 h2
        cases h
        exact ⟨(rep_cell h1).2 h2, rfl⟩
      · cases h
    · cases h
      exact ⟨rep_nil U w, rfl⟩
    · obtain ⟨segs, a1, a2, a3, a4⟩ := catO_spec (fun c vs h => plC_spec (U := U) (w := w) n c vs h) h
      refine ⟨?_, ?_⟩
      · show Rep U w (.row l) vs
        rw [rep_row, ← a1]
        exact sq_of_segs a3 a4
      · rw [CV.size_mk, if_pos rfl, ← a1, List.length_flatten, a2]
    · cases h

section
variable {P : Program} {w0 : World} {U0 : UX} {nt : Nat} {ops : Array Oper} {o : Oper} {S : Nat → Option AV} {gs : List Nat} {d : Nat}
theorem a_allocT (zs : List CV) (hg : Gd w0 U0 nt ops o gs S) (hd : o.dst = some d) (hn : Nat.blt d nt = true) (h5 : Nat.blt d 100000 = true) {ty : TypeId} {it : TypeInfo} {cs : Array Value} (ho : o.op = .alloc ty) (hi : P.info? ty = some it) (hz : it.zero = some (.agg cs)) (h0 : plC 6 (.row zs) = some cs.toList) : AOp P w0 U0 nt ops o gs [(d, [])] S [(d, .bp d 0 []), (100000 + d, .bx (.row zs))] := by
  intro s hs hN a w ⟨D, hv, h⟩ Q K hK
  rw [if_pos (hg s hs a w D hv h)]
  have hrep : Rep (Us w0 U0 D) w (.row zs) cs.toList := (plC_spec 6 _ _ h0).1
  have he : (execOp a.eval o).run P w = .ok (.value (.pointer (some ⟨w.heap.size, 0, none⟩))) (w.alloc (.cells cs ty)) := by
    simp [execOp, ho, Instr.alloc, zeroValue, typeInfo, hi, hz, run_newVar, Value.cells]
  unfold Oper.wp
  rw [he, Oper.upon_value, hd]
  have := h.newbox (d := d) (av := .bx (.row zs)) (hN (d, []) (by simp)).nr (bL hn) (bL h5) (.inl rfl) ty (fun _ => hrep) (fun _ hl => absurd hl not_live0)
  rw [Array.toArray_toList] at this
  exact hK _ _ ⟨_, _, this⟩
theorem a_buildT (zs : List CV) (hg : Gd w0 U0 nt ops o gs S) (hd : o.dst = some d) (hn : Nat.blt d nt = true) (h5 : Nat.blt d 100000 = true) {t : TypeId} {parts : Array (Nat × Operand)} {fs : Array Field} {it : TypeInfo} {cs : Array Value} {sz : List Nat} {r : List CV} (ho : o.op = .build t parts) (hu : P.underlying t = some (.struct fs)) (hi : P.info? t = some it) (hz : it.zero = some (.agg cs)) (hsz : szO P fs.toList 0 = some sz) (hzz : zs.map CV.size = sz) (h0 : catO (zs.map (plC 6)) = some cs.toList) (hr : setsO S parts.toList zs = some r) :
    AOp P w0 U0 nt ops o (gs ++ rds parts.toList) [] S [(d, .val (.row r))] :=
  aop_val hg hd hn h5 (fun k hk => List.mem_append_left _ hk) fun s hs a w D hv hm => by
    obtain ⟨segs, e1, e2, e4, e5⟩ := catO_spec (U := Us w0 U0 D) (w := w) (plC_spec 6) h0
    obtain ⟨g1, g2⟩ := setsO_spec (U := Us w0 U0 D) (w := w) (ρ := a.eval) (segs := segs) hr (fun x hx c n q p hev => ev_val hm (fun k hk => hs k (List.mem_append_right _ (mem_rds hx k hk))) hev) e4 e2 e5
    obtain ⟨pl, h1, h2⟩ := szO_spec hsz
    have hfill := fill_segs (place := fun i => pl.toArray[i]?) sz (fun i z hz => by rw [List.getElem?_toArray, h2 i z hz, Nat.zero_add]) (parts.toList.map fun x => (x.1, a.eval x.2)) segs cs e1.symm (by rw [e2, hzz]) (fun x hx => by rw [← hzz]; exact g1 x hx)
    refine ⟨.agg (setAll segs (parts.toList.map fun x => (x.1, a.eval x.2))).flatten.toArray, ?_, avrep_val (vrep_row.2 ⟨_, rfl, g2⟩)⟩
    have hb : P.built t (parts.map fun x => (x.1, a.eval x.2)).toList = some (setAll segs (parts.toList.map fun x => (x.1, a.eval x.2))).flatten.toArray := by
      unfold Program.built
      rw [hi, hu]
      simp only [hz, h1]
      rw [Array.toList_map]
      exact hfill
    have := run_build w t _ _ hb
    generalize a.eval = ρ at this ⊢
    simp [execOp, ho, this]
end
end Go.Proofs.YteegmcfobgpemaaGreat
namespace Go.Proofs.YteegmcfobgpemaaGreat
open Go.RowKit
set_option linter.unusedVariables false
set_option linter.unusedSimpArgs false
set_option maxRecDepth 100000
def okCl (c : List Lt) : Prop := c.length ≤ 12 ∧ ∀ l ∈ c, (l.a.rng ∧ l.a.ok ∧ l.a.size ≤ 1000) ∧ (l.b.rng ∧ l.b.ok ∧ l.b.size ≤ 1000)
theorem sidL_mem {c : List Lt} {s : Tm} : s ∈ sidL c ↔ ∃ l ∈ c, s = l.a ∨ s = l.b := by
  unfold sidL
  rw [List.mem_flatMap]
  constructor
  · rintro ⟨l, hl, h⟩
    exact ⟨l, hl, by simpa using h⟩
  · rintro ⟨l, hl, h⟩
    exact ⟨l, hl, by simpa using h⟩
theorem okCl.sid {c : List Lt} (h : okCl c) : (sidT c).rng ∧ (sidT c).ok ∧ (sidT c).size ≤ 24001 := by
  have hm : ∀ s ∈ sidL c, s.rng ∧ s.ok ∧ s.size ≤ 1000 := fun s hs => by
    obtain ⟨l, hl, e⟩ := sidL_mem.1 hs
    rcases e with rfl | rfl
    · exact (h.2 l hl).1
    · exact (h.2 l hl).2
  have hl := sidL_len c
  have h1 := h.1
  refine ⟨(Tm.rng_iff _).2 ⟨by show _ ≤ (0 : Int) ∧ (0 : Int) ≤ _; omega, fun s hs => (hm s hs).1⟩, (Tm.ok_iff _).2 ⟨by show (sidL c).length ≤ _; omega, fun s hs => (hm s hs).2.1⟩, ?_⟩
  rw [Tm.size_sym (show ¬ (sidT c).f < 0 by show ¬ (0 : Int) < 0; decide)]
  show 1 + ((sidL c).map Tm.size).sum ≤ _
  have : ∀ L : List Tm, (∀ s ∈ L, s.size ≤ 1000) → (L.map Tm.size).sum ≤ 1000 * L.length := fun L => by
    induction L with
    | nil => intro _; exact Nat.zero_le _
    | cons x L ih =>
      intro g
      rw [List.map_cons, List.sum_cons, List.length_cons]
      have a1 := g x (by simp)
      have a2 := ih fun s hs => g s (List.mem_cons_of_mem _ hs)
      omega
  have := this (sidL c) fun s hs => (hm s hs).2.2
  omega
theorem okCl.nv {c : List Lt} (h : okCl c) : (sidT c).nv.length ≤ 24001 := Nat.le_trans (nv_len _) h.sid.2.2
end Go.Proofs.YteegmcfobgpemaaGreat
namespace Go.Proofs.YteegmcfobgpemaaGreat
open Go.RowKit
set_option linter.unusedVariables false
set_option linter.unusedSimpArgs false
section
variable {P : Program} {w0 : World} {U0 : UX} {nt : Nat} {s : AS}

theorem wk_nilF (k n e0 z : Nat) (hk : Nat.ble 500000 k = true) (hn : (Nat.ble 200000 n && Nat.blt n 400000) = true) (hz : Nat.blt 0 z = true) (hs : look s k = some ⟨0, .lst [], 1, 0, []⟩) (hr : noRefB s [(n, [])] = true) (hnk : noKey s n = true) : Wk w0 U0 nt s ((k, .sl n 0 0 z) :: (n, .mrow e0 z []) :: s) := by
  rintro a w ⟨D, hv, h⟩
  have hk5 := Nat.le_of_ble_eq_true hk
  have hrn := rnB hn
  have hrn' : RN n := RW.rn hrn
  unfold RW at hrn
  have hnk' : look s n = none := by
    cases e : look s n with
    | none => rfl
    | some av =>
      unfold noKey at hnk
      rw [List.all_eq_true] at hnk
      have := hnk _ (look_mem e)
      simp [Nat.beq_refl] at this
  have hnr : NoRef s n := (noRefB_spec hr (n, []) (by simp)).nr
  obtain ⟨hv', hhv⟩ : ∃ hv' : Nat → Value, hv' = fun x => if x = n then .slice none 0 0 else hv x := ⟨_, rfl⟩
  have hvn : ∀ x, x ≠ n → hv' x = hv x := fun x hx => by rw [hhv]; simp only [if_neg hx]
  have hvd : hv' n = .slice none 0 0 := by rw [hhv]; simp
  obtain ⟨s', hs'⟩ : ∃ s', s' = (k, AV.sl n 0 0 z) :: (n, AV.mrow e0 z []) :: s := ⟨_, rfl⟩
  rw [← hs']
  have hlk : ∀ x, x ≠ k → x ≠ n → look s' x = look s x := fun x h1 h2 => by rw [hs', lN (Ne.symm h1), lN (Ne.symm h2)]
  have hlkk : look s' k = some (.sl n 0 0 z) := by rw [hs', lS]
  have hlkn : look s' n = some (.mrow e0 z []) := by rw [hs', lN (by omega), lS]
  have hl : ∀ q e, Live s' q e ↔ Live s q e := fun q e => by
    unfold Live
    by_cases e1 : q = k
    · omega
    · by_cases e2 : q = n
      · subst e2
        rw [hlkn, hnk']
        constructor <;> (rintro ⟨h1, _⟩; cases h1)
      · rw [hlk q e1 e2]
  have hl2 : LiveN s' = LiveN s := by funext q; simp only [LiveN, hl]
  have hmv : ∀ {k' av v}, look s k' = some av → AVRep (Us w0 U0 D) w hv (LiveN s) av v → AVRep (Us w0 U0 D) w hv' (LiveN s) av v := fun {k' av v} h1 h2 =>
    h2.move (fun _ _ _ h1 h2 => ⟨h1, h2⟩) (fun _ h => h) fun h3 => hvn _ (hk_ne_row hrn' (hnr k' av h1).1 h3)
  refine ⟨D, hv', h.below, h.dfr, h.size, fun d av g1 g2 => ?_, fun m o av g1 g2 g3 g4 => ?_, fun m o o' av av' g1 g2 g3 g4 g5 => ?_, fun k' av g1 g2 => ?_, fun k' av g g1 g2 g3 g4 => ?_, fun k' k2 av av' g g1 g2 g3 g4 g5 g6 g7 g8 => ?_, fun k' v g1 => ?_, h.dlt⟩
  · rw [hlk d (by omega) (by omega)] at g1
    rw [hl2]
    obtain ⟨v, h1, h2⟩ := h.slot d av g1 g2
    exact ⟨v, h1, hmv g1 h2⟩
  · have hbk := bn_okey g4
    unfold oKey at hbk
    unfold BN at g4
    rw [hlk (100000 + m) (by omega) (by omega)] at g3
    rw [hl2, hvn (100000 + m) (by omega)]
    by_cases e : fKey m o = k
    · rw [e, hlkk] at g1
      cases g1
      obtain ⟨v, h1, h2, h3⟩ := h.fld m o _ (by rw [e]; exact hs) g2 g3 g4
      have hv0 : v = .slice none 0 0 := by
        obtain ⟨q1, q2⟩ : VRep (Us w0 U0 D) w (.lst []) v ∧ Tk hv (LiveN s) ⟨0, .lst [], 1, 0, []⟩ v.cells.toList := h1
        obtain ⟨mm, c, f1, f2⟩ := q2 (.inl rfl)
        simp only at f1
        rw [at_nil] at f1
        cases f1
        obtain ⟨ao, k, c, e1, _⟩ := vrep_lst.1 q1
        rw [e1] at f2 ⊢
        simpa [Value.cells, tokv] using f2
      subst hv0
      refine ⟨.slice none 0 0, ⟨hrn', ?_⟩, rfl, h3⟩
      show SlV (hv' n) 0 0 z (.slice none 0 0)
      rw [hvd]
      exact slV_all rfl (Nat.le_refl _) (.inl rfl)
    · rw [hlk _ e (by unfold fKey; omega)] at g1
      obtain ⟨v, h1, h2, h3⟩ := h.fld m o av g1 g2 g3 g4
      exact ⟨v, hmv g1 h1, h2, h3⟩
  · have conv : ∀ o (av : AV), look s' (fKey m o) = some av → ∃ av', look s (fKey m o) = some av' ∧ av'.sz = av.sz := fun o av f1 => by
      by_cases e : fKey m o = k
      · rw [e, hlkk] at f1
        cases f1
        exact ⟨⟨0, .lst [], 1, 0, []⟩, by rw [e]; exact hs, rfl⟩
      · rw [hlk _ e (by unfold fKey; omega)] at f1
        exact ⟨av, f1, rfl⟩
    obtain ⟨a1, b1, c1⟩ := conv o av g1
    obtain ⟨a2, b2, c2⟩ := conv o' av' g2
    rw [← c1]
    exact h.fdis m o o' a1 a2 b1 b2 g3 g4 g5
  · unfold oKey at g2
    rw [hl2]
    by_cases e : k' = n
    · subst e
      rw [hlkn] at g1
      cases g1
      rw [hvd]
      exact ⟨[], World.ownsRow_nil _ _ _ _, bL hz, (fun c hc => by cases hc), rfl⟩
    · rw [hlk k' (by omega) e] at g1
      rw [hvn k' e]
      exact (h.obj k' av g1 g2).move (fun _ _ _ h1 h2 => ⟨h1, h2⟩) (fun ht hl => ⟨hl, by
        unfold tokv
        rw [hvn _ (hnr k' av g1).1]⟩) (fun _ _ => rfl)
  · unfold oKey at g2
    by_cases e : k' = n
    · subst e
      rw [hvd] at g4
      cases g4
    · rw [hlk k' (by omega) e] at g1
      rw [hvn k' e] at g4 ⊢
      exact h.blk k' av g g1 g2 g3 g4
  · unfold oKey at g3 g4
    by_cases e : k' = n
    · subst e
      rw [hvd] at g8
      cases g8
    · by_cases e2 : k2 = n
      · subst e2
        rw [hvd]
        intro h9; cases h9
      · rw [hlk k' (by omega) e] at g1
        rw [hlk k2 (by omega) e2] at g2
        rw [hvn k' e] at g8
        rw [hvn k2 e2]
        exact h.disj k' k2 av av' g g1 g2 g3 g4 g5 g6 g7 g8
  · have := U0.hf k' v g1
    rw [hvn k' (by omega)]
    exact h.fix k' v g1
end
end Go.Proofs.YteegmcfobgpemaaGreat
namespace Go.Proofs.YteegmcfobgpemaaGreat
open Go.RowKit
set_option linter.unusedVariables false
set_option linter.unusedSimpArgs false
set_option maxRecDepth 100000
theorem pw_down {k : Nat} : ∀ (l : List Nat) {ns : List Nd} {o : List Nat} {q}, downC k l ns o = some q → pw q.1 = pw ns
  | [], ns, o, q, e => by cases e; rfl
  | p :: l, ns, o, q, e => by
    rw [downC] at e
    cases h : headC k ns p with
    | none => rw [h] at e; cases e
    | some q1 =>
      rw [h] at e
      rw [pw_down l e, pw_us, pw_head k h]
theorem pw_ord {k : Nat} : ∀ (j i : Nat) {c : Cl} {o : List Nat} {q}, ordC k j i c o = some q → pw q.1.ns = pw c.ns
  | 0, _, _, _, _, e => by cases e
  | j + 1, i, c, o, q, e => by
    rw [ordC] at e
    split at e
    · cases e; rfl
    · rename_i g hg
      split at e
      · cases e
      · rename_i q1 h1
        rw [pw_ord j _ e]
        show pw q1.1 = _
        rw [pw_down _ h1, pw_parts]
theorem vr_few {c : Cl} {H r : Nat → Nat} {a b : Tm} (h : ClsC c H r [(a, b)]) (hv : vrOk c.vr) (ha : a.ten) (hb : b.ten) (hn : c.ns.length ≤ a.size + b.size) : c.vr.length < 20 := by
  have hnd : (c.vr.map Prod.snd).Nodup := by
    have h1 : c.vr.Pairwise (fun a b => a.1 ≠ b.1) := List.pairwise_map.1 hv.1
    refine List.pairwise_map.2 (List.Pairwise.imp_of_mem (fun {a b} ha hb hab e => hab ?_) h1)
    have e1 := (h.vrt a.1 a.2 (lookV_mem hv.1 ha)).2
    have e2 := (h.vrt b.1 b.2 (lookV_mem hv.1 hb)).2
    rw [e] at e1
    omega
  have hlt : ∀ x ∈ c.vr.map Prod.snd, x < c.ns.length ∧ (nT c.ns x).f < 0 := fun x hx => by
    obtain ⟨p, hp, rfl⟩ := List.mem_map.1 hx
    have h1 := h.vrt p.1 p.2 (lookV_mem hv.1 hp)
    have h2 := hv.2 p hp
    refine ⟨h1.1, ?_⟩
    rw [h1.2]; omega
  obtain ⟨n, m, h1, h2, e1, e2, _⟩ := h.pair (a, b) (by simp)
  have e1 : nT c.ns n = a := e1
  have e2 : nT c.ns m = b := e2
  have more : ∀ x, x < c.ns.length → ¬ (nT c.ns x).f < 0 → c.vr.length + 1 ≤ c.ns.length := fun x hx hf => by
    have := nodup_le c.ns.length (l := x :: c.vr.map Prod.snd) (List.nodup_cons.2 ⟨fun hm => hf (hlt x hm).2, hnd⟩) (fun y hy => by
      rcases List.mem_cons.1 hy with rfl | hy
      · exact hx
      · exact (hlt y hy).1)
    simpa using this
  have hle := vr_len h hv
  have hs1 := ha.2
  have hs2 := hb.2
  by_cases f1 : a.f < 0
  · by_cases f2 : b.f < 0
    · have s1 := Tm.size_var f1
      have s2 := Tm.size_var f2
      omega
    · have := more m h2 (by rw [e2]; exact f2)
      omega
  · have := more n h1 (by rw [e1]; exact f1)
    omega
theorem concat2_abs (W : World) (x y : List Lt) (hl : x.length + y.length ≤ 1000000) : AFun Tryz.prog W 95 [.lst [.lst (x.map Lt.cv), .lst (y.map Lt.cv)]] (.val (.lst ((x ++ y).map Lt.cv))) := by
  have h := concatL_abs W [x, y] (by simp) (by simp; omega)
  have e : [x, y].flatten = x ++ y := by simp
  rw [e] at h
  exact h
-- 
theorem eOthers_abs (W : World) (c : List Lt) (n : Nat) (hn : n < c.length) (hl : c.length ≤ 100000) : AFun Tryz.prog W 133 [.lst (c.map Lt.cv), .i (n : Int)] (.val (.lst ((offL c n).map Lt.cv))) := by
  have hsz := Lt.size_all c
  have hc2 := fun w => concat2_abs w (c.take n) (c.drop (n + 1)) (by rw [List.length_take, List.length_drop]; omega)
  rw [List.map_take, List.map_drop] at hc2
  have hlen : (c.map Lt.cv).length = c.length := List.length_map ..
  refine afun_of (rs := [.lst ((offL c n).map Lt.cv)]) Tryz.func133 Tryz.ntmps133 rfl rfl rfl rfl ?_
  intro w U hW
  refine aS (aR ?_)
  (refine nx (aA (gN rfl) rfl rfl rfl rfl rfl) rfl ?_)
  show AWp _ _ _ _ _ _ _
  refine aS (aD (by kernel_rfl) (by kernel_rfl) ?_)
  (refine nx (aM (gN rfl) rfl rfl rfl rfl rfl) rfl ?_)
  (refine nx (aM (gN rfl) rfl rfl rfl rfl rfl) rfl ?_)
  (refine nx (a_upto (gN rfl) rfl rfl rfl rfl rfl rfl rfl rfl rfl (by omega) (by first | assumption | exact sZ rfl | exact Tm.size_all _ | exact Bd.size_all _ | exact ints_size _ | exact bys_size _ | exact Lt.size_all _)) rfl ?_)
  (refine nx (aM (gN rfl) rfl rfl rfl rfl rfl) rfl ?_)
  (refine nx (aM (gN rfl) rfl rfl rfl rfl rfl) rfl ?_)
  (refine nx (a_add (gN rfl) rfl rfl rfl rfl rfl rfl (by first | omega | (simp only [List.length_map, List.length_append, List.length_cons, List.length_nil] <;> omega) | (simp <;> omega))) rfl ?_)
  (refine nx (a_from (lo := n + 1) (gN rfl) rfl rfl rfl rfl rfl rfl rfl rfl rfl (by omega) (by first | assumption | exact sZ rfl | exact Tm.size_all _ | exact Bd.size_all _ | exact ints_size _ | exact bys_size _ | exact Lt.size_all _)) rfl ?_)
  (refine nx (a_bslice (gN rfl) rfl rfl rfl rfl rfl rfl rfl rfl rfl rfl rfl rfl rfl) rfl ?_)
  (refine nx (a_call (gN rfl) rfl rfl rfl rfl rfl (hc2 w)) rfl ?_)
  (refine nx (aA (gN rfl) rfl rfl rfl rfl rfl) rfl ?_)
  refine ⟨by kernel_rfl, ?_⟩
  show AWp _ _ _ _ _ _ _
  exact aT (And.intro (.inr rfl) rfl)
theorem sid_fit {c : List Lt} (hl : c.length ≤ 100000) (h : ∀ l ∈ c, (l.a.rng ∧ l.a.ok) ∧ l.b.rng ∧ l.b.ok) : (⟨0, sidL c⟩ : Tm).rng ∧ (⟨0, sidL c⟩ : Tm).ok := by
  have hm : ∀ s ∈ sidL c, s.rng ∧ s.ok := fun s hs => by
    obtain ⟨l, hl, e⟩ := sidL_mem.1 hs
    rcases e with rfl | rfl
    · exact (h l hl).1
    · exact (h l hl).2
  have hlen := sidL_len c
  exact ⟨(Tm.rng_iff _).2 ⟨by show _ ≤ (0 : Int) ∧ (0 : Int) ≤ _; omega, fun s hs => (hm s hs).1⟩, (Tm.ok_iff _).2 ⟨by show (sidL c).length ≤ _; omega, fun s hs => (hm s hs).2⟩⟩
theorem ten_fit {c : List Lt} (h : ∀ l ∈ c, l.ten) : ∀ l ∈ c, (l.a.rng ∧ l.a.ok) ∧ l.b.rng ∧ l.b.ok := fun l hl => ⟨(h l hl).1.1, (h l hl).2.1⟩
theorem img_none : ∀ t : Tm, repT (imgB []) t = t.strip := fun t => rep_id t
theorem lt_none (c : List Lt) : c.map (Lt.rep (imgB [])) = c.map Lt.strip := by
  refine List.map_congr_left fun l _ => ?_
  unfold Lt.rep Lt.strip
  rw [img_none, img_none]
-- 
theorem eWithout_abs (W : World) (c : List Lt) (i : Int) (hl : c.length ≤ 100000) (hc : ∀ l ∈ c, (l.a.rng ∧ l.a.ok) ∧ l.b.rng ∧ l.b.ok) : AFun Tryz.prog W 96 [.lst (c.map Lt.cv), .i i] (.val (.lst (((if 0 ≤ i ∧ i < c.length then offL c i.toNat else c).map Lt.strip).map Lt.cv))) := by
  have hap : ∀ (d : List Lt) (w : World), d.length ≤ 100000 → (∀ l ∈ d, (l.a.rng ∧ l.a.ok) ∧ l.b.rng ∧ l.b.ok) → AFun Tryz.prog w 67 [.lst [], .lst (d.map Lt.cv)] (.val (.lst ((d.map Lt.strip).map Lt.cv))) := fun d w h1 h2 => by
    obtain ⟨g1, g2⟩ := sid_fit h1 h2
    have := cApply_abs w [] d (by omega) (by simp) (fun b hb => by cases hb) g1 g2
    rw [lt_none] at this
    exact this
  have hsz := Lt.size_all c
  refine afun_of (rs := [.lst (((if 0 ≤ i ∧ i < c.length then offL c i.toNat else c).map Lt.strip).map Lt.cv)]) Tryz.func96 Tryz.ntmps96 rfl rfl rfl rfl ?_
  intro w U hW
  refine aS (aR ?_)
  (refine nx (aA (gN rfl) rfl rfl rfl rfl rfl) rfl ?_)
  show AWp _ _ _ _ _ _ _
  by_cases h0 : i ≥ 0
  · have g0 : decide (i ≥ 0) = true := decide_eq_true h0
    by_cases h1 : i < c.length
    · have g1 : decide (i < ((c.map Lt.cv).length : Int)) = true := decide_eq_true (by rw [List.length_map]; exact h1)
      obtain ⟨n, rfl⟩ : ∃ n : Nat, i = (n : Int) := ⟨i.toNat, by omega⟩
      rw [if_pos ⟨h0, h1⟩, Int.toNat_natCast]
      have hn : n < c.length := by omega
      have hol := offL_len hn
      refine aS (aS (aR ?_))
      (refine nx (aM (gN rfl) rfl rfl rfl rfl rfl) rfl ?_)
      (refine nx (a_geq (gN rfl) rfl rfl rfl rfl rfl rfl) rfl ?_)
      (refine nx (aM (gN rfl) rfl rfl rfl rfl rfl) rfl ?_)
      (refine nx (aM (gd_on rfl rfl rfl rfl (by first | rfl | assumption | (simp; done))) rfl rfl rfl rfl rfl) rfl ?_)
      (refine nx (aM (gd_on rfl rfl rfl rfl (by first | rfl | assumption | (simp; done))) rfl rfl rfl rfl rfl) rfl ?_)
      (refine nx (a_len (gd_on rfl rfl rfl rfl (by first | rfl | assumption | (simp; done))) rfl rfl rfl rfl rfl rfl rfl) rfl ?_)
      (refine nx (a_lss (gd_on rfl rfl rfl rfl (by first | rfl | assumption | (simp; done))) rfl rfl rfl rfl rfl rfl) rfl ?_)
      (refine ⟨_, _, _, aPt (gN rfl) rfl rfl rfl rfl rfl ?hb rfl, rfl, ?_⟩; case hb => (first | rfl | assumption | (simp; done)))
      show AWp _ _ _ _ _ _ _
      refine aC rfl (fun _ => ?_) (fun h => by rw [g1] at h; cases h)
      refine aR ?_
      (refine nx (aM (gN rfl) rfl rfl rfl rfl rfl) rfl ?_)
      (refine nx (aM (gN rfl) rfl rfl rfl rfl rfl) rfl ?_)
      (refine nx (a_call (gN rfl) rfl rfl rfl rfl rfl (eOthers_abs w c n hn hl)) rfl ?_)
      (refine nx (aA (gN rfl) rfl rfl rfl rfl rfl) rfl ?_)
      show AWp _ _ _ _ _ _ _
      refine aS (aR ?_)
      (refine nx (aM (gN rfl) rfl rfl rfl rfl rfl) rfl ?_)
      (refine nx (a_call (gN rfl) rfl rfl rfl rfl rfl (hap (offL c n) w (by omega) (fun l h => hc l (offL_mem h)))) rfl ?_)
      (refine nx (aA (gN rfl) rfl rfl rfl rfl rfl) rfl ?_)
      show AWp _ _ _ _ _ _ _
      exact aT (And.intro (.inr rfl) rfl)
    · have g1 : decide (i < ((c.map Lt.cv).length : Int)) = false := decide_eq_false (by rw [List.length_map]; exact h1)
      rw [if_neg (by omega)]
      refine aS (aS (aR ?_))
      (refine nx (aM (gN rfl) rfl rfl rfl rfl rfl) rfl ?_)
      (refine nx (a_geq (gN rfl) rfl rfl rfl rfl rfl rfl) rfl ?_)
      (refine nx (aM (gN rfl) rfl rfl rfl rfl rfl) rfl ?_)
      (refine nx (aM (gd_on rfl rfl rfl rfl (by first | rfl | assumption | (simp; done))) rfl rfl rfl rfl rfl) rfl ?_)
      (refine nx (aM (gd_on rfl rfl rfl rfl (by first | rfl | assumption | (simp; done))) rfl rfl rfl rfl rfl) rfl ?_)
      (refine nx (a_len (gd_on rfl rfl rfl rfl (by first | rfl | assumption | (simp; done))) rfl rfl rfl rfl rfl rfl rfl) rfl ?_)
      (refine nx (a_lss (gd_on rfl rfl rfl rfl (by first | rfl | assumption | (simp; done))) rfl rfl rfl rfl rfl rfl) rfl ?_)
      (refine ⟨_, _, _, aPt (gN rfl) rfl rfl rfl rfl rfl ?hb rfl, rfl, ?_⟩; case hb => (first | rfl | assumption | (simp; done)))
      show AWp _ _ _ _ _ _ _
      refine aC rfl (fun h => by rw [g1] at h; cases h) (fun _ => aK ?_)
      show AWp _ _ _ _ _ _ _
      refine aS (aR ?_)
      (refine nx (aM (gN rfl) rfl rfl rfl rfl rfl) rfl ?_)
      (refine nx (a_call (gN rfl) rfl rfl rfl rfl rfl (hap c w hl hc)) rfl ?_)
      (refine nx (aA (gN rfl) rfl rfl rfl rfl rfl) rfl ?_)
      show AWp _ _ _ _ _ _ _
      exact aT (And.intro (.inr rfl) rfl)
  · have g0 : decide (i ≥ 0) = false := decide_eq_false h0
    rw [if_neg (by omega)]
    refine aS (aS (aR ?_))
    (refine nx (aM (gN rfl) rfl rfl rfl rfl rfl) rfl ?_)
    (refine nx (a_geq (gN rfl) rfl rfl rfl rfl rfl rfl) rfl ?_)
    (refine nx (aM (gN rfl) rfl rfl rfl rfl rfl) rfl ?_)
    (refine ⟨_, _, _, a_off (go_off rfl rfl rfl rfl (by first | rfl | assumption | (simp; done) | (simp [*]; done))) rfl rfl rfl, rfl, ?_⟩)
    (refine ⟨_, _, _, a_off (go_off rfl rfl rfl rfl (by first | rfl | assumption | (simp; done) | (simp [*]; done))) rfl rfl rfl, rfl, ?_⟩)
    (refine ⟨_, _, _, a_off (go_off rfl rfl rfl rfl (by first | rfl | assumption | (simp; done) | (simp [*]; done))) rfl rfl rfl, rfl, ?_⟩)
    (refine ⟨_, _, _, a_off (go_off rfl rfl rfl rfl (by first | rfl | assumption | (simp; done) | (simp [*]; done))) rfl rfl rfl, rfl, ?_⟩)
    (refine ⟨_, _, _, aPf (gN rfl) rfl rfl rfl rfl rfl ?hb rfl, rfl, ?_⟩; case hb => (first | rfl | assumption | (simp; done)))
    show AWp _ _ _ _ _ _ _
    refine aC rfl (fun h => by cases h) (fun _ => aK ?_)
    show AWp _ _ _ _ _ _ _
    refine aS (aR ?_)
    (refine nx (aM (gN rfl) rfl rfl rfl rfl rfl) rfl ?_)
    (refine nx (a_call (gN rfl) rfl rfl rfl rfl rfl (hap c w hl hc)) rfl ?_)
    (refine nx (aA (gN rfl) rfl rfl rfl rfl rfl) rfl ?_)
    show AWp _ _ _ _ _ _ _
    exact aT (And.intro (.inr rfl) rfl)
noncomputable def clC (c : List Lt) : CV := .lst (c.map Lt.cv)
theorem clC_size (L : List (List Lt)) : ∀ x ∈ L.map clC, x.size = 1 := by
  intro x hx
  obtain ⟨c, _, rfl⟩ := List.mem_map.1 hx
  rfl
noncomputable abbrev obE (L : List (List Lt)) : AS := [(450001, .obj), (35500100, .sl 300005 0 L.length 1), (300005, .mrow 26 1 (L.map clC))]
noncomputable abbrev ltZ3 : List CV := [.b false, .row [.i 0, .lst []], .row [.i 0, .lst []]]
theorem cnt_vsK (l : List Tm) {v : Int} (hv : 0 ≤ v) : cntF (-1 - v) l = (vsL l).count v := by
  unfold cntF vsL
  induction l with
  | nil => rfl
  | cons t l ih =>
    rw [List.filter_cons, List.filter_cons]
    by_cases h : t.f = -1 - v
    · have h2 : t.f < 0 := by omega
      rw [if_pos (by simpa using h), if_pos (by simpa using h2), List.length_cons, ih, List.map_cons, List.count_cons]
      simp only [beq_iff_eq]
      rw [if_pos (by omega)]
    · rw [if_neg (by simpa using h)]
      by_cases h2 : t.f < 0
      · rw [if_pos (by simpa using h2), ih, List.map_cons, List.count_cons]
        simp only [beq_iff_eq]
        rw [if_neg (by omega)]
        rfl
      · rw [if_neg (by simpa using h2)]; exact ih
-- 
theorem rCount_abs (W : World) (t : Tm) (v : Int) (hr : t.rng) (hok : t.ok) (hts : t.size ≤ 90000000000) (hv : 0 ≤ v ∧ v ≤ 9223372036854775807) : AFun Tryz.prog W 141 [t.cw, .i v] (.val (.i (t.vs.count v : Nat))) := by
  rw [show t.vs.count v = cntF (-1 - v) t.flat from (cnt_vsK t.flat hv.1).symm]
  refine afun_of (rs := [.i (cntF (-1 - v) t.flat : Nat)]) Tryz.func141 Tryz.ntmps141 rfl rfl rfl rfl ?_
  intro w U hW
  refine aS (aR ?_)
  (refine nx (a_box (gN rfl) rfl rfl rfl rfl rfl) rfl ?_)
  (refine nx (aA (gN rfl) rfl rfl rfl rfl rfl) rfl ?_)
  show AWp _ _ _ _ _ _ _
  refine aS (aR ?_)
  (refine nx (aL (gN rfl) rfl rfl rfl rfl rfl rfl rfl rfl rfl rfl rfl rfl) rfl ?_)
  (refine nx (a_call (gN rfl) rfl rfl rfl rfl rfl (refFlat_abs w t hok hts)) rfl ?_)
  (refine nx (aA (gN rfl) rfl rfl rfl rfl rfl) rfl ?_)
  show AWp _ _ _ _ _ _ _
  unfold Tm.size at hts
  obtain ⟨l, hl⟩ : ∃ l, l = t.flat := ⟨_, rfl⟩
  rw [← hl] at hts ⊢
  have hsz := Tm.size_all l
  refine aS (aR ?_)
  (refine nx (aA (gN rfl) rfl rfl rfl rfl rfl) rfl ?_)
  show AWp _ _ _ _ _ _ _
  refine aS (aS (aR ?_))
  (refine nx (aA (gN rfl) rfl rfl rfl rfl rfl) rfl ?_)
  show AWp _ _ _ _ _ _ _
  refine aB (awp_count l.length (fun i => [(1, .val (.i v)), (5, .val (.lst (l.map Tm.cv))), (6, .val (.i (cntF (-1 - v) (l.take i) : Nat))), (7, .val (.i i))]) (wk_sub ⟨rfl, rfl, rfl, rfl, trivial⟩) ?_)
  intro i hi
  refine aS (aS (aR ?_))
  (refine nx (aM (gN rfl) rfl rfl rfl rfl rfl) rfl ?_)
  (refine nx (aM (gN rfl) rfl rfl rfl rfl rfl) rfl ?_)
  (refine nx (a_len (gN rfl) rfl rfl rfl rfl rfl rfl rfl) rfl ?_)
  (refine nx (a_lss (gN rfl) rfl rfl rfl rfl rfl rfl) rfl ?_)
  show AWp _ _ _ _ _ _ _
  refine aC rfl (fun hc => aK ?_) (fun hc => aE ?_)
  · have hil : i < l.length := by
      simp only [List.length_map, decide_eq_true_eq] at hc
      omega
    clear hc
    obtain ⟨s, hs⟩ : ∃ s, l[i]? = some s := ⟨l[i], List.getElem?_eq_getElem hil⟩
    have hs' := Tm.map_at hs
    have htk : l.take (i + 1) = l.take i ++ [s] := by rw [List.take_add_one, hs]; rfl
    have hcl := cntF_le (-1 - v) (l.take i)
    rw [List.length_take] at hcl
    show AWp _ _ _ _ _ _ _
    refine aS (aB (aS (aR ?_)))
    (refine nx (aM (gN rfl) rfl rfl rfl rfl rfl) rfl ?_)
    (refine nx (aM (gN rfl) rfl rfl rfl rfl rfl) rfl ?_)
    (refine nx (a_index (gN rfl) rfl rfl rfl rfl rfl rfl rfl rfl rfl (by assumption) rfl (by first | assumption | exact sZ rfl | exact Tm.size_all _ | exact Bd.size_all _ | exact ints_size _ | exact bys_size _ | exact Lt.size_all _)) rfl ?_)
    (refine nx (a_field_ad (gN rfl) rfl rfl rfl rfl rfl rfl rfl rfl rfl rfl rfl) rfl ?_)
    (refine nx (a_load_ad (gN rfl) rfl rfl rfl rfl rfl rfl rfl rfl rfl) rfl ?_)
    (refine nx (aM (gN rfl) rfl rfl rfl rfl rfl) rfl ?_)
    (refine nx (a_sub (gN rfl) rfl rfl rfl rfl rfl rfl (by first | omega | (simp only [List.length_map, List.length_append, List.length_cons, List.length_nil] <;> omega) | (simp <;> omega))) rfl ?_)
    (refine nx (a_eql (gN rfl) rfl rfl rfl rfl rfl rfl) rfl ?_)
    show AWp _ _ _ _ _ _ _
    refine aC rfl (fun hc => ?_) (fun hc => aK ?_)
    · have hsf : s.f = -1 - v := by simpa using hc
      refine aR ?_
      (refine nx (aM (gN rfl) rfl rfl rfl rfl rfl) rfl ?_)
      (refine nx (a_add (gN rfl) rfl rfl rfl rfl rfl rfl (by first | omega | (simp only [List.length_map, List.length_append, List.length_cons, List.length_nil] <;> omega) | (simp <;> omega))) rfl ?_)
      (refine nx (aA (gN rfl) rfl rfl rfl rfl rfl) rfl ?_)
      show AWp _ _ _ _ _ _ _
      refine aR ?_
      (refine nx (aM (gN rfl) rfl rfl rfl rfl rfl) rfl ?_)
      (refine nx (a_add (gN rfl) rfl rfl rfl rfl rfl rfl (by first | omega | (simp only [List.length_map, List.length_append, List.length_cons, List.length_nil] <;> omega) | (simp <;> omega))) rfl ?_)
      (refine nx (aA (gN rfl) rfl rfl rfl rfl rfl) rfl ?_)
      refine ⟨hil, wk_sub ⟨rfl, rfl, ?_, rfl, trivial⟩⟩
      rw [htk, cntF_snoc, if_pos hsf]
      rfl
    · have hsf : ¬ s.f = -1 - v := by simpa using hc
      show AWp _ _ _ _ _ _ _
      refine aR ?_
      (refine nx (aM (gN rfl) rfl rfl rfl rfl rfl) rfl ?_)
      (refine nx (a_add (gN rfl) rfl rfl rfl rfl rfl rfl (by first | omega | (simp only [List.length_map, List.length_append, List.length_cons, List.length_nil] <;> omega) | (simp <;> omega))) rfl ?_)
      (refine nx (aA (gN rfl) rfl rfl rfl rfl rfl) rfl ?_)
      refine ⟨hil, wk_sub ⟨rfl, rfl, ?_, rfl, trivial⟩⟩
      rw [htk, cntF_snoc, if_neg hsf]
      rfl
  · have hil : i = l.length := by
      simp only [List.length_map, decide_eq_false_iff_not] at hc
      omega
    subst hil
    rw [List.take_length]
    show AWp _ _ _ _ _ _ _
    refine aS (aR ?_)
    (refine nx (aM (gN rfl) rfl rfl rfl rfl rfl) rfl ?_)
    (refine nx (aA (gN rfl) rfl rfl rfl rfl rfl) rfl ?_)
    show AWp _ _ _ _ _ _ _
    exact aT ⟨.inr rfl, rfl⟩
theorem cov_vars (a b : Tm) : cov a b ↔ ∀ v ∈ b.nv, b.vs.count v ≤ a.vs.count v := by
  unfold cov Tm.nv
  constructor
  · intro h v _; exact h v
  · intro h v
    by_cases hv : v ∈ b.vs
    · exact h v ((mem_nub _ v).2 hv)
    · rw [List.count_eq_zero_of_not_mem hv]; omega
theorem vs_rng {t : Tm} (hr : t.rng) : ∀ v ∈ t.vs, 0 ≤ v ∧ v ≤ 9223372036854775807 := by
  intro v hv
  unfold Tm.vs vsL at hv
  obtain ⟨s, hs, rfl⟩ := List.mem_map.1 hv
  rw [List.mem_filter] at hs
  have h1 := Tm.rng_flat hr s hs.1
  have h2 : s.f < 0 := by simpa using hs.2
  omega
-- 
theorem rCovers_abs (W : World) (a b : Tm) (ha : a.rng) (hao : a.ok) (has : a.size ≤ 90000000000) (hb : b.rng) (hbo : b.ok) (hbs : b.size ≤ 90000000000) : AFun Tryz.prog W 109 [a.cw, b.cw] (.val (.b (covB a b))) := by
  refine afun_of (rs := [.b (covB a b)]) Tryz.func109 Tryz.ntmps109 rfl rfl rfl rfl ?_
  intro w U hW
  have hvl := varsF_len b.flat
  refine aS (aR ?_)
  (refine nx (a_box (gN rfl) rfl rfl rfl rfl rfl) rfl ?_)
  (refine nx (a_box (gN rfl) rfl rfl rfl rfl rfl) rfl ?_)
  (refine nx (aA (gN rfl) rfl rfl rfl rfl rfl) rfl ?_)
  show AWp _ _ _ _ _ _ _
  have f1 := refVars_abs w b hb hbo hbs
  rw [nv_vars] at f1 hvl
  refine aS (aR ?_)
  (refine nx (aL (gN rfl) rfl rfl rfl rfl rfl rfl rfl rfl rfl rfl rfl rfl) rfl ?_)
  (refine nx (a_call (gN rfl) rfl rfl rfl rfl rfl (f1)) rfl ?_)
  (refine nx (aA (gN rfl) rfl rfl rfl rfl rfl) rfl ?_)
  show AWp _ _ _ _ _ _ _
  have hvr : ∀ v ∈ b.nv, 0 ≤ v ∧ v ≤ 9223372036854775807 := fun v hv => vs_rng hb v ((mem_nub _ v).1 hv)
  have hcv := cov_vars a b
  obtain ⟨l, hl⟩ : ∃ l, l = b.nv := ⟨_, rfl⟩
  rw [← hl] at hvl hvr hcv ⊢
  unfold Tm.size at hbs
  have hsz := ints_size l
  refine aS (aS (aR ?_))
  (refine nx (aA (gN rfl) rfl rfl rfl rfl rfl) rfl ?_)
  show AWp _ _ _ _ _ _ _
  refine aB (awp_countI l.length (fun i => ∀ j v, j < i → l[j]? = some v → b.vs.count v ≤ a.vs.count v) (fun i => [(2, .bp 2 0 []), (100002, .bx a.cw), (3, .bp 3 0 []), (100003, .bx b.cw), (5, .val (.lst (l.map CV.i))), (6, .val (.i i))]) (wk_sub ⟨rfl, rfl, rfl, rfl, rfl, rfl, trivial⟩) (fun j v hj => by omega) ?_)
  intro i hi hI
  refine aS (aS (aR ?_))
  (refine nx (aM (gN rfl) rfl rfl rfl rfl rfl) rfl ?_)
  (refine nx (aM (gN rfl) rfl rfl rfl rfl rfl) rfl ?_)
  (refine nx (a_len (gN rfl) rfl rfl rfl rfl rfl rfl rfl) rfl ?_)
  (refine nx (a_lss (gN rfl) rfl rfl rfl rfl rfl rfl) rfl ?_)
  show AWp _ _ _ _ _ _ _
  refine aC rfl (fun hc => aK ?_) (fun hc => aE ?_)
  · have hil : i < l.length := by
      simp only [List.length_map, decide_eq_true_eq] at hc
      omega
    clear hc
    obtain ⟨v, hv⟩ : ∃ v, l[i]? = some v := ⟨l[i], List.getElem?_eq_getElem hil⟩
    have hv' := ints_at hv
    have hvm := List.mem_of_getElem? hv
    have c1 := rCount_abs w b v hb hbo (by unfold Tm.size; omega) (hvr v hvm)
    have c2 := rCount_abs w a v ha hao has (hvr v hvm)
    show AWp _ _ _ _ _ _ _
    refine aS (aB (aS (aD (by kernel_rfl) (by kernel_rfl) ?_)))
    (refine nx (aL (gN rfl) rfl rfl rfl rfl rfl rfl rfl rfl rfl rfl rfl rfl) rfl ?_)
    (refine nx (aM (gN rfl) rfl rfl rfl rfl rfl) rfl ?_)
    (refine nx (aM (gN rfl) rfl rfl rfl rfl rfl) rfl ?_)
    (refine nx (a_index (j := i) (gN rfl) rfl rfl rfl rfl rfl rfl rfl rfl rfl (hv') rfl (hsz)) rfl ?_)
    (refine nx (a_load_ad (gN rfl) rfl rfl rfl rfl rfl rfl rfl rfl rfl) rfl ?_)
    (refine nx (a_call (gN rfl) rfl rfl rfl rfl rfl (c1)) rfl ?_)
    (refine nx (aL (gN rfl) rfl rfl rfl rfl rfl rfl rfl rfl rfl rfl rfl rfl) rfl ?_)
    (refine nx (aM (gN rfl) rfl rfl rfl rfl rfl) rfl ?_)
    (refine nx (aM (gN rfl) rfl rfl rfl rfl rfl) rfl ?_)
    (refine nx (a_index (j := i) (gN rfl) rfl rfl rfl rfl rfl rfl rfl rfl rfl (hv') rfl (hsz)) rfl ?_)
    (refine nx (a_load_ad (gN rfl) rfl rfl rfl rfl rfl rfl rfl rfl rfl) rfl ?_)
    (refine nx (a_call (gN rfl) rfl rfl rfl rfl rfl (c2)) rfl ?_)
    (refine nx (a_gtr (gN rfl) rfl rfl rfl rfl rfl rfl) rfl ?_)
    refine ⟨by kernel_rfl, ?_⟩
    show AWp _ _ _ _ _ _ _
    refine aC rfl (fun hc => ?_) (fun hc => aK ?_)
    · have hn : ¬ b.vs.count v ≤ a.vs.count v := by
        have := of_decide_eq_true hc
        omega
      have hcf : covB a b = false := by
        rw [← Bool.not_eq_true, covB_iff, hcv]
        exact fun h => hn (h v hvm)
      rw [hcf]
      refine aS (aR ?_)
      (refine nx (aA (gN rfl) rfl rfl rfl rfl rfl) rfl ?_)
      show AWp _ _ _ _ _ _ _
      exact aT ⟨.inr rfl, rfl⟩
    · have hn : b.vs.count v ≤ a.vs.count v := by
        have := of_decide_eq_false hc
        omega
      show AWp _ _ _ _ _ _ _
      refine aR ?_
      (refine nx (aM (gN rfl) rfl rfl rfl rfl rfl) rfl ?_)
      (refine nx (a_add (gN rfl) rfl rfl rfl rfl rfl rfl (by first | omega | (simp only [List.length_map, List.length_append, List.length_cons, List.length_nil] <;> omega) | (simp <;> omega))) rfl ?_)
      (refine nx (aA (gN rfl) rfl rfl rfl rfl rfl) rfl ?_)
      refine ⟨hil, fun j u hj hu => ?_, wk_sub ⟨rfl, rfl, rfl, rfl, rfl, rfl, trivial⟩⟩
      rcases Nat.lt_or_ge j i with h | h
      · exact hI j u h hu
      · have : j = i := by omega
        subst this
        rw [hv] at hu
        cases hu
        exact hn
  · have hil : i = l.length := by
      simp only [List.length_map, decide_eq_false_iff_not] at hc
      omega
    subst hil
    have hcf : covB a b = true := by
      rw [covB_iff, hcv]
      intro v hv
      obtain ⟨j, hj⟩ := List.getElem?_of_mem hv
      refine hI j v ?_ hj
      rcases Nat.lt_or_ge j l.length with h | h
      · exact h
      · rw [List.getElem?_eq_none h] at hj; cases hj
    rw [hcf]
    show AWp _ _ _ _ _ _ _
    refine aS (aR ?_)
    (refine nx (aA (gN rfl) rfl rfl rfl rfl rfl) rfl ?_)
    show AWp _ _ _ _ _ _ _
    exact aT ⟨.inr rfl, rfl⟩
theorem same_kb (a b : Tm) : sameT a b = decide (kb a b = 0) := by rw [Bool.eq_iff_iff, sameT_iff, decide_eq_true_iff, kb_zero]
-- 
set_option maxHeartbeats 2000000 in
theorem rGreater_abs (W : World) : ∀ a : Tm, a.rng → a.ok → a.size ≤ 90000000000 → ∀ b : Tm, b.rng → b.ok → b.size ≤ 90000000000 → AFun Tryz.prog W 82 [a.cw, b.cw] (.val (.b (decide (kb a b = 1)))) := by
  intro a
  induction a using Tm.ind generalizing W with
  | h f l ih =>
  intro ha hao has b hb hbo hbs
  obtain ⟨a, hae⟩ : ∃ a, a = Tm.mk f l := ⟨_, rfl⟩
  have hfa : a.f = f := by rw [hae]
  have hla : a.l = l := by rw [hae]
  rw [← hae] at ha hao has ⊢
  rw [← hla] at ih
  clear hae hfa hla
  have hok' := (Tm.ok_iff _).1 hao
  have hr' := (Tm.rng_iff _).1 ha
  have hbok' := (Tm.ok_iff _).1 hbo
  have hbr' := (Tm.rng_iff _).1 hb
  have hsz := Tm.size_all a.l
  have hsz2 := Tm.size_all b.l
  obtain ⟨K, hK⟩ : ∃ K, K = decide (kb a b = 1) := ⟨_, rfl⟩
  rw [← hK]
  refine afun_of (rs := [.b K]) Tryz.func82 Tryz.ntmps82 rfl rfl rfl rfl ?_
  intro w U hW
  refine aS (aR ?_)
  (refine nx (a_box (gN rfl) rfl rfl rfl rfl rfl) rfl ?_)
  (refine nx (a_box (gN rfl) rfl rfl rfl rfl rfl) rfl ?_)
  (refine nx (aA (gN rfl) rfl rfl rfl rfl rfl) rfl ?_)
  show AWp _ _ _ _ _ _ _
  have s1 := refSame_abs w a b hao hbo
  have c1 := rCovers_abs w a b ha hao has hb hbo hbs
  by_cases hs : sameT a b = true
  · have hk : kb a b = 0 := by rw [same_kb] at hs; exact of_decide_eq_true hs
    rw [hs] at s1
    rw [hK, hk]
    refine aS (aS (aR ?_))
    (refine nx (aL (gN rfl) rfl rfl rfl rfl rfl rfl rfl rfl rfl rfl rfl rfl) rfl ?_)
    (refine nx (aL (gN rfl) rfl rfl rfl rfl rfl rfl rfl rfl rfl rfl rfl rfl) rfl ?_)
    (refine nx (a_call (gN rfl) rfl rfl rfl rfl rfl (s1)) rfl ?_)
    (refine nx (aM (gN rfl) rfl rfl rfl rfl rfl) rfl ?_)
    (refine ⟨_, _, _, a_off (go_off rfl rfl rfl rfl (by first | rfl | assumption | (simp; done) | (simp [*]; done))) rfl rfl rfl, rfl, ?_⟩)
    (refine ⟨_, _, _, a_off (go_off rfl rfl rfl rfl (by first | rfl | assumption | (simp; done) | (simp [*]; done))) rfl rfl rfl, rfl, ?_⟩)
    (refine ⟨_, _, _, a_off (go_off rfl rfl rfl rfl (by first | rfl | assumption | (simp; done) | (simp [*]; done))) rfl rfl rfl, rfl, ?_⟩)
    (refine ⟨_, _, _, a_off (go_off rfl rfl rfl rfl (by first | rfl | assumption | (simp; done) | (simp [*]; done))) rfl rfl rfl, rfl, ?_⟩)
    (refine ⟨_, _, _, aPt (gN rfl) rfl rfl rfl rfl rfl ?hb rfl, rfl, ?_⟩; case hb => (first | rfl | assumption | (simp; done)))
    show AWp _ _ _ _ _ _ _
    refine aC rfl (fun hc => ?_) (fun hc => by cases hc)
    refine aS (aR ?_)
    (refine nx (aA (gN rfl) rfl rfl rfl rfl rfl) rfl ?_)
    show AWp _ _ _ _ _ _ _
    exact aT ⟨.inr rfl, rfl⟩
  have hs : sameT a b = false := by simpa using hs
  have hk0 : kb a b ≠ 0 := by rw [same_kb] at hs; exact of_decide_eq_false hs
  rw [hs] at s1
  by_cases hcv : covB a b = true
  case neg =>
    have hk : ¬ kb a b = 1 := fun h => hcv ((covB_iff a b).2 ((kb_one a b).1 h).1)
    have hcv : covB a b = false := by simpa using hcv
    rw [hcv] at c1
    have hK0 : K = false := by rw [hK]; simpa using hk
    rw [hK0]
    refine aS (aS (aR ?_))
    (refine nx (aL (gN rfl) rfl rfl rfl rfl rfl rfl rfl rfl rfl rfl rfl rfl) rfl ?_)
    (refine nx (aL (gN rfl) rfl rfl rfl rfl rfl rfl rfl rfl rfl rfl rfl rfl) rfl ?_)
    (refine nx (a_call (gN rfl) rfl rfl rfl rfl rfl (s1)) rfl ?_)
    (refine nx (aM (gN rfl) rfl rfl rfl rfl rfl) rfl ?_)
    (refine nx (aL (gd_on rfl rfl rfl rfl (by first | rfl | assumption | (simp; done))) rfl rfl rfl rfl rfl rfl rfl rfl rfl rfl rfl rfl) rfl ?_)
    (refine nx (aL (gd_on rfl rfl rfl rfl (by first | rfl | assumption | (simp; done))) rfl rfl rfl rfl rfl rfl rfl rfl rfl rfl rfl rfl) rfl ?_)
    (refine nx (a_call (gd_on rfl rfl rfl rfl (by first | rfl | assumption | (simp; done))) rfl rfl rfl rfl rfl (c1)) rfl ?_)
    (refine nx (a_not (gd_on rfl rfl rfl rfl (by first | rfl | assumption | (simp; done))) rfl rfl rfl rfl rfl) rfl ?_)
    (refine ⟨_, _, _, aPf (gN rfl) rfl rfl rfl rfl rfl ?hb rfl, rfl, ?_⟩; case hb => (first | rfl | assumption | (simp; done)))
    show AWp _ _ _ _ _ _ _
    refine aC rfl (fun hc => ?_) (fun hc => by cases hc)
    refine aS (aR ?_)
    (refine nx (aA (gN rfl) rfl rfl rfl rfl rfl) rfl ?_)
    show AWp _ _ _ _ _ _ _
    exact aT ⟨.inr rfl, rfl⟩
  have hcov := (covB_iff a b).1 hcv
  rw [hcv] at c1
  refine aS (aS (aR ?_))
  (refine nx (aL (gN rfl) rfl rfl rfl rfl rfl rfl rfl rfl rfl rfl rfl rfl) rfl ?_)
  (refine nx (aL (gN rfl) rfl rfl rfl rfl rfl rfl rfl rfl rfl rfl rfl rfl) rfl ?_)
  (refine nx (a_call (gN rfl) rfl rfl rfl rfl rfl (s1)) rfl ?_)
  (refine nx (aM (gN rfl) rfl rfl rfl rfl rfl) rfl ?_)
  (refine nx (aL (gd_on rfl rfl rfl rfl (by first | rfl | assumption | (simp; done))) rfl rfl rfl rfl rfl rfl rfl rfl rfl rfl rfl rfl) rfl ?_)
  (refine nx (aL (gd_on rfl rfl rfl rfl (by first | rfl | assumption | (simp; done))) rfl rfl rfl rfl rfl rfl rfl rfl rfl rfl rfl rfl) rfl ?_)
  (refine nx (a_call (gd_on rfl rfl rfl rfl (by first | rfl | assumption | (simp; done))) rfl rfl rfl rfl rfl (c1)) rfl ?_)
  (refine nx (a_not (gd_on rfl rfl rfl rfl (by first | rfl | assumption | (simp; done))) rfl rfl rfl rfl rfl) rfl ?_)
  (refine ⟨_, _, _, aPf (gN rfl) rfl rfl rfl rfl rfl ?hb rfl, rfl, ?_⟩; case hb => (first | rfl | assumption | (simp; done)))
  show AWp _ _ _ _ _ _ _
  refine aC rfl (fun hc => by cases hc) (fun hc => aK ?_)
  show AWp _ _ _ _ _ _ _
  refine aS (aD (by kernel_rfl) (by kernel_rfl) ?_)
  (refine nx (aL (gN rfl) rfl rfl rfl rfl rfl rfl rfl rfl rfl rfl rfl rfl) rfl ?_)
  (refine nx (a_call (gN rfl) rfl rfl rfl rfl rfl (refFlat_abs w a hao has)) rfl ?_)
  (refine nx (a_len (gN rfl) rfl rfl rfl rfl rfl rfl rfl) rfl ?_)
  (refine nx (aL (gN rfl) rfl rfl rfl rfl rfl rfl rfl rfl rfl rfl rfl rfl) rfl ?_)
  (refine nx (a_call (gN rfl) rfl rfl rfl rfl rfl (refFlat_abs w b hbo hbs)) rfl ?_)
  (refine nx (a_len (gN rfl) rfl rfl rfl rfl rfl rfl rfl) rfl ?_)
  (refine nx (aA (gN rfl) rfl rfl rfl rfl rfl) rfl ?_)
  (refine nx (aA (gN rfl) rfl rfl rfl rfl rfl) rfl ?_)
  refine ⟨by kernel_rfl, ?_⟩
  show AWp _ _ _ _ _ _ _
  have ea : (a.flat.map Tm.cv).length = a.size := List.length_map ..
  have eb : (b.flat.map Tm.cv).length = b.size := List.length_map ..
  have hKeq : K = true ↔ b.size < a.size ∨ (a.size = b.size ∧ wi a b = 1) := by
    rw [hK, decide_eq_true_iff, kb_one]
    exact ⟨fun h => h.2, fun h => ⟨hcov, h⟩⟩
  refine AWp.wk (wk_sub (s' := [(2, AV.bp 2 0 []), (100002, .bx a.cw), (3, .bp 3 0 []), (100003, .bx b.cw), (5, .val (.i (a.size : Int))), (6, .val (.i (b.size : Int)))]) ⟨rfl, rfl, rfl, rfl, ?_, ?_, trivial⟩) ?_
  · rw [← ea]; rfl
  · rw [← eb]; rfl
  by_cases hmn : a.size = b.size
  case neg =>
    have g : decide ((a.size : Int) ≠ (b.size : Int)) = true := by simp; omega
    have hr : decide ((a.size : Int) > (b.size : Int)) = K := by
      rw [Bool.eq_iff_iff, decide_eq_true_iff, hKeq]
      omega
    refine aS (aS (aR ?_))
    (refine nx (aM (gN rfl) rfl rfl rfl rfl rfl) rfl ?_)
    (refine nx (aM (gN rfl) rfl rfl rfl rfl rfl) rfl ?_)
    (refine nx (a_neq (gN rfl) rfl rfl rfl rfl rfl rfl) rfl ?_)
    (refine nx (aM (gN rfl) rfl rfl rfl rfl rfl) rfl ?_)
    (refine ⟨_, _, _, a_off (go_off rfl rfl rfl rfl (by first | rfl | assumption | (simp; done) | (simp [*]; done))) rfl rfl rfl, rfl, ?_⟩)
    (refine ⟨_, _, _, a_off (go_off rfl rfl rfl rfl (by first | rfl | assumption | (simp; done) | (simp [*]; done))) rfl rfl rfl, rfl, ?_⟩)
    (refine ⟨_, _, _, a_off (go_off rfl rfl rfl rfl (by first | rfl | assumption | (simp; done) | (simp [*]; done))) rfl rfl rfl, rfl, ?_⟩)
    (refine ⟨_, _, _, aPt (gN rfl) rfl rfl rfl rfl rfl ?hb rfl, rfl, ?_⟩; case hb => (first | rfl | assumption | (simp; done)))
    (refine nx (aM (gN rfl) rfl rfl rfl rfl rfl) rfl ?_)
    (refine ⟨_, _, _, a_off (go_off rfl rfl rfl rfl (by first | rfl | assumption | (simp; done) | (simp [*]; done))) rfl rfl rfl, rfl, ?_⟩)
    (refine ⟨_, _, _, a_off (go_off rfl rfl rfl rfl (by first | rfl | assumption | (simp; done) | (simp [*]; done))) rfl rfl rfl, rfl, ?_⟩)
    (refine ⟨_, _, _, a_off (go_off rfl rfl rfl rfl (by first | rfl | assumption | (simp; done) | (simp [*]; done))) rfl rfl rfl, rfl, ?_⟩)
    (refine ⟨_, _, _, aPt (gN rfl) rfl rfl rfl rfl rfl ?hb rfl, rfl, ?_⟩; case hb => (first | rfl | assumption | (simp; done)))
    show AWp _ _ _ _ _ _ _
    refine aC rfl (fun hc => ?_) (fun hc => by cases hc)
    refine aS (aR ?_)
    (refine nx (aM (gN rfl) rfl rfl rfl rfl rfl) rfl ?_)
    (refine nx (aM (gN rfl) rfl rfl rfl rfl rfl) rfl ?_)
    (refine nx (a_gtr (gN rfl) rfl rfl rfl rfl rfl rfl) rfl ?_)
    (refine nx (aA (gN rfl) rfl rfl rfl rfl rfl) rfl ?_)
    show AWp _ _ _ _ _ _ _
    refine aT ⟨.inr rfl, ?_⟩
    rw [← hr]; rfl
  have g : decide ((a.size : Int) ≠ (b.size : Int)) = false := by simp; omega
  have hr : decide ((a.size : Int) > (b.size : Int)) = false := by simp; omega
  by_cases haf : a.f < 0
  · have g2 : decide (a.f < 0) = true := by simpa using haf
    have hK0 : K = false := by
      rw [← Bool.not_eq_true, hKeq, wi_one]
      omega
    refine aS (aS (aR ?_))
    (refine nx (aM (gN rfl) rfl rfl rfl rfl rfl) rfl ?_)
    (refine nx (aM (gN rfl) rfl rfl rfl rfl rfl) rfl ?_)
    (refine nx (a_neq (gN rfl) rfl rfl rfl rfl rfl rfl) rfl ?_)
    (refine nx (aM (gN rfl) rfl rfl rfl rfl rfl) rfl ?_)
    (refine nx (aF (gd_on rfl rfl rfl rfl (by first | rfl | assumption | (simp; done))) rfl rfl rfl rfl rfl rfl rfl rfl rfl) rfl ?_)
    (refine nx (aLb (gd_on rfl rfl rfl rfl (by first | rfl | assumption | (simp; done))) rfl rfl rfl rfl rfl rfl rfl rfl rfl rfl rfl rfl) rfl ?_)
    (refine nx (a_lss (gd_on rfl rfl rfl rfl (by first | rfl | assumption | (simp; done))) rfl rfl rfl rfl rfl rfl) rfl ?_)
    (refine ⟨_, _, _, aPf (gN rfl) rfl rfl rfl rfl rfl ?hb rfl, rfl, ?_⟩; case hb => (first | rfl | assumption | (simp; done)))
    (refine nx (aM (gN rfl) rfl rfl rfl rfl rfl) rfl ?_)
    (refine ⟨_, _, _, a_off (go_off rfl rfl rfl rfl (by first | rfl | assumption | (simp; done) | (simp [*]; done))) rfl rfl rfl, rfl, ?_⟩)
    (refine ⟨_, _, _, a_off (go_off rfl rfl rfl rfl (by first | rfl | assumption | (simp; done) | (simp [*]; done))) rfl rfl rfl, rfl, ?_⟩)
    (refine ⟨_, _, _, a_off (go_off rfl rfl rfl rfl (by first | rfl | assumption | (simp; done) | (simp [*]; done))) rfl rfl rfl, rfl, ?_⟩)
    (refine ⟨_, _, _, aPt (gN rfl) rfl rfl rfl rfl rfl ?hb rfl, rfl, ?_⟩; case hb => (first | rfl | assumption | (simp; done)))
    show AWp _ _ _ _ _ _ _
    refine aC rfl (fun hc => ?_) (fun hc => by cases hc)
    refine aS (aR ?_)
    (refine nx (aM (gN rfl) rfl rfl rfl rfl rfl) rfl ?_)
    (refine nx (aM (gN rfl) rfl rfl rfl rfl rfl) rfl ?_)
    (refine nx (a_gtr (gN rfl) rfl rfl rfl rfl rfl rfl) rfl ?_)
    (refine nx (aA (gN rfl) rfl rfl rfl rfl rfl) rfl ?_)
    show AWp _ _ _ _ _ _ _
    refine aT ⟨.inr rfl, ?_⟩
    rw [hK0, ← hr]; rfl
  have g2 : decide (a.f < 0) = false := by simpa using haf
  refine aS (aS (aR ?_))
  (refine nx (aM (gN rfl) rfl rfl rfl rfl rfl) rfl ?_)
  (refine nx (aM (gN rfl) rfl rfl rfl rfl rfl) rfl ?_)
  (refine nx (a_neq (gN rfl) rfl rfl rfl rfl rfl rfl) rfl ?_)
  (refine nx (aM (gN rfl) rfl rfl rfl rfl rfl) rfl ?_)
  (refine nx (aF (gd_on rfl rfl rfl rfl (by first | rfl | assumption | (simp; done))) rfl rfl rfl rfl rfl rfl rfl rfl rfl) rfl ?_)
  (refine nx (aLb (gd_on rfl rfl rfl rfl (by first | rfl | assumption | (simp; done))) rfl rfl rfl rfl rfl rfl rfl rfl rfl rfl rfl rfl) rfl ?_)
  (refine nx (a_lss (gd_on rfl rfl rfl rfl (by first | rfl | assumption | (simp; done))) rfl rfl rfl rfl rfl rfl) rfl ?_)
  (refine ⟨_, _, _, aPf (gN rfl) rfl rfl rfl rfl rfl ?hb rfl, rfl, ?_⟩; case hb => (first | rfl | assumption | (simp; done)))
  (refine nx (aM (gN rfl) rfl rfl rfl rfl rfl) rfl ?_)
  (refine nx (aF (gd_on rfl rfl rfl rfl (by first | rfl | assumption | (simp; done))) rfl rfl rfl rfl rfl rfl rfl rfl rfl) rfl ?_)
  (refine nx (aLb (gd_on rfl rfl rfl rfl (by first | rfl | assumption | (simp; done))) rfl rfl rfl rfl rfl rfl rfl rfl rfl rfl rfl rfl) rfl ?_)
  (refine nx (a_lss (gd_on rfl rfl rfl rfl (by first | rfl | assumption | (simp; done))) rfl rfl rfl rfl rfl rfl) rfl ?_)
  (refine ⟨_, _, _, aPf (gN rfl) rfl rfl rfl rfl rfl ?hb rfl, rfl, ?_⟩; case hb => (first | rfl | assumption | (simp; done)))
  show AWp _ _ _ _ _ _ _
  refine aC rfl (fun hc => ?_) (fun hc => aK ?_)
  · have hbf : b.f < 0 := by simpa using hc
    have hK0 : K = false := by
      rw [← Bool.not_eq_true, hKeq, wi_one]
      omega
    refine aS (aR ?_)
    (refine nx (aM (gN rfl) rfl rfl rfl rfl rfl) rfl ?_)
    (refine nx (aM (gN rfl) rfl rfl rfl rfl rfl) rfl ?_)
    (refine nx (a_gtr (gN rfl) rfl rfl rfl rfl rfl rfl) rfl ?_)
    (refine nx (aA (gN rfl) rfl rfl rfl rfl rfl) rfl ?_)
    show AWp _ _ _ _ _ _ _
    refine aT ⟨.inr rfl, ?_⟩
    rw [hK0, ← hr]; rfl
  have hbf : ¬ b.f < 0 := by simpa using hc
  clear hc
  have hKw : K = true ↔ b.f < a.f ∨ (a.f = b.f ∧ (b.l.length < a.l.length ∨ (a.l.length = b.l.length ∧ kbs a.l b.l = 1))) := by
    rw [hKeq, wi_one]
    constructor
    · rintro (h | ⟨_, _, _, h⟩)
      · omega
      · exact h
    · intro h; exact .inr ⟨hmn, haf, hbf, h⟩
  show AWp _ _ _ _ _ _ _
  refine aS (aS (aR ?_))
  (refine nx (aF (gN rfl) rfl rfl rfl rfl rfl rfl rfl rfl rfl) rfl ?_)
  (refine nx (aLb (gN rfl) rfl rfl rfl rfl rfl rfl rfl rfl rfl rfl rfl rfl) rfl ?_)
  (refine nx (aF (gN rfl) rfl rfl rfl rfl rfl rfl rfl rfl rfl) rfl ?_)
  (refine nx (aLb (gN rfl) rfl rfl rfl rfl rfl rfl rfl rfl rfl rfl rfl rfl) rfl ?_)
  (refine nx (a_neq (gN rfl) rfl rfl rfl rfl rfl rfl) rfl ?_)
  show AWp _ _ _ _ _ _ _
  refine aC rfl (fun hc => ?_) (fun hc => aK ?_)
  · have hne : a.f ≠ b.f := by simpa using hc
    have hr : decide (a.f > b.f) = K := by
      rw [Bool.eq_iff_iff, decide_eq_true_iff, hKw]
      omega
    refine aS (aR ?_)
    (refine nx (aF (gN rfl) rfl rfl rfl rfl rfl rfl rfl rfl rfl) rfl ?_)
    (refine nx (aLb (gN rfl) rfl rfl rfl rfl rfl rfl rfl rfl rfl rfl rfl rfl) rfl ?_)
    (refine nx (aF (gN rfl) rfl rfl rfl rfl rfl rfl rfl rfl rfl) rfl ?_)
    (refine nx (aLb (gN rfl) rfl rfl rfl rfl rfl rfl rfl rfl rfl rfl rfl rfl) rfl ?_)
    (refine nx (a_gtr (gN rfl) rfl rfl rfl rfl rfl rfl) rfl ?_)
    (refine nx (aA (gN rfl) rfl rfl rfl rfl rfl) rfl ?_)
    show AWp _ _ _ _ _ _ _
    refine aT ⟨.inr rfl, ?_⟩
    rw [← hr]; rfl
  have hff : a.f = b.f := by simpa using hc
  clear hc
  show AWp _ _ _ _ _ _ _
  refine aS (aS (aR ?_))
  (refine nx (aF (gN rfl) rfl rfl rfl rfl rfl rfl rfl rfl rfl) rfl ?_)
  (refine nx (aLb (gN rfl) rfl rfl rfl rfl rfl rfl rfl rfl rfl rfl rfl rfl) rfl ?_)
  (refine nx (a_len (gN rfl) rfl rfl rfl rfl rfl rfl rfl) rfl ?_)
  (refine nx (aF (gN rfl) rfl rfl rfl rfl rfl rfl rfl rfl rfl) rfl ?_)
  (refine nx (aLb (gN rfl) rfl rfl rfl rfl rfl rfl rfl rfl rfl rfl rfl rfl) rfl ?_)
  (refine nx (a_len (gN rfl) rfl rfl rfl rfl rfl rfl rfl) rfl ?_)
  (refine nx (a_neq (gN rfl) rfl rfl rfl rfl rfl rfl) rfl ?_)
  show AWp _ _ _ _ _ _ _
  refine aC rfl (fun hc => ?_) (fun hc => aK ?_)
  · have hne : a.l.length ≠ b.l.length := by
      have := of_decide_eq_true hc
      simp only [List.length_map] at this
      omega
    have hr : decide (((a.l.map Tm.cv).length : Int) > ((b.l.map Tm.cv).length : Int)) = K := by
      rw [Bool.eq_iff_iff, decide_eq_true_iff, hKw, List.length_map, List.length_map]
      omega
    refine aS (aR ?_)
    (refine nx (aF (gN rfl) rfl rfl rfl rfl rfl rfl rfl rfl rfl) rfl ?_)
    (refine nx (aLb (gN rfl) rfl rfl rfl rfl rfl rfl rfl rfl rfl rfl rfl rfl) rfl ?_)
    (refine nx (a_len (gN rfl) rfl rfl rfl rfl rfl rfl rfl) rfl ?_)
    (refine nx (aF (gN rfl) rfl rfl rfl rfl rfl rfl rfl rfl rfl) rfl ?_)
    (refine nx (aLb (gN rfl) rfl rfl rfl rfl rfl rfl rfl rfl rfl rfl rfl rfl) rfl ?_)
    (refine nx (a_len (gN rfl) rfl rfl rfl rfl rfl rfl rfl) rfl ?_)
    (refine nx (a_gtr (gN rfl) rfl rfl rfl rfl rfl rfl) rfl ?_)
    (refine nx (aA (gN rfl) rfl rfl rfl rfl rfl) rfl ?_)
    show AWp _ _ _ _ _ _ _
    refine aT ⟨.inr rfl, ?_⟩
    rw [← hr]; rfl
  have hll : a.l.length = b.l.length := by
    have := of_decide_eq_false hc
    simp only [List.length_map] at this
    omega
  clear hc
  show AWp _ _ _ _ _ _ _
  refine aS (aR ?_)
  (refine nx (aA (gN rfl) rfl rfl rfl rfl rfl) rfl ?_)
  show AWp _ _ _ _ _ _ _
  refine aS ?_
  refine aB (awp_countI a.l.length (fun k => ∀ (j : Nat) u v, j < k → a.l[j]? = some u → b.l[j]? = some v → kb u v = 0) (fun k => [(2, .bp 2 0 []), (100002, .bx a.cw), (3, .bp 3 0 []), (100003, .bx b.cw), (7, .val (.i k))]) (wk_sub ⟨rfl, rfl, rfl, rfl, rfl, trivial⟩) (fun j u v hj => by omega) ?_)
  intro k hk hI
  have hkl : k < a.l.length := by
    rcases Nat.lt_or_ge k a.l.length with h | h
    · exact h
    · exfalso
      obtain ⟨e1, e2⟩ := scs_none (l := a.l) (m := b.l) fun j u v hu hv => hI j u v (by
        rcases Nat.lt_or_ge j a.l.length with h | h
        · omega
        · rw [List.getElem?_eq_none h] at hu; cases hu) hu hv
      apply hk0
      rw [kb_eq, verd_zero]
      unfold wi
      rw [Tm.ps_of_sym (t := a) (by omega), Tm.ps_of_sym (t := b) (by omega), if_neg (by omega)]
      exact e2
  obtain ⟨x, hx⟩ : ∃ x, a.l[k]? = some x := ⟨a.l[k], List.getElem?_eq_getElem hkl⟩
  obtain ⟨y, hy⟩ : ∃ y, b.l[k]? = some y := ⟨b.l[k]'(by omega), List.getElem?_eq_getElem (by omega)⟩
  have hx' := Tm.map_at hx
  have hy' := Tm.map_at hy
  have hxm := List.mem_of_getElem? hx
  have hym := List.mem_of_getElem? hy
  have hxs := Tm.size_part (t := a) (s := x) (by rw [Tm.ps_of_sym (by omega)]; exact hxm)
  have hys := Tm.size_part (t := b) (s := y) (by rw [Tm.ps_of_sym (by omega)]; exact hym)
  have s2 := refSame_abs w x y (hok'.2 x hxm) (hbok'.2 y hym)
  have hrec := ih x hxm w (hr'.2 x hxm) (hok'.2 x hxm) (by omega) y (hbr'.2 y hym) (hbok'.2 y hym) (by omega)
  refine aS (aS (aD (by kernel_rfl) (by kernel_rfl) ?_))
  (refine nx (aF (gN rfl) rfl rfl rfl rfl rfl rfl rfl rfl rfl) rfl ?_)
  (refine nx (aLb (gN rfl) rfl rfl rfl rfl rfl rfl rfl rfl rfl rfl rfl rfl) rfl ?_)
  (refine nx (aM (gN rfl) rfl rfl rfl rfl rfl) rfl ?_)
  (refine nx (a_index (j := k) (gN rfl) rfl rfl rfl rfl rfl rfl rfl rfl rfl (hx') rfl (hsz)) rfl ?_)
  (refine nx (a_load_ad (gN rfl) rfl rfl rfl rfl rfl rfl rfl rfl rfl) rfl ?_)
  (refine nx (aF (gN rfl) rfl rfl rfl rfl rfl rfl rfl rfl rfl) rfl ?_)
  (refine nx (aLb (gN rfl) rfl rfl rfl rfl rfl rfl rfl rfl rfl rfl rfl rfl) rfl ?_)
  (refine nx (aM (gN rfl) rfl rfl rfl rfl rfl) rfl ?_)
  (refine nx (a_index (j := k) (gN rfl) rfl rfl rfl rfl rfl rfl rfl rfl rfl (hy') rfl (hsz2)) rfl ?_)
  (refine nx (a_load_ad (gN rfl) rfl rfl rfl rfl rfl rfl rfl rfl rfl) rfl ?_)
  (refine nx (a_call (gN rfl) rfl rfl rfl rfl rfl (s2)) rfl ?_)
  refine ⟨by kernel_rfl, ?_⟩
  show AWp _ _ _ _ _ _ _
  refine aC rfl (fun hc => aK ?_) (fun hc => aE ?_)
  · have h0 : kb x y = 0 := by rw [same_kb] at hc; exact of_decide_eq_true hc
    show AWp _ _ _ _ _ _ _
    refine aB (aR ?_)
    (refine nx (aM (gN rfl) rfl rfl rfl rfl rfl) rfl ?_)
    (refine nx (a_add (gN rfl) rfl rfl rfl rfl rfl rfl (by first | omega | (simp only [List.length_map, List.length_append, List.length_cons, List.length_nil] <;> omega) | (simp <;> omega))) rfl ?_)
    (refine nx (aA (gN rfl) rfl rfl rfl rfl rfl) rfl ?_)
    refine ⟨hkl, fun j u v hj hu hv => ?_, wk_sub ⟨rfl, rfl, rfl, rfl, rfl, trivial⟩⟩
    rcases Nat.lt_or_ge j k with h | h
    · exact hI j u v h hu hv
    · have : j = k := by omega
      subst this
      rw [hx] at hu
      rw [hy] at hv
      cases hu; cases hv
      exact h0
  · have hne : kb x y ≠ 0 := by rw [same_kb] at hc; exact of_decide_eq_false hc
    obtain ⟨e1, e2⟩ := scs_at hx hy hne hI
    have hr : decide (kb x y = 1) = K := by
      rw [Bool.eq_iff_iff, decide_eq_true_iff, hKw, e2]
      omega
    rw [hr] at hrec
    show AWp _ _ _ _ _ _ _
    refine aS (aD (by kernel_rfl) (by kernel_rfl) ?_)
    (refine nx (aF (gN rfl) rfl rfl rfl rfl rfl rfl rfl rfl rfl) rfl ?_)
    (refine nx (aLb (gN rfl) rfl rfl rfl rfl rfl rfl rfl rfl rfl rfl rfl rfl) rfl ?_)
    (refine nx (aM (gN rfl) rfl rfl rfl rfl rfl) rfl ?_)
    (refine nx (a_index (j := k) (gN rfl) rfl rfl rfl rfl rfl rfl rfl rfl rfl (hx') rfl (hsz)) rfl ?_)
    (refine nx (a_load_ad (gN rfl) rfl rfl rfl rfl rfl rfl rfl rfl rfl) rfl ?_)
    (refine nx (aF (gN rfl) rfl rfl rfl rfl rfl rfl rfl rfl rfl) rfl ?_)
    (refine nx (aLb (gN rfl) rfl rfl rfl rfl rfl rfl rfl rfl rfl rfl rfl rfl) rfl ?_)
    (refine nx (aM (gN rfl) rfl rfl rfl rfl rfl) rfl ?_)
    (refine nx (a_index (j := k) (gN rfl) rfl rfl rfl rfl rfl rfl rfl rfl rfl (hy') rfl (hsz2)) rfl ?_)
    (refine nx (a_load_ad (gN rfl) rfl rfl rfl rfl rfl rfl rfl rfl rfl) rfl ?_)
    (refine nx (a_call (gN rfl) rfl rfl rfl rfl rfl (hrec)) rfl ?_)
    (refine nx (aA (gN rfl) rfl rfl rfl rfl rfl) rfl ?_)
    refine ⟨by kernel_rfl, ?_⟩
    show AWp _ _ _ _ _ _ _
    exact aT ⟨.inr rfl, rfl⟩
-- 
theorem rCompare_abs (W : World) (a b : Tm) (ha : a.rng) (hao : a.ok) (has : a.size ≤ 90000000000) (hb : b.rng) (hbo : b.ok) (hbs : b.size ≤ 90000000000) : AFun Tryz.prog W 58 [a.cw, b.cw] (.val (.i (kb a b))) := by
  refine afun_of (rs := [.i (kb a b)]) Tryz.func58 Tryz.ntmps58 rfl rfl rfl rfl ?_
  intro w U hW
  have s1 := refSame_abs w a b hao hbo
  have g1 := rGreater_abs w a ha hao has b hb hbo hbs
  have g2 := rGreater_abs w b hb hbo hbs a ha hao has
  rw [same_kb] at s1
  rw [kb_turn a b] at g2
  have h4 := kb_four a b
  have ht := trn_four h4
  obtain ⟨k, hk⟩ : ∃ k, k = kb a b := ⟨_, rfl⟩
  rw [← hk] at s1 g1 g2 h4 ht ⊢
  refine aS (aR ?_)
  (refine nx (a_box (gN rfl) rfl rfl rfl rfl rfl) rfl ?_)
  (refine nx (a_box (gN rfl) rfl rfl rfl rfl rfl) rfl ?_)
  (refine nx (aA (gN rfl) rfl rfl rfl rfl rfl) rfl ?_)
  show AWp _ _ _ _ _ _ _
  refine aS (aS (aR ?_))
  (refine nx (aL (gN rfl) rfl rfl rfl rfl rfl rfl rfl rfl rfl rfl rfl rfl) rfl ?_)
  (refine nx (aL (gN rfl) rfl rfl rfl rfl rfl rfl rfl rfl rfl rfl rfl rfl) rfl ?_)
  (refine nx (a_call (gN rfl) rfl rfl rfl rfl rfl (s1)) rfl ?_)
  show AWp _ _ _ _ _ _ _
  refine aC rfl (fun hc => ?_) (fun hc => aK ?_)
  · have hc := of_decide_eq_true hc
    rw [hc]
    refine aS (aR ?_)
    (refine nx (aA (gN rfl) rfl rfl rfl rfl rfl) rfl ?_)
    show AWp _ _ _ _ _ _ _
    exact aT ⟨.inr rfl, rfl⟩
  have h0 : ¬ k = 0 := of_decide_eq_false hc
  show AWp _ _ _ _ _ _ _
  refine aS (aS (aR ?_))
  (refine nx (aL (gN rfl) rfl rfl rfl rfl rfl rfl rfl rfl rfl rfl rfl rfl) rfl ?_)
  (refine nx (aL (gN rfl) rfl rfl rfl rfl rfl rfl rfl rfl rfl rfl rfl rfl) rfl ?_)
  (refine nx (a_call (gN rfl) rfl rfl rfl rfl rfl (g1)) rfl ?_)
  show AWp _ _ _ _ _ _ _
  refine aC rfl (fun hc => ?_) (fun hc => aK ?_)
  · have hc := of_decide_eq_true hc
    rw [hc]
    refine aS (aR ?_)
    (refine nx (aA (gN rfl) rfl rfl rfl rfl rfl) rfl ?_)
    show AWp _ _ _ _ _ _ _
    exact aT ⟨.inr rfl, rfl⟩
  have h1 : ¬ k = 1 := of_decide_eq_false hc
  show AWp _ _ _ _ _ _ _
  refine aS (aS (aR ?_))
  (refine nx (aL (gN rfl) rfl rfl rfl rfl rfl rfl rfl rfl rfl rfl rfl rfl) rfl ?_)
  (refine nx (aL (gN rfl) rfl rfl rfl rfl rfl rfl rfl rfl rfl rfl rfl rfl) rfl ?_)
  (refine nx (a_call (gN rfl) rfl rfl rfl rfl rfl (g2)) rfl ?_)
  show AWp _ _ _ _ _ _ _
  refine aC rfl (fun hc => ?_) (fun hc => aK ?_)
  · have hc := of_decide_eq_true hc
    rw [ht.2.1.1 hc]
    refine aS (aR ?_)
    (refine nx (aA (gN rfl) rfl rfl rfl rfl rfl) rfl ?_)
    show AWp _ _ _ _ _ _ _
    exact aT ⟨.inr rfl, rfl⟩
  have h2 : ¬ k = -1 := fun e => of_decide_eq_false hc (ht.2.1.2 e)
  have hk2 : k = 2 := by unfold K4 at h4; omega
  rw [hk2]
  show AWp _ _ _ _ _ _ _
  refine aS (aR ?_)
  (refine nx (aA (gN rfl) rfl rfl rfl rfl rfl) rfl ?_)
  show AWp _ _ _ _ _ _ _
  exact aT ⟨.inr rfl, rfl⟩
end Go.Proofs.YteegmcfobgpemaaGreat
