/-
  RfFlat RfVars AbOf SbVnt SbRen ClMath CodeMath CodeLen CodePut CodePutMore RefSame CodeRef CodeAlive CodeReadMath CodeRead CodeUint CodeText CodeBackMath ClBy ClCode AbFld AbMap AbFull AbArr AbRoom ClPut
-/
import Derived.Test.YtiammidklcjelaaMg2
import Derived.WalkKit
import Derived.Test.YtiammidklcjelaaChecked
import Derived.WalkLawsBesides
import Derived.WalkSpells
import Derived.Test.YtiammidklcjelaaMg1
import Derived.Laws.BitsAllLaws
import Derived.Deep.QuietTactic
import Derived.BigQuiet
import Derived.Laws.BytesArg
import Derived.MapKept
import Derived.Laws.NewFold
namespace Go.Proofs.Ytiammidklcjelaa
open Go.RowKit
set_option linter.unusedVariables false
set_option linter.unusedSimpArgs false
set_option maxRecDepth 100000
-- 
set_option maxHeartbeats 1000000 in
theorem to_abs (W : World) : ∀ (t : Tm), t.ok → AFun Try.prog W 37 [t.cw] (.val t.strip.cw) := by
  intro t
  induction t using Tm.ind with
  | h f l ih =>
  intro hok
  obtain ⟨hl, hok⟩ := (Tm.ok_iff _).1 hok
  simp only at hl hok
  have hsz := Tm.size_all l
  refine afun_of (rs := [(Tm.strip ⟨f, l⟩).cw]) Try.func37 Try.ntmps37 rfl rfl rfl rfl ?_
  intro w U hW
  refine aS (aR ?_)
  (refine nx (a_box (gN rfl) rfl rfl rfl rfl rfl) rfl ?_)
  (refine nx (a_alloc (gN rfl) rfl rfl rfl rfl rfl rfl rfl rfl rfl rfl) rfl ?_)
  show AWp _ _ _ _ _ _ _
  refine aS (aR ?_)
  (refine nx (aF (gN rfl) rfl rfl rfl rfl rfl rfl rfl rfl rfl) rfl ?_)
  (refine nx (aLb (gN rfl) rfl rfl rfl rfl rfl rfl rfl rfl rfl rfl rfl rfl) rfl ?_)
  (refine nx (a_build (gN rfl) rfl rfl rfl rfl rfl rfl rfl rfl rfl rfl rfl) rfl ?_)
  (refine nx (a_alloc (gN rfl) rfl rfl rfl rfl rfl rfl rfl rfl rfl rfl) rfl ?_)
  (refine nx (aSt (gN rfl) rfl rfl rfl rfl rfl rfl rfl rfl rfl rfl) rfl ?_)
  show AWp _ _ _ _ _ _ _
  refine aS (aS (aR ?_))
  (refine nx (aA (gN rfl) rfl rfl rfl rfl rfl) rfl ?_)
  show AWp _ _ _ _ _ _ _
  by_cases hf : f < 0
  · have hg : decide (f ≥ 0) = false := by simpa using hf
    rw [show (Tm.strip ⟨f, l⟩) = ⟨f, []⟩ by rw [Tm.strip_eq, Tm.ps_of_var (t := ⟨f, l⟩) hf]; rfl]
    refine aB (awp_count 0 (fun k => [(1, .bp 1 0 []), (100001, .bx (Tm.cw ⟨f, l⟩)), (2, .bp 2 0 []), (100002, ⟨5, .row [.i 0, .lst []], 1, 0, [1]⟩), (3, .bp 3 0 []), (100003, ⟨5, .row [.i f, .lst []], 1, 0, [1]⟩), (4, .val (.i k))]) (wk_sub ⟨rfl, rfl, rfl, rfl, rfl, rfl, rfl, trivial⟩) ?_)
    intro k hk
    refine aS (aS (aR ?_))
    (refine nx (aF (gN rfl) rfl rfl rfl rfl rfl rfl rfl rfl rfl) rfl ?_)
    (refine nx (aLb (gN rfl) rfl rfl rfl rfl rfl rfl rfl rfl rfl rfl rfl rfl) rfl ?_)
    (refine nx (a_geq (gN rfl) rfl rfl rfl rfl rfl rfl) rfl ?_)
    (refine nx (aM (gN rfl) rfl rfl rfl rfl rfl) rfl ?_)
    (refine ⟨_, _, _, a_off (go_off rfl rfl rfl rfl (by first | rfl | assumption | (simp; done) | (simp [*]; done))) rfl rfl rfl, rfl, ?_⟩)
    (refine ⟨_, _, _, a_off (go_off rfl rfl rfl rfl (by first | rfl | assumption | (simp; done) | (simp [*]; done))) rfl rfl rfl, rfl, ?_⟩)
    (refine ⟨_, _, _, a_off (go_off rfl rfl rfl rfl (by first | rfl | assumption | (simp; done) | (simp [*]; done))) rfl rfl rfl, rfl, ?_⟩)
    (refine ⟨_, _, _, a_off (go_off rfl rfl rfl rfl (by first | rfl | assumption | (simp; done) | (simp [*]; done))) rfl rfl rfl, rfl, ?_⟩)
    (refine ⟨_, _, _, a_off (go_off rfl rfl rfl rfl (by first | rfl | assumption | (simp; done) | (simp [*]; done))) rfl rfl rfl, rfl, ?_⟩)
    (refine ⟨_, _, _, aPf (gN rfl) rfl rfl rfl rfl rfl ?hb rfl, rfl, ?_⟩; case hb => (first | rfl | assumption | (simp; done)))
    show AWp _ _ _ _ _ _ _
    refine aC rfl (fun hc => by cases hc) (fun hc => aE ?_)
    show AWp _ _ _ _ _ _ _
    refine aS (aR ?_)
    (refine nx (aL (gN rfl) rfl rfl rfl rfl rfl rfl rfl rfl rfl rfl rfl rfl) rfl ?_)
    (refine nx (aSt (gN rfl) rfl rfl rfl rfl rfl rfl rfl rfl rfl rfl) rfl ?_)
    show AWp _ _ _ _ _ _ _
    exact aT (And.intro (.inr rfl) rfl)
  have hg : decide (f ≥ 0) = true := by simp only [decide_eq_true_eq]; omega
  rw [show (Tm.strip ⟨f, l⟩) = ⟨f, l.map Tm.strip⟩ by rw [Tm.strip_eq, Tm.ps_of_sym (t := ⟨f, l⟩) (by show 0 ≤ f; omega)]]
  refine aB (awp_count l.length (fun k => [(1, .bp 1 0 []), (100001, .bx (Tm.cw ⟨f, l⟩)), (2, .bp 2 0 []), (100002, ⟨5, .row [.i 0, .lst []], 1, 0, [1]⟩), (3, .bp 3 0 []), (100003, ⟨5, .row [.i f, .lst (((l.take k).map Tm.strip).map Tm.cv)], 200029, 0, [1]⟩), (200029, .tok 42 2), (4, .val (.i k))])
    ((wk_nil 100003 200029 42 2 rfl rfl rfl rfl rfl rfl rfl).trans (wk_sub ⟨rfl, rfl, rfl, rfl, rfl, rfl, rfl, rfl, trivial⟩)) ?_)
  intro k hk
  refine aS (aS (aR ?_))
  (refine nx (aF (gN rfl) rfl rfl rfl rfl rfl rfl rfl rfl rfl) rfl ?_)
  (refine nx (aLb (gN rfl) rfl rfl rfl rfl rfl rfl rfl rfl rfl rfl rfl rfl) rfl ?_)
  (refine nx (a_geq (gN rfl) rfl rfl rfl rfl rfl rfl) rfl ?_)
  (refine nx (aM (gN rfl) rfl rfl rfl rfl rfl) rfl ?_)
  (refine nx (aM (gd_on rfl rfl rfl rfl (by first | rfl | assumption | (simp; done))) rfl rfl rfl rfl rfl) rfl ?_)
  (refine nx (aF (gd_on rfl rfl rfl rfl (by first | rfl | assumption | (simp; done))) rfl rfl rfl rfl rfl rfl rfl rfl rfl) rfl ?_)
  (refine nx (aLb (gd_on rfl rfl rfl rfl (by first | rfl | assumption | (simp; done))) rfl rfl rfl rfl rfl rfl rfl rfl rfl rfl rfl rfl) rfl ?_)
  (refine nx (a_len (gd_on rfl rfl rfl rfl (by first | rfl | assumption | (simp; done))) rfl rfl rfl rfl rfl rfl rfl) rfl ?_)
  (refine nx (a_lss (gd_on rfl rfl rfl rfl (by first | rfl | assumption | (simp; done))) rfl rfl rfl rfl rfl rfl) rfl ?_)
  (refine ⟨_, _, _, aPt (gN rfl) rfl rfl rfl rfl rfl ?hb rfl, rfl, ?_⟩; case hb => (first | rfl | assumption | (simp; done)))
  show AWp _ _ _ _ _ _ _
  refine aC rfl (fun hc => aK ?_) (fun hc => aE ?_)
  · have hkl : k < l.length := by
      simp only [List.length_map, decide_eq_true_eq] at hc
      omega
    clear hc
    obtain ⟨t, ht⟩ : ∃ t, l[k]? = some t := ⟨l[k], List.getElem?_eq_getElem hkl⟩
    have ht' := Tm.map_at ht
    have htm := List.mem_of_getElem? ht
    show AWp _ _ _ _ _ _ _
    refine aS (aB (aD (by kernel_rfl) (by kernel_rfl) ?_))
    (refine nx (aF (gN rfl) rfl rfl rfl rfl rfl rfl rfl rfl rfl) rfl ?_)
    (refine nx (a_load_tok (gN rfl) rfl rfl rfl rfl rfl rfl rfl rfl rfl rfl rfl rfl rfl) rfl ?_)
    (refine nx (aF (gN rfl) rfl rfl rfl rfl rfl rfl rfl rfl rfl) rfl ?_)
    (refine nx (aLb (gN rfl) rfl rfl rfl rfl rfl rfl rfl rfl rfl rfl rfl rfl) rfl ?_)
    (refine nx (aM (gN rfl) rfl rfl rfl rfl rfl) rfl ?_)
    (refine nx (a_index (gN rfl) rfl rfl rfl rfl rfl rfl rfl rfl rfl (by assumption) rfl (by first | assumption | exact sZ rfl | exact Tm.size_all _ | exact Bd.size_all _ | exact ints_size _ | exact bys_size _ | exact Lt.size_all _)) rfl ?_)
    (refine nx (a_load_ad (gN rfl) rfl rfl rfl rfl rfl rfl rfl rfl rfl) rfl ?_)
    (refine nx (a_call (gN rfl) rfl rfl rfl rfl rfl ((ih t htm (hok t htm)).up hW)) rfl ?_)
    (refine nx (a_bslice (gN rfl) rfl rfl rfl rfl rfl rfl rfl rfl rfl rfl rfl rfl rfl) rfl ?_)
    (refine nx (a_app (gN rfl) rfl rfl rfl rfl rfl rfl rfl rfl rfl rfl rfl rfl rfl rfl rfl (by first | assumption | exact sZ rfl | exact Tm.size_all _ | exact Bd.size_all _ | exact ints_size _ | exact bys_size _ | exact Lt.size_all _) (by first | assumption | exact sZ rfl | exact Tm.size_all _ | exact Bd.size_all _ | exact ints_size _ | exact bys_size _ | exact Lt.size_all _) (by first | omega | (simp only [List.length_map, List.length_append, List.length_cons, List.length_nil] <;> omega) | (simp <;> omega))) rfl ?_)
    (refine nx (aF (gN rfl) rfl rfl rfl rfl rfl rfl rfl rfl rfl) rfl ?_)
    (refine nx (a_store (gN rfl) rfl rfl rfl rfl rfl rfl rfl rfl rfl rfl) rfl ?_)
    refine ⟨by kernel_rfl, ?_⟩
    show AWp _ _ _ _ _ _ _
    refine aR ?_
    (refine nx (aM (gN rfl) rfl rfl rfl rfl rfl) rfl ?_)
    (refine nx (a_add (gN rfl) rfl rfl rfl rfl rfl rfl (by first | omega | (simp only [List.length_map, List.length_append, List.length_cons, List.length_nil] <;> omega) | (simp <;> omega))) rfl ?_)
    (refine nx (aA (gN rfl) rfl rfl rfl rfl rfl) rfl ?_)
    refine ⟨hkl, Wk.trans (wk_sub (s' := [(1, .bp 1 0 []), (100001, .bx (Tm.cw ⟨f, l⟩)), (2, .bp 2 0 []), (100002, ⟨5, .row [.i 0, .lst []], 1, 0, [1]⟩), (3, .bp 3 0 []), (100003, ⟨5, .row [.i f, .lst (((l.take (k + 1)).map Tm.strip).map Tm.cv)], 300029, 0, [1]⟩), (300029, .tok 42 2), (4, .val (.i ((k + 1 : Nat) : Int)))]) ⟨rfl, rfl, rfl, rfl, rfl, ?_, rfl, rfl, trivial⟩) (wk_ren 300029 200029 rfl rfl rfl rfl)⟩
    rw [List.take_add_one, ht, List.map_append, List.map_append]
    simp only [Option.toList_some, List.map_cons, List.map_nil, Tm.cv_eq]
    rfl
  · have hkl : k = l.length := by
      simp only [List.length_map, decide_eq_false_iff_not] at hc
      omega
    subst hkl
    rw [List.take_length]
    show AWp _ _ _ _ _ _ _
    refine aS (aR ?_)
    (refine nx (aL (gN rfl) rfl rfl rfl rfl rfl rfl rfl rfl rfl rfl rfl rfl) rfl ?_)
    (refine nx (aSt (gN rfl) rfl rfl rfl rfl rfl rfl rfl rfl rfl rfl) rfl ?_)
    show AWp _ _ _ _ _ _ _
    exact aT (And.intro (.inr rfl) rfl)

set_option maxHeartbeats 1000000 in
-- 
theorem of_abs (W : World) : ∀ (t : Tm), t.ok → AFun Try.prog W 18 [t.cw] (.val t.cw) := by
  intro t
  induction t using Tm.ind with
  | h f l ih =>
  intro hok
  obtain ⟨hl, hok⟩ := (Tm.ok_iff _).1 hok
  simp only at hl hok
  refine afun_of (rs := [Tm.cw ⟨f, l⟩]) Try.func18 Try.ntmps18 rfl rfl rfl rfl ?_
  intro w U hW
  refine aS (aR ?_)
  (refine nx (a_box (gN rfl) rfl rfl rfl rfl rfl) rfl ?_)
  (refine nx (a_alloc (gN rfl) rfl rfl rfl rfl rfl rfl rfl rfl rfl rfl) rfl ?_)
  show AWp _ _ _ _ _ _ _
  refine aS (aR ?_)
  (refine nx (aF (gN rfl) rfl rfl rfl rfl rfl rfl rfl rfl rfl) rfl ?_)
  (refine nx (aLb (gN rfl) rfl rfl rfl rfl rfl rfl rfl rfl rfl rfl rfl rfl) rfl ?_)
  (refine nx (a_build (gN rfl) rfl rfl rfl rfl rfl rfl rfl rfl rfl rfl rfl) rfl ?_)
  (refine nx (a_alloc (gN rfl) rfl rfl rfl rfl rfl rfl rfl rfl rfl rfl) rfl ?_)
  (refine nx (aSt (gN rfl) rfl rfl rfl rfl rfl rfl rfl rfl rfl rfl) rfl ?_)
  show AWp _ _ _ _ _ _ _
  refine aS (aS (aR ?_))
  (refine nx (aA (gN rfl) rfl rfl rfl rfl rfl) rfl ?_)
  show AWp _ _ _ _ _ _ _
  refine aB (awp_count l.length (fun k => [(1, .bp 1 0 []), (100001, .bx (Tm.cw ⟨f, l⟩)), (2, .bp 2 0 []), (100002, ⟨5, .row [.i 0, .lst []], 1, 0, [1]⟩), (3, .bp 3 0 []), (100003, ⟨5, .row [.i f, .lst ((l.take k).map Tm.cv)], 200024, 0, [1]⟩), (200024, .tok 50 2), (4, .val (.i k))])
    ((wk_nil 100003 200024 50 2 rfl rfl rfl rfl rfl rfl rfl).trans (wk_sub ⟨rfl, rfl, rfl, rfl, rfl, rfl, rfl, rfl, trivial⟩)) ?_)
  intro k hk
  refine aS (aS (aR ?_))
  (refine nx (aM (gN rfl) rfl rfl rfl rfl rfl) rfl ?_)
  (refine nx (aF (gN rfl) rfl rfl rfl rfl rfl rfl rfl rfl rfl) rfl ?_)
  (refine nx (aLb (gN rfl) rfl rfl rfl rfl rfl rfl rfl rfl rfl rfl rfl rfl) rfl ?_)
  (refine nx (a_len (gN rfl) rfl rfl rfl rfl rfl rfl rfl) rfl ?_)
  (refine nx (a_lss (gN rfl) rfl rfl rfl rfl rfl rfl) rfl ?_)
  show AWp _ _ _ _ _ _ _
  refine aC rfl (fun hc => ?_) (fun hc => ?_)
  · simp only [List.length_map, decide_eq_true_eq] at hc
    have hkl : k < l.length := by omega
    obtain ⟨t, ht⟩ : ∃ t, l[k]? = some t := ⟨l[k], List.getElem?_eq_getElem hkl⟩
    refine aK ?_
    show AWp _ _ _ _ _ _ _
    refine aS (aB (aD (by kernel_rfl) (by kernel_rfl) ?_))
    (refine nx (aF (gN rfl) rfl rfl rfl rfl rfl rfl rfl rfl rfl) rfl ?_)
    (refine nx (a_load_tok (gN rfl) rfl rfl rfl rfl rfl rfl rfl rfl rfl rfl rfl rfl rfl) rfl ?_)
    (refine nx (aF (gN rfl) rfl rfl rfl rfl rfl rfl rfl rfl rfl) rfl ?_)
    (refine nx (aLb (gN rfl) rfl rfl rfl rfl rfl rfl rfl rfl rfl rfl rfl rfl) rfl ?_)
    (refine nx (aM (gN rfl) rfl rfl rfl rfl rfl) rfl ?_)
    (refine nx (a_index (j := _) (gN rfl) rfl rfl rfl rfl rfl rfl rfl rfl rfl (Tm.map_at ht) rfl (Tm.size_all l)) rfl ?_)
    (refine nx (a_load_ad (gN rfl) rfl rfl rfl rfl rfl rfl rfl rfl rfl) rfl ?_)
    (refine nx (a_call (gN rfl) rfl rfl rfl rfl rfl ((ih t (List.mem_of_getElem? ht) (hok t (List.mem_of_getElem? ht))).up hW)) rfl ?_)
    (refine nx (a_bslice (gN rfl) rfl rfl rfl rfl rfl rfl rfl rfl rfl rfl rfl rfl rfl) rfl ?_)
    (refine nx (a_app (gN rfl) rfl rfl rfl rfl rfl rfl rfl rfl rfl rfl rfl rfl rfl rfl rfl (by first | assumption | exact sZ rfl | exact Tm.size_all _ | exact Bd.size_all _ | exact ints_size _ | exact bys_size _ | exact Lt.size_all _) (by first | assumption | exact sZ rfl | exact Tm.size_all _ | exact Bd.size_all _ | exact ints_size _ | exact bys_size _ | exact Lt.size_all _) (by first | omega | (simp only [List.length_map, List.length_append, List.length_cons, List.length_nil] <;> omega) | (simp <;> omega))) rfl ?_)
    (refine nx (aF (gN rfl) rfl rfl rfl rfl rfl rfl rfl rfl rfl) rfl ?_)
    (refine nx (a_store (gN rfl) rfl rfl rfl rfl rfl rfl rfl rfl rfl rfl) rfl ?_)
    refine ⟨by kernel_rfl, ?_⟩
    show AWp _ _ _ _ _ _ _
    refine aR ?_
    (refine nx (aM (gN rfl) rfl rfl rfl rfl rfl) rfl ?_)
    (refine nx (a_add (gN rfl) rfl rfl rfl rfl rfl rfl (by first | omega | (simp only [List.length_map, List.length_append, List.length_cons, List.length_nil] <;> omega) | (simp <;> omega))) rfl ?_)
    (refine nx (aA (gN rfl) rfl rfl rfl rfl rfl) rfl ?_)
    refine ⟨hkl, Wk.trans (wk_sub (s' := [(1, .bp 1 0 []), (100001, .bx (Tm.cw ⟨f, l⟩)), (2, .bp 2 0 []), (100002, ⟨5, .row [.i 0, .lst []], 1, 0, [1]⟩), (3, .bp 3 0 []), (100003, ⟨5, .row [.i f, .lst ((l.take (k + 1)).map Tm.cv)], 300024, 0, [1]⟩), (300024, .tok 50 2), (4, .val (.i ((k + 1 : Nat) : Int)))]) ⟨rfl, rfl, rfl, rfl, rfl, ?_, rfl, rfl, trivial⟩) (wk_ren 300024 200024 rfl rfl rfl rfl)⟩
    rw [List.take_add_one, ht, List.map_append]
    simp only [Option.toList_some, List.map_cons, List.map_nil, Tm.cv_eq]
    rfl
  · refine aE ?_
    show AWp _ _ _ _ _ _ _
    have hkl : k = l.length := by
      simp only [List.length_map, decide_eq_false_iff_not] at hc
      omega
    subst hkl
    rw [List.take_length]
    refine aS (aR ?_)
    (refine nx (aL (gN rfl) rfl rfl rfl rfl rfl rfl rfl rfl rfl rfl rfl rfl) rfl ?_)
    (refine nx (aSt (gN rfl) rfl rfl rfl rfl rfl rfl rfl rfl rfl rfl) rfl ?_)
    show AWp _ _ _ _ _ _ _
    exact aT ⟨.inr rfl, rfl⟩
def fineBd (b : Bd) : Bool := decide (0 ≤ b.v) && (decide (b.v ≤ 1000) && decide (0 ≤ smallT b.t 20 10))
def fine7B (l : List Bd) : Bool := l.all fineBd && decide (l.length ≤ 8)
def appR (l : List Bd) : Tm → Tm
  | ⟨f, ts⟩ => if f < 0 then imgB l (-1 - f) else ⟨f, ts.map (appR l)⟩
end Go.Proofs.Ytiammidklcjelaa
namespace Go.Proofs.Ytiammidklcjelaa
set_option linter.unusedVariables false
set_option linter.unusedSimpArgs false
def ixOf : List Int → Int → Nat
  | [], _ => 0
  | x :: l, v => if x = v then 0 else ixOf l v + 1
def zipB (a b : List Int) : List Bd := List.zipWith (fun v u => ⟨v, varT u⟩) a b
def nums (n : Nat) : List Int := (List.range n).map fun i : Nat => (i : Int)
def Tm.nv (t : Tm) : List Int := nub t.vs
def canT (t : Tm) : Tm := repT (imgB (zipB t.nv (nums t.nv.length))) t
def vntB (a b : Tm) : Bool := decide (a.nv.length = b.nv.length) && sameT (repT (imgB (zipB a.nv b.nv)) a) b
end Go.Proofs.Ytiammidklcjelaa
namespace Go.Proofs.Ytiammidklcjelaa
open Go.RowKit
set_option linter.unusedVariables false
structure Lt where
  neg : Bool
  a : Tm
  b : Tm
noncomputable abbrev Lt.cw (l : Lt) : CV := .row [.b l.neg, l.a.cw, l.b.cw]
noncomputable def Lt.cv (l : Lt) : CV := l.cw
theorem Lt.size_all (c : List Lt) : ∀ x ∈ c.map Lt.cv, x.size = 5 := by
  intro x hx
  obtain ⟨l, _, rfl⟩ := List.mem_map.1 hx
  rfl
theorem Lt.map_at {c : List Lt} {i : Nat} {l : Lt} (h : c[i]? = some l) : (c.map Lt.cv)[i]? = some l.cw := by rw [List.getElem?_map, h]; rfl
def Lt.strip (l : Lt) : Lt := ⟨l.neg, l.a.strip, l.b.strip⟩
def Lt.rng (l : Lt) : Prop := l.a.rng ∧ l.b.rng
def Lt.ok (l : Lt) : Prop := l.a.ok ∧ l.b.ok
end Go.Proofs.Ytiammidklcjelaa
namespace Go.Proofs.Ytiammidklcjelaa
set_option linter.unusedVariables false
def ub : Nat → Nat → List Int
  | 0, n => [(n : Int)]
  | k + 1, n => if n < 128 then [(n : Int)] else ((128 + n % 128 : Nat) : Int) :: ub k (n / 128)

def ubytes (n : Nat) : List Int := ub 9 n

theorem ub_more : ∀ (k n : Nat), n < 128 ^ (k + 1) → ub (k + 1) n = ub k n
  | 0, n, h => by simp [ub]; omega
  | k + 1, n, h => by
    have h2 := ub_more k (n / 128) (by rw [Nat.pow_succ] at h; exact Nat.div_lt_of_lt_mul (by omega))
    have e1 : ub (k + 1 + 1) n = if n < 128 then [(n : Int)] else ((128 + n % 128 : Nat) : Int) :: ub (k + 1) (n / 128) := rfl
    have e2 : ub (k + 1) n = if n < 128 then [(n : Int)] else ((128 + n % 128 : Nat) : Int) :: ub k (n / 128) := rfl
    rw [e1, e2, h2]

theorem ubytes_small {n : Nat} (h : n < 128) : ubytes n = [(n : Int)] := by simp [ubytes, ub, h]

theorem ubytes_step {n : Nat} (h : 128 ≤ n) (hn : n < 2 ^ 64) : ubytes n = ((128 + n % 128 : Nat) : Int) :: ubytes (n / 128) := by
  show ub 9 n = _ :: ub 9 (n / 128)
  rw [ub_more 8 (n / 128) (by omega)]
  show ub (8 + 1) n = _
  rw [ub, if_neg (by omega)]

def lenz (n : Nat) : Nat := if n = 0 then 0 else (ubytes n).length

theorem lenz_zero : lenz 0 = 0 := rfl
theorem lenz_step {n : Nat} (h : 0 < n) (hn : n < 2 ^ 64) : lenz n = 1 + lenz (n / 128) := by
  unfold lenz
  rw [if_neg (by omega)]
  by_cases h' : n < 128
  · rw [ubytes_small h', if_pos (by omega)]; rfl
  · rw [ubytes_step (by omega) hn, if_neg (by omega)]; simp; omega
theorem ubytes_length {n : Nat} (hn : n < 2 ^ 64) : (ubytes n).length = 1 + lenz (n / 128) := by
  by_cases h : n = 0
  · subst h; rfl
  · rw [← lenz_step (by omega) hn]; simp [lenz, h]
theorem ub_length : ∀ (k n : Nat), 1 ≤ (ub k n).length ∧ (ub k n).length ≤ k + 1
  | 0, n => by simp [ub]
  | k + 1, n => by
    rw [ub]; split
    · simp
    · have := ub_length k (n / 128); simp; omega
theorem ubytes_le (n : Nat) : 1 ≤ (ubytes n).length ∧ (ubytes n).length ≤ 10 := ub_length 9 n
theorem ub_wf : ∀ (k n : Nat), n < 128 ^ (k + 1) → ∀ z ∈ ub k n, 0 ≤ z ∧ z ≤ 255
  | 0, n, h, z, hz => by simp [ub] at hz; subst hz; omega
  | k + 1, n, h, z, hz => by
    rw [ub] at hz; split at hz
    · simp at hz; subst hz; omega
    · rcases List.mem_cons.1 hz with rfl | hz
      · omega
      · exact ub_wf k (n / 128) (by rw [Nat.pow_succ] at h; exact Nat.div_lt_of_lt_mul (by omega)) z hz
theorem ubytes_wf {n : Nat} (hn : n < 2 ^ 64) : ∀ z ∈ ubytes n, 0 ≤ z ∧ z ≤ 255 := ub_wf 9 n (by omega)

def zz (n : Int) : Nat := if 0 ≤ n then (2 * n).toNat else (-2 * n - 1).toNat

theorem zz_lt (n : Int) (h1 : -9223372036854775808 ≤ n) (h2 : n < 9223372036854775808) : zz n < 2 ^ 64 := by unfold zz; split <;> omega
end Go.Proofs.Ytiammidklcjelaa
namespace Go.Proofs.Ytiammidklcjelaa
open Go.RowKit
set_option linter.unusedVariables false
set_option maxHeartbeats 400000 in
theorem len_any (n : Nat) (hn : n < 2 ^ 64) (w : World) :
    Calls Try.prog 84 #[.int .u64 (n : Int)] w fun e w' => e = .returned (.int .i64 ((ubytes n).length : Int)) ∧ w' = w := by
  go_enter Try.func84, Try.ntmps84
  go_wp2
  go_loop [0, 3] (fun m c => ∃ j k : Nat, m = .int .u64 (j : Int) ∧ j < 2 ^ 64 ∧ c = .int .i64 (k : Int) ∧ k + lenz j = (ubytes n).length) (fun m _ => (intOf m).toNat)
  case atStart => exact ⟨n / 128, 1, by simp, by omega, rfl, (ubytes_length hn).symm⟩
  case round =>
    obtain ⟨j, k, rfl, hj, rfl, hjk⟩ := hrel
    have HJ : Hid (k + lenz j = (ubytes n).length) := hjk
    have hk : k ≤ 10 := by have := ubytes_le n; omega
    clear hjk
    by_cases hz : 0 < j
    · go_wp2
      go_round
      case rel => exact ⟨j / 128, k + 1, by simp, by omega, by go_num, by have h1 := HJ.out; rw [lenz_step hz hj] at h1; omega⟩
      case measure => simp [intOf]; omega
    · go_wp2
      go_ret
      have h1 := HJ.out
      have : j = 0 := by omega
      subst this
      rw [lenz_zero] at h1
      exact ⟨by rw [← h1]; rfl, rfl⟩
theorem info_u8 : (Try.prog.info? 5).map (fun i => (i.zero, i.size, i.bytes)) = some (some (.int .u8 0), 1, 1) := by kernel_rfl

theorem or128 (j : Nat) : bits .or .u8 ((j : Int) % 256) 128 = ((128 + j % 128 : Nat) : Int) := by
  have h : ∀ a : Fin 256, bits .or .u8 ((a.val : Nat) : Int) 128 = ((128 + a.val % 128 : Nat) : Int) := by decide +kernel
  have h2 := h ⟨j % 256, by omega⟩
  rw [show ((j : Int) % 256) = ((j % 256 : Nat) : Int) by omega]
  rw [show j % 128 = (j % 256) % 128 by omega]
  exact h2

set_option maxRecDepth 100000 in
set_option maxHeartbeats 400000 in
theorem copyWithRoom_any (a : Option Addr) (n cap room : Nat) (zs : List Int) (w : World) (hnil : a = none → n = 0 ∧ cap = 0) (hb : Bs w a n zs) (hn : n ≤ 70368744177664) (hr : room ≤ 70368744177664) :
    Calls Try.prog 83 #[.slice a n cap, .int .i64 (room : Int)] w fun e w' => ∃ v, e = .returned v ∧ Own w' w.heap.size v zs ∧ Below w.heap.size w w' := by
  obtain ⟨i, hi1, hi2, hi3, hi4⟩ := info_parts info_u8
  go_enter Try.func83, Try.ntmps83
  go_wp2_with (at_make; refine wpList_make_own _ rfl _ _ 23 rfl w.heap.size 5 i (.int .u8 0) 1 Try.underlying23 hi1 hi2 hi3 .i64 .i64 _ (n + room) rfl rfl ?c1 ?c2 ?c3 ?c4 ?_)
  case c1 => omega
  case c2 => rw [hi4]; omega
  case c3 => unfold maxLen; omega
  case c4 => exact Nat.le_refl _
  intro w1 ho1 hg1
  have hown1 : Own w1 w.heap.size (.slice (some ⟨w.heap.size, 0, none⟩) 0 (n + room)) [] := ⟨ho1, by simp⟩
  have hbel1 : Below w.heap.size w w1 := (Below.refl _ _).grown hg1 (Nat.le_refl _) (fun k hk => by cases hk)
  have hb1 := hb.below hbel1 (Nat.le_refl _)
  have hsz := hg1.size
  clear ho1 hg1
  go_wp2_with (at_builtin; refine wpList_append_bytes _ rfl _ _ rfl w.heap.size Try.underlying23 info_u8 _ [] rfl hown1 a n cap zs rfl hnil hb1 ?d1 hsz ?_)
  case d1 => simp; omega
  intro v2 w2 ho2 hg2
  have hbel2 : Below w.heap.size w w2 := hbel1.trans (Below.of_grown hown1 hg2 hsz)
  clear hg2
  go_wp2
  go_ret
  exact ⟨_, rfl, ho2, hbel2⟩

set_option maxRecDepth 100000 in
set_option maxHeartbeats 400000 in
theorem appendUint_any (base : Nat) (v : Value) (xs : List Int) (n : Nat) (hn : n < 2 ^ 64) (w : World) (hown : Own w base v xs) (hbase : base ≤ w.heap.size) (hl : xs.length ≤ 70368744177664) :
    Calls Try.prog 82 #[v, .int .u64 (n : Int)] w fun e w' => ∃ v', e = .returned v' ∧ Own w' base v' (xs ++ ubytes n) ∧ Below base w w' := by
  go_enter Try.func82, Try.ntmps82
  go_wp2
  go_loopw [0, 1] (fun u m wr => ∃ (j : Nat) (ys : List Int), m = .int .u64 (j : Int) ∧ j < 2 ^ 64 ∧ ys ++ ubytes j = ubytes n ∧ Own wr base u (xs ++ ys) ∧ base ≤ wr.heap.size ∧ Below base w wr) (fun _ m _ => (intOf m).toNat)
  case atStart => exact ⟨n, [], rfl, hn, rfl, by simpa using hown, hbase, Below.refl _ _⟩
  case round =>
    obtain ⟨j, ys, rfl, hj, hy, ho, hB, hbel⟩ := hrel
    have hyl : ys.length ≤ 10 := by have := ubytes_le n; rw [← hy, List.length_append] at this; omega
    have HY : Hid (ys ++ ubytes j = ubytes n) := hy
    clear hy hown hbase hn
    by_cases hz : 128 ≤ j
    · go_wp2_with (at_builtin; refine wpList_append_bytes _ rfl _ _ rfl base Try.underlying23 info_u8 _ (xs ++ ys) rfl (ho.alloc _) (some ⟨wr.heap.size, 0, none⟩) 1 1 [bits .or .u8 ((j : Int) % 256) 128] rfl ?a1 (bs_new1 _ _ ?a2) ?a3 ?a4 ?_)
      case a1 => intro h; cases h
      case a2 => rw [or128]; omega
      case a3 => rw [List.length_append]; omega
      case a4 => simp; omega
      intro v2 w2 ho2 hg2
      have hb2 : Below base w w2 := (hbel.alloc hB _).trans (Below.of_grown (ho.alloc _) hg2 (by simp; omega))
      have hsz : base ≤ w2.heap.size := by have := hg2.size; simp at this; omega
      rw [or128] at ho2
      try rw [List.append_assoc] at ho2
      clear hg2 ho hB hbel
      go_wp2
      go_roundw
      case rel => exact ⟨j / 128, ys ++ [((128 + j % 128 : Nat) : Int)], by simp, by omega, by rw [← HY.out, ubytes_step hz hj]; simp, ho2, hsz, hb2⟩
      case measure => simp [intOf]; omega
    · go_wp2_with (at_builtin; refine wpList_append_bytes _ rfl _ _ rfl base Try.underlying23 info_u8 _ (xs ++ ys) rfl (ho.alloc _) (some ⟨wr.heap.size, 0, none⟩) 1 1 [(j : Int)] rfl ?a1 (bs_new1 _ _ ?a2) ?a3 ?a4 ?_)
      case a1 => intro h; cases h
      case a2 => omega
      case a3 => rw [List.length_append]; omega
      case a4 => simp; omega
      intro v2 w2 ho2 hg2
      have hb2 : Below base w w2 := (hbel.alloc hB _).trans (Below.of_grown (ho.alloc _) hg2 (by simp; omega))
      have e1 : xs ++ ys ++ [(j : Int)] = xs ++ ubytes n := by
        rw [← HY.out, ubytes_small (by omega), List.append_assoc]
      first | rw [e1] at ho2 | (rw [List.append_assoc] at e1; rw [e1] at ho2)
      clear hg2 ho hB hbel e1
      go_wp2
      go_ret
      exact ⟨_, rfl, ho2, hb2⟩

set_option maxRecDepth 100000 in
set_option maxHeartbeats 400000 in
theorem putUint_any (a : Option Addr) (k cap : Nat) (zs : List Int) (n : Nat) (hn : n < 2 ^ 64) (w : World) (hnil : a = none → k = 0 ∧ cap = 0) (hb : Bs w a k zs) (hk : k ≤ 70368744177664) :
    Calls Try.prog 53 #[.slice a k cap, .int .u64 (n : Int)] w fun e w' => ∃ v, e = .returned v ∧ Own w' w.heap.size v (zs ++ ubytes n) ∧ Below w.heap.size w w' := by
  have hle := ubytes_le n
  go_enter Try.func53, Try.ntmps53
  go_wp2_with fail
  refine (len_any n hn _).mono ?_
  rintro e w' ⟨rfl, rfl⟩
  go_wp2_with fail
  refine (copyWithRoom_any a k cap _ zs _ hnil hb hk (by omega)).mono ?_
  rintro e w1 ⟨v1, rfl, ho1, hb1⟩
  go_wp2_with fail
  refine (appendUint_any _ v1 zs n hn w1 ho1 hb1.size (by rw [hb.1]; exact hk)).mono ?_
  rintro e w2 ⟨v2, rfl, ho2, hb2⟩
  go_wp2
  go_ret
  exact ⟨_, rfl, ho2, hb1.trans hb2⟩
theorem xor_ones (x : Nat) (h : x < 18446744073709551616) : x ^^^ 18446744073709551615 = 18446744073709551615 - x := by
  have e : (~~~ (BitVec.ofNat 64 x)).toNat = 2 ^ 64 - 1 - (BitVec.ofNat 64 x).toNat := BitVec.toNat_not
  have e2 : ~~~ (BitVec.ofNat 64 x) = BitVec.ofNat 64 x ^^^ BitVec.allOnes 64 := by rw [BitVec.xor_allOnes]
  rw [e2, BitVec.toNat_xor, BitVec.toNat_ofNat, BitVec.toNat_allOnes, Nat.mod_eq_of_lt (by omega)] at e
  exact e

theorem fold_eq (n : Int) (h1 : -9223372036854775808 ≤ n) (h2 : n < 9223372036854775808) :
    bits .xor .u64 (IntKind.u64.wrap (IntKind.u64.wrap n * 2)) (IntKind.u64.wrap (n / 9223372036854775808)) = (zz n : Int) := by
  simp only [IntKind.wrap_u64]
  unfold zz
  split
  · rename_i h
    have e1 : n / 9223372036854775808 = 0 := by omega
    have e2 : n % 18446744073709551616 * 2 % 18446744073709551616 = (((2 * n).toNat : Nat) : Int) := by omega
    rw [e1, e2]
    have := u64_xor_nat (2 * n).toNat 0 (by omega) (by omega)
    simpa using this
  · rename_i h
    have e1 : n / 9223372036854775808 = -1 := by omega
    have e2 : n % 18446744073709551616 * 2 % 18446744073709551616 = (((2 * n + 18446744073709551616).toNat : Nat) : Int) := by omega
    rw [e1, e2]
    have := u64_xor_nat (2 * n + 18446744073709551616).toNat 18446744073709551615 (by omega) (by omega)
    rw [xor_ones _ (by omega)] at this
    have e3 : (-1 : Int) % 18446744073709551616 = ((18446744073709551615 : Nat) : Int) := by decide
    rw [e3, this]
    omega

set_option maxRecDepth 100000 in
set_option maxHeartbeats 400000 in
theorem fold_any (n : Int) (h1 : -9223372036854775808 ≤ n) (h2 : n < 9223372036854775808) (w : World) :
    Calls Try.prog 85 #[.int .i64 n] w fun e w' => e = .returned (.int .u64 (zz n : Int)) ∧ w' = w := by
  have hf : Hid (bits .xor .u64 (IntKind.u64.wrap (IntKind.u64.wrap n * 2)) (IntKind.u64.wrap (n / 9223372036854775808)) = (zz n : Int)) := fold_eq n h1 h2
  go_enter Try.func85, Try.ntmps85
  go_wp2
  go_ret
  exact ⟨by rw [hf.out]; rfl, rfl⟩

set_option maxRecDepth 100000 in
set_option maxHeartbeats 400000 in
theorem putInt_any (a : Option Addr) (k cap : Nat) (zs : List Int) (n : Int) (h1 : -9223372036854775808 ≤ n) (h2 : n < 9223372036854775808) (w : World) (hnil : a = none → k = 0 ∧ cap = 0) (hb : Bs w a k zs) (hk : k ≤ 70368744177664) :
    Calls Try.prog 54 #[.slice a k cap, .int .i64 n] w fun e w' => ∃ v, e = .returned v ∧ Own w' w.heap.size v (zs ++ ubytes (zz n)) ∧ Below w.heap.size w w' := by
  go_enter Try.func54, Try.ntmps54
  go_wp2_with fail
  refine (fold_any n h1 h2 _).mono ?_
  rintro e w' ⟨rfl, rfl⟩
  go_wp2_with fail
  refine (putUint_any a k cap zs (zz n) (zz_lt n h1 h2) _ hnil hb hk).mono ?_
  rintro e w1 ⟨v1, rfl, ho1, hb1⟩
  go_wp2
  go_ret
  exact ⟨_, rfl, ho1, hb1⟩

set_option maxRecDepth 100000 in
set_option maxHeartbeats 400000 in
theorem refUint_any : ∀ (f n : Nat) (hf : n < 128 ^ (f + 1)) (hn : n < 2 ^ 64) (w : World),
    Calls Try.prog 31 #[.int .u64 (n : Int)] w fun e w' => ∃ v, e = .returned v ∧ Own w' w.heap.size v (ubytes n) ∧ Below w.heap.size w w' := by
  intro f
  induction f with
  | zero =>
    intro n hf hn w
    have hlt : n < 128 := by omega
    have H : Hid (ubytes n = [(n : Int)]) := ubytes_small hlt
    clear hf hn
    go_enter Try.func31, Try.ntmps31
    go_wp2
    go_ret
    exact ⟨_, rfl, by rw [H.out]; exact own_new1 w _ (Nat.le_refl _) _ (by omega), (Below.refl _ _).alloc (Nat.le_refl _) _⟩
  | succ f ih =>
    intro n hf hn w
    by_cases hlt : n < 128
    · have H : Hid (ubytes n = [(n : Int)]) := ubytes_small hlt
      clear hf hn ih
      go_enter Try.func31, Try.ntmps31
      go_wp2
      go_ret
      exact ⟨_, rfl, by rw [H.out]; exact own_new1 w _ (Nat.le_refl _) _ (by omega), (Below.refl _ _).alloc (Nat.le_refl _) _⟩
    · have IH : Hid (∀ w, Calls Try.prog 31 #[.int .u64 ((n / 128 : Nat) : Int)] w fun e w' => ∃ v, e = .returned v ∧ Own w' w.heap.size v (ubytes (n / 128)) ∧ Below w.heap.size w w') :=
        ih (n / 128) (by rw [Nat.pow_succ] at hf; exact Nat.div_lt_of_lt_mul (by omega)) (by omega)
      have H : Hid (ubytes n = ((128 + n % 128 : Nat) : Int) :: ubytes (n / 128)) := ubytes_step (by omega) hn
      clear ih hf
      go_enter Try.func31, Try.ntmps31
      go_wp2_with fail
      rw [show (n : Int) / 128 = ((n / 128 : Nat) : Int) from by omega, show 128 + (n : Int) % 128 = ((128 + n % 128 : Nat) : Int) from by omega]
      refine (IH.out _).mono ?_
      rintro e w1 ⟨v1, rfl, ho1, hb1⟩
      obtain ⟨a1, c1, rfl, hc1, hnil1, hbs1⟩ := ho1.slice
      have hl := (ubytes_le (n / 128)).2
      have hown : Own w1 w.heap.size (.slice (some ⟨w.heap.size, 0, none⟩) 1 1) [((128 + n % 128 : Nat) : Int)] := (own_new1 w _ (Nat.le_refl _) _ (by omega)).below hb1 (Nat.le_refl _)
      have hbel : Below w.heap.size w w1 := ((Below.refl _ _).alloc (Nat.le_refl _) _).trans (hb1.mono (by simp))
      have hsz := hbel.size
      clear ho1 hb1
      go_wp2_with (at_builtin; refine wpList_append_bytes _ rfl _ _ rfl w.heap.size Try.underlying23 info_u8 _ [((128 + n % 128 : Nat) : Int)] rfl hown a1 _ c1 (ubytes (n / 128)) rfl hnil1 hbs1 ?d1 hsz ?_)
      case d1 => simp; omega
      intro v2 w2 ho2 hg2
      have hb2 := hbel.trans (Below.of_grown hown hg2 hsz)
      have ho3 : Own w2 w.heap.size v2 (ubytes n) := by rw [H.out]; exact ho2
      clear hg2 ho2
      go_wp2
      go_ret
      exact ⟨_, rfl, ho3, hb2⟩

theorem refUint (n : Nat) (hn : n < 2 ^ 64) (w : World) :
    Calls Try.prog 31 #[.int .u64 (n : Int)] w fun e w' => ∃ v, e = .returned v ∧ Own w' w.heap.size v (ubytes n) ∧ Below w.heap.size w w' :=
  refUint_any 9 n (by omega) hn w

set_option maxRecDepth 100000 in
set_option maxHeartbeats 400000 in
theorem refInt (n : Int) (h1 : -9223372036854775808 ≤ n) (h2 : n < 9223372036854775808) (w : World) :
    Calls Try.prog 56 #[.int .i64 n] w fun e w' => ∃ v, e = .returned v ∧ Own w' w.heap.size v (ubytes (zz n)) ∧ Below w.heap.size w w' := by
  by_cases h : 0 ≤ n
  · have hz : (zz n : Int) = 2 * n := by unfold zz; rw [if_pos h]; omega
    have Hz : Hid ((zz n : Int) = 2 * n) := hz
    clear hz
    go_enter Try.func56, Try.ntmps56
    go_wp2_with fail
    rw [show 2 * n = (zz n : Int) from by have := Hz.out; omega]
    refine (refUint (zz n) (zz_lt n h1 h2) _).mono ?_
    rintro e w1 ⟨v1, rfl, ho1, hb1⟩
    go_wp2
    go_ret
    exact ⟨_, rfl, ho1, hb1⟩
  · have hz : (zz n : Int) = -2 * n - 1 := by unfold zz; rw [if_neg h]; omega
    have Hz : Hid ((zz n : Int) = -2 * n - 1) := hz
    clear hz
    go_enter Try.func56, Try.ntmps56
    go_wp2_with fail
    rw [show 2 * (-1 - n) + 1 = (zz n : Int) from by have := Hz.out; omega]
    refine (refUint (zz n) (zz_lt n h1 h2) _).mono ?_
    rintro e w1 ⟨v1, rfl, ho1, hb1⟩
    go_wp2
    go_ret
    exact ⟨_, rfl, ho1, hb1⟩

def lastAt : List Int → Option Nat
  | [] => none
  | b :: r => if b < 128 then some 0 else (lastAt r).map (· + 1)

def lastInt (l : List Int) : Int := match lastAt l with | none => -1 | some i => (i : Int)

theorem lastAt_none : ∀ {l : List Int}, (∀ i, i < l.length → 128 ≤ l.getD i 0) → lastAt l = none
  | [], _ => rfl
  | b :: r, h => by
    have h0 := h 0 (by simp)
    simp at h0
    rw [lastAt, if_neg (by omega), lastAt_none (fun i hi => by have := h (i + 1) (by simp; omega); simpa using this)]
    rfl
theorem lastAt_some : ∀ {l : List Int} {k : Nat}, k < l.length → (∀ i, i < k → 128 ≤ l.getD i 0) → l.getD k 0 < 128 → lastAt l = some k
  | [], k, hk, _, _ => by simp at hk
  | b :: r, 0, _, _, h => by simp at h; rw [lastAt, if_pos h]
  | b :: r, k + 1, hk, hp, h => by
    have h0 := hp 0 (by omega)
    simp at h0
    rw [lastAt, if_neg (by omega), lastAt_some (k := k) (by simpa using hk) (fun i hi => by have := hp (i + 1) (by omega); simpa using this) (by simpa using h)]
    rfl
theorem lastAt_lt : ∀ {l : List Int} {k : Nat}, lastAt l = some k → k < l.length ∧ (∀ i, i < k → 128 ≤ l.getD i 0) ∧ l.getD k 0 < 128
  | [], k, h => by cases h
  | b :: r, k, h => by
    rw [lastAt] at h
    split at h
    · cases h; exact ⟨by simp, by omega, by simpa⟩
    · rename_i hb
      cases hr : lastAt r with
      | none => rw [hr] at h; cases h
      | some j =>
        rw [hr] at h; cases h
        obtain ⟨h1, h2, h3⟩ := lastAt_lt hr
        refine ⟨by simp; omega, fun i hi => ?_, by simpa using h3⟩
        cases i with
        | zero => simp; omega
        | succ i => have := h2 i (by simp at hi; omega); simpa using this

def val : List Int → Nat
  | [] => 0
  | b :: r => (b % 128).toNat + 128 * val r

theorem val_snoc : ∀ (l : List Int) (b : Int), val (l ++ [b]) = val l + (b % 128).toNat * 128 ^ l.length
  | [], b => by simp [val]
  | c :: r, b => by
    rw [List.cons_append, val, val, val_snoc r b, List.length_cons, Nat.pow_succ, Nat.mul_add, Nat.add_assoc]
    congr 2
    rw [Nat.mul_left_comm, Nat.mul_comm 128]
theorem val_lt : ∀ (l : List Int), val l < 128 ^ l.length
  | [] => by simp [val]
  | c :: r => by
    have := val_lt r
    rw [val, List.length_cons, Nat.pow_succ]
    have h : (c % 128).toNat < 128 := by omega
    omega

def okNum (l : List Int) : Bool := decide (l.length ≤ 10 ∧ (l.length = 10 → l.getD (l.length - 1) 0 ≤ 1) ∧ (l.getD (l.length - 1) 0 ≠ 0 ∨ l.length = 1))

theorem andNot128 (X : Int) (h1 : 0 ≤ X) (h2 : X ≤ 255) : bits .andNot .u8 X 128 = X % 128 := by
  have h : ∀ a : Fin 256, bits .andNot .u8 ((a.val : Nat) : Int) 128 = ((a.val : Nat) : Int) % 128 := by decide +kernel
  have h3 := h ⟨X.toNat, by omega⟩
  simp only [Int.toNat_of_nonneg h1] at h3
  exact h3

theorem pow128 (j : Nat) : (2 : Int) ^ (7 * j) = ((128 ^ j : Nat) : Int) := by
  rw [Int.pow_mul]; simp

theorem join_step (x j : Nat) (X : Int) (hx : x < 128 ^ j) (h1 : 0 ≤ X) (h2 : X ≤ 255) (hj : j ≤ 9) (h9 : j = 9 → X ≤ 1) :
    bits .or .u64 (x : Int) (IntKind.u64.wrap (IntKind.u64.wrap (bits .andNot .u8 X 128) * 2 ^ (7 * j))) = ((x + (X % 128).toNat * 128 ^ j : Nat) : Int) ∧ x + (X % 128).toNat * 128 ^ j < 2 ^ 64 := by
  rw [andNot128 X h1 h2, pow128]
  obtain ⟨c, hc⟩ : ∃ c : Nat, X % 128 = (c : Int) := ⟨(X % 128).toNat, by omega⟩
  have hc7 : c < 128 := by omega
  have hlt : c * 128 ^ j + 128 ^ j ≤ 2 ^ 64 := by
    rcases Nat.lt_or_ge j 9 with hj' | hj'
    · have h8 : 128 ^ j ≤ 128 ^ 8 := Nat.pow_le_pow_right (by decide) (by omega)
      have : c * 128 ^ j ≤ 127 * 128 ^ 8 := Nat.mul_le_mul (by omega) h8
      omega
    · have e : j = 9 := by omega
      subst e
      have := h9 rfl
      have hc1 : c ≤ 1 := by omega
      clear hx
      show c * 9223372036854775808 + 9223372036854775808 ≤ 18446744073709551616
      omega
  have hp : 0 < 128 ^ j := Nat.pow_pos (by decide)
  rw [hc, Int.toNat_natCast]
  simp only [IntKind.wrap_u64]
  have e1 : (c : Int) % 18446744073709551616 = (c : Int) := by omega
  have e2 : ((c : Int) * ((128 ^ j : Nat) : Int)) % 18446744073709551616 = ((c * 128 ^ j : Nat) : Int) := by
    rw [← Int.natCast_mul]; omega
  rw [e1, e2]
  refine ⟨?_, by omega⟩
  rw [u64_or_nat x (c * 128 ^ j) (by omega) (by omega), Nat.or_comm]
  have e3 : 128 ^ j = 2 ^ (7 * j) := by rw [Nat.pow_mul]
  rw [nat_join (7 * j) (c * 128 ^ j) x (by rw [e3]; exact Nat.mul_mod_left _ _) (by rw [← e3]; exact hx), Nat.add_comm]

def unzz (n : Nat) : Int := if n % 2 = 0 then ((n / 2 : Nat) : Int) else -((n / 2 : Nat) : Int) - 1

theorem xor_i64_zero (x : Nat) (h : x < 9223372036854775808) : bits .xor .i64 (x : Int) 0 = (x : Int) := by
  unfold bits
  have e : BitVec.ofInt IntKind.i64.bits 0 = 0#64 := rfl
  have e2 : (BitVec.ofInt 64 (x : Int)).toNat = x := ofInt_u64 x (by omega)
  simp only [e]
  show IntKind.i64.wrap (((BitVec.ofInt 64 (x : Int)) ^^^ 0#64).toNat : Int) = _
  rw [BitVec.xor_zero, e2]
  simp [IntKind.wrap, IntKind.bits, IntKind.signed]
  omega
theorem xor_i64_ones (x : Nat) (h : x < 9223372036854775808) : bits .xor .i64 (x : Int) (-1) = -(x : Int) - 1 := by
  unfold bits
  have e2 : (BitVec.ofInt 64 (x : Int)).toNat = x := ofInt_u64 x (by omega)
  show IntKind.i64.wrap (((BitVec.ofInt 64 (x : Int)) ^^^ (BitVec.ofInt 64 (-1))).toNat : Int) = _
  have e : BitVec.ofInt 64 (-1) = BitVec.allOnes 64 := by decide
  rw [e, BitVec.xor_allOnes, BitVec.toNat_not, e2]
  simp [IntKind.wrap, IntKind.bits, IntKind.signed]
  omega

theorem unfold_eq (n : Nat) (hn : n < 2 ^ 64) : bits .xor .i64 ((n : Int) / 2) (wrap64 (-wrap64 (bits .and .u64 (n : Int) 1))) = unzz n := by
  have e1 : bits .and .u64 (n : Int) 1 = ((n % 2 : Nat) : Int) := by
    have := u64_and_nat n 1 (by omega) (by omega)
    rw [nat_mask1] at this
    exact this
  rw [e1, show (n : Int) / 2 = ((n / 2 : Nat) : Int) by omega]
  unfold unzz wrap64
  rcases Nat.mod_two_eq_zero_or_one n with h | h
  · rw [h, if_pos rfl]
    exact xor_i64_zero _ (by omega)
  · rw [h, if_neg (by decide)]
    exact xor_i64_ones _ (by omega)

theorem unzz_zz (n : Int) : unzz (zz n) = n := by
  unfold unzz zz
  split <;> split <;> omega
theorem zz_unzz (n : Nat) : zz (unzz n) = n := by
  unfold unzz zz
  split <;> split <;> omega
theorem ret_bool {a b : Bool} (h : a = b) : Ending.returned (.bool a) = .returned (.bool b) := by rw [h]
theorem ret_int {k : IntKind} {a b : Int} (h : a = b) : Ending.returned (.int k a) = .returned (.int k b) := by rw [h]

set_option maxRecDepth 100000 in
set_option maxHeartbeats 400000 in
theorem isLast_any (c : Int) (w : World) : Calls Try.prog 123 #[.int .u8 c] w fun e w' => e = .returned (.bool (decide (c < 128))) ∧ w' = w := by
  go_enter Try.func123, Try.ntmps123
  go_wp2
  go_ret
  exact ⟨rfl, rfl⟩

set_option maxRecDepth 100000 in
set_option maxHeartbeats 400000 in
theorem unfold_any (n : Nat) (hn : n < 2 ^ 64) (w : World) :
    Calls Try.prog 138 #[.int .u64 (n : Int)] w fun e w' => e = .returned (.int .i64 (unzz n)) ∧ w' = w := by
  have hf : Hid (bits .xor .i64 ((n : Int) / 2) (wrap64 (-wrap64 (bits .and .u64 (n : Int) 1))) = unzz n) := unfold_eq n hn
  go_enter Try.func138, Try.ntmps138
  go_wp2
  go_ret
  exact ⟨ret_int hf.out, rfl⟩

theorem val_take {zs : List Int} {j : Nat} (h : j < zs.length) : val (zs.take (j + 1)) = val (zs.take j) + (zs.getD j 0 % 128).toNat * 128 ^ j := by
  rw [List.take_succ_eq_append_getElem h, val_snoc, List.length_take, Nat.min_eq_left (by omega)]
  simp [h]

theorem val_take_lt (zs : List Int) (j : Nat) (h : j ≤ zs.length) : val (zs.take j) < 128 ^ j := by
  have := val_lt (zs.take j)
  rwa [List.length_take, Nat.min_eq_left h] at this

set_option maxRecDepth 100000 in
set_option maxHeartbeats 400000 in
theorem join_any (a : Option Addr) (n cap : Nat) (zs : List Int) (w : World) (hb : Bs w a n zs) (hn : n ≤ 10) (h10 : n = 10 → zs.getD 9 0 ≤ 1) :
    Calls Try.prog 125 #[.slice a n cap] w fun e w' => e = .returned (.int .u64 (val zs : Int)) ∧ w' = w := by
  have H10 : Hid (n = 10 → zs.getD 9 0 ≤ 1) := h10
  clear h10
  go_enter Try.func125, Try.ntmps125
  go_wp2
  go_loop [3, 4, 5, 8] (fun v i c k => ∃ (x j : Nat), v = .int .u64 (x : Int) ∧ x < 2 ^ 64 ∧ k = .int .i64 (j : Int) ∧ j ≤ n ∧ x = val (zs.take j)) (fun v i c k => n - (intOf k).toNat)
  case atStart => exact ⟨0, 0, rfl, by decide, rfl, by omega, rfl⟩
  case round =>
    obtain ⟨x, j, rfl, hx, rfl, hj, hv⟩ := hrel
    have HV : Hid (x = val (zs.take j)) := hv
    clear hv
    by_cases hlt : j < n
    · obtain ⟨b1, b2, b3⟩ := hb
      have HL : Hid (zs.length = n) := b1
      clear b1
      rcases b3 with b3 | ⟨b, off, rfl, hb4, hc⟩
      · omega
      obtain ⟨X, hX⟩ : ∃ X, X = zs.getD j 0 := ⟨_, rfl⟩
      have c1 : w.cell? ⟨b, off + j, none⟩ = some (.int .u8 X) := by rw [hX]; exact hc j hlt
      have hXb : 0 ≤ X ∧ X ≤ 255 := by
        rw [hX, List.getD_eq_getElem?_getD, List.getElem?_eq_getElem (by rw [HL.out]; exact hlt)]
        exact b2 _ (List.getElem_mem _)
      have HX : Hid (X = zs.getD j 0) := hX
      clear hc hX b2
      go_wp2
      go_round
      case rel =>
        have hs := join_step x j X (by rw [HV.out]; exact val_take_lt zs j (by rw [HL.out]; omega)) hXb.1 hXb.2 (by omega) (fun h9 => by rw [HX.out, h9]; exact H10.out (by omega))
        exact ⟨_, j + 1, by rw [hs.1], hs.2, by go_num, by omega, by rw [val_take (by rw [HL.out]; exact hlt), ← HV.out, ← HX.out]⟩
      case measure => simp [intOf]; omega
    · have HL : Hid (zs.length = n) := hb.1
      clear hb
      go_wp2
      go_ret
      exact ⟨ret_int (by rw [HV.out, List.take_of_length_le (by rw [HL.out]; omega)]), rfl⟩

set_option maxRecDepth 100000 in
set_option maxHeartbeats 400000 in
theorem indexFunc_any (a : Option Addr) (n cap : Nat) (zs : List Int) (w : World) (hb : Bs w a n zs) (hn : n ≤ 140737488355328) :
    Calls Try.prog 122 #[.slice a n cap, .func (.func 123) #[] #[]] w fun e w' => e = .returned (.int .i64 (lastInt zs)) ∧ w' = w := by
  go_enter Try.func122, Try.ntmps122
  go_wp2
  go_loop [5, 8] (fun i k => ∃ (j : Nat), k = .int .i64 (j : Int) ∧ j ≤ n ∧ ∀ i, i < j → 128 ≤ zs.getD i 0) (fun _ k => n - (intOf k).toNat)
  case atStart => exact ⟨0, rfl, by omega, by omega⟩
  case round =>
    obtain ⟨j, rfl, hj, hv⟩ := hrel
    have HV : Hid (∀ i, i < j → 128 ≤ zs.getD i 0) := hv
    clear hv
    have HL : Hid (zs.length = n) := hb.1
    by_cases hlt : j < n
    · obtain ⟨b1, b2, b3⟩ := hb
      clear b1
      rcases b3 with b3 | ⟨b, off, rfl, hb4, hc⟩
      · omega
      obtain ⟨X, hX⟩ : ∃ X, X = zs.getD j 0 := ⟨_, rfl⟩
      have c1 : w.cell? ⟨b, off + j, none⟩ = some (.int .u8 X) := by rw [hX]; exact hc j hlt
      have HX : Hid (X = zs.getD j 0) := hX
      clear hc hX b2
      by_cases hX : X < 128
      · have hd : decide (X < 128) = true := by simpa using hX
        go_wp2_with fail
        refine (isLast_any X w).mono ?_
        rintro e w' ⟨rfl, rfl⟩
        go_wp2
        go_ret
        exact ⟨ret_int (by rw [lastInt, lastAt_some (by rw [HL.out]; exact hlt) HV.out (by rw [← HX.out]; exact hX)]), rfl⟩
      · have hd : decide (X < 128) = false := by simpa using hX
        go_wp2_with fail
        refine (isLast_any X w).mono ?_
        rintro e w' ⟨rfl, rfl⟩
        go_wp2
        go_round
        case rel => exact ⟨j + 1, by go_num, by omega, fun i hi => by rcases Nat.lt_or_ge i j with h | h; exact HV.out i h; rw [show i = j by omega, ← HX.out]; omega⟩
        case measure => simp [intOf]; omega
    · clear hb
      go_wp2
      go_ret
      exact ⟨ret_int (by rw [lastInt, lastAt_none (fun i hi => HV.out i (by rw [HL.out] at hi; omega))]), rfl⟩

set_option maxRecDepth 100000 in
set_option maxHeartbeats 400000 in
theorem isNumber_any (a : Option Addr) (n cap : Nat) (zs : List Int) (w : World) (hb : Bs w a n zs) (hn : n ≤ 140737488355328) (h0 : 0 < n) :
    Calls Try.prog 124 #[.slice a n cap] w fun e w' => e = .returned (.bool (okNum zs)) ∧ w' = w := by
  obtain ⟨b1, b2, b3⟩ := hb
  rcases b3 with b3 | ⟨b, off, rfl, hb4, hc⟩
  · omega
  obtain ⟨X, hX⟩ : ∃ X, X = zs.getD (n - 1) 0 := ⟨_, rfl⟩
  have hok : okNum zs = decide (n ≤ 10 ∧ (n = 10 → X ≤ 1) ∧ (X ≠ 0 ∨ n = 1)) := by rw [okNum, b1, hX]
  obtain ⟨m, rfl⟩ : ∃ m, n = m + 1 := ⟨n - 1, by omega⟩
  have c1 : w.cell? ⟨b, off + m, none⟩ = some (.int .u8 X) := by rw [hX]; exact hc m (by omega)
  have HO : Hid (okNum zs = decide (m + 1 ≤ 10 ∧ (m + 1 = 10 → X ≤ 1) ∧ (X ≠ 0 ∨ m + 1 = 1))) := hok
  clear hc hX hok b1 b2
  go_enter Try.func124, Try.ntmps124
  go_wp2
  all_goals go_ret
  all_goals refine ⟨ret_bool ?_, rfl⟩
  all_goals rw [HO.out]
  · exact (decide_eq_false (by omega)).symm
  · exact (decide_eq_false (by omega)).symm
  · exact (decide_eq_false (by omega)).symm
  · exact (decide_eq_true (by omega)).symm
  · rw [Bool.eq_iff_iff, beq_iff_eq, decide_eq_true_iff]; omega
  · exact (decide_eq_true (by omega)).symm
set_option maxRecDepth 100000 in
set_option maxHeartbeats 400000 in
theorem uint_end (a : Option Addr) (k cap : Nat) (zs : List Int) (p : Nat) (w : World) (hb : Bs w a k zs) (hk : k ≤ 70368744177664) (hkc : k ≤ cap) (hp : p ≤ k) (he : lastAt (zs.drop p) = none) :
    Calls Try.prog 86 #[.slice a k cap, .int .i64 (p : Int)] w fun e w' => e = .returned (.tuple #[.int .u64 0, .int .i64 0, .int .u8 10]) ∧ w' = w := by
  have h1 : decide ((p : Int) < 0) = false := by simp
  have h2 : decide ((k : Int) < (p : Int)) = false := by simp; omega
  have hli : lastInt (zs.drop p) = -1 := by rw [lastInt, he]
  rcases Nat.lt_or_ge p cap with hpc | hpc
  · clear he
    go_enter Try.func86, Try.ntmps86
    go_wp2_with fail
    refine (indexFunc_any _ _ _ (zs.drop p) w (hb.drop hp) (by omega)).mono ?_
    rintro e w' ⟨rfl, rfl⟩
    rw [hli]
    go_wp2
    go_ret3
    exact ⟨rfl, rfl⟩
  · have e1 : p = k := by omega
    have e2 : cap = k := by omega
    subst e1 e2
    have hd : zs.drop cap = [] := by rw [List.drop_eq_nil_iff, hb.1]; omega
    rw [hd] at hli
    clear he hd
    go_enter Try.func86, Try.ntmps86
    go_wp2_with fail
    refine (indexFunc_any _ 0 _ [] w (Bs.empty w _) (by omega)).mono ?_
    rintro e w' ⟨rfl, rfl⟩
    rw [hli]
    go_wp2
    go_ret3
    exact ⟨rfl, rfl⟩

theorem lastInt_some {l : List Int} {i : Nat} (h : lastAt l = some i) : lastInt l = (i : Int) := by rw [lastInt, h]

set_option maxRecDepth 100000 in
set_option maxHeartbeats 400000 in
theorem uint_form (a : Option Addr) (k cap : Nat) (zs : List Int) (p i : Nat) (w : World) (hb : Bs w a k zs) (hk : k ≤ 70368744177664) (hkc : k ≤ cap) (hp : p ≤ k) (he : lastAt (zs.drop p) = some i) (hok : okNum ((zs.drop p).take (i + 1)) = false) :
    Calls Try.prog 86 #[.slice a k cap, .int .i64 (p : Int)] w fun e w' => e = .returned (.tuple #[.int .u64 0, .int .i64 0, .int .u8 7]) ∧ w' = w := by
  have h1 : decide ((p : Int) < 0) = false := by simp
  have h2 : decide ((k : Int) < (p : Int)) = false := by simp; omega
  have hli := lastInt_some he
  have hlt := (lastAt_lt he).1
  rw [List.length_drop, hb.1] at hlt
  have hpc : p < cap := by omega
  have HK : Hid (okNum ((zs.drop p).take (i + 1)) = false) := hok
  clear he hok
  go_enter Try.func86, Try.ntmps86
  go_wp2_with fail
  refine (indexFunc_any _ _ _ (zs.drop p) w (hb.drop hp) (by omega)).mono ?_
  rintro e w' ⟨rfl, rfl⟩
  rw [hli]
  have hi0 : decide ((i : Int) < 0) = false := by simp
  clear hli
  go_wp2_with fail
  rw [show p + i + 1 - p = i + 1 from by omega]
  refine (isNumber_any _ (i + 1) _ ((zs.drop p).take (i + 1)) _ ((hb.drop hp).take (by omega)) (by omega) (by omega)).mono ?_
  rintro e w1 ⟨rfl, rfl⟩
  rw [HK.out]
  go_wp2
  go_ret3
  exact ⟨rfl, rfl⟩

set_option maxRecDepth 100000 in
set_option maxHeartbeats 400000 in
theorem uint_ok (a : Option Addr) (k cap : Nat) (zs : List Int) (p i : Nat) (w : World) (hb : Bs w a k zs) (hk : k ≤ 70368744177664) (hkc : k ≤ cap) (hp : p ≤ k) (he : lastAt (zs.drop p) = some i) (hok : okNum ((zs.drop p).take (i + 1)) = true) :
    Calls Try.prog 86 #[.slice a k cap, .int .i64 (p : Int)] w fun e w' => e = .returned (.tuple #[.int .u64 (val ((zs.drop p).take (i + 1)) : Int), .int .i64 ((p + i + 1 : Nat) : Int), .int .u8 0]) ∧ w' = w := by
  have h1 : decide ((p : Int) < 0) = false := by simp
  have h2 : decide ((k : Int) < (p : Int)) = false := by simp; omega
  have hli := lastInt_some he
  have hlt := (lastAt_lt he).1
  rw [List.length_drop, hb.1] at hlt
  have hpc : p < cap := by omega
  have HK : Hid (okNum ((zs.drop p).take (i + 1)) = true) := hok
  have hlen : ((zs.drop p).take (i + 1)).length = i + 1 := by rw [List.length_take, List.length_drop, hb.1]; omega
  have h3 : i + 1 ≤ 10 ∧ (i + 1 = 10 → ((zs.drop p).take (i + 1)).getD 9 0 ≤ 1) := by
    have := of_decide_eq_true hok
    rw [hlen] at this
    refine ⟨this.1, fun h => ?_⟩
    have h4 := this.2.1 h
    rwa [show i + 1 - 1 = 9 by omega] at h4
  obtain ⟨h10, h11⟩ := h3
  have H11 : Hid (i + 1 = 10 → ((zs.drop p).take (i + 1)).getD 9 0 ≤ 1) := h11
  clear he hok h11 hlen
  go_enter Try.func86, Try.ntmps86
  go_wp2_with fail
  refine (indexFunc_any _ _ _ (zs.drop p) w (hb.drop hp) (by omega)).mono ?_
  rintro e w' ⟨rfl, rfl⟩
  rw [hli]
  have hi0 : decide ((i : Int) < 0) = false := by simp
  clear hli
  go_wp2_with fail
  rw [show p + i + 1 - p = i + 1 from by omega]
  refine (isNumber_any _ (i + 1) _ ((zs.drop p).take (i + 1)) _ ((hb.drop hp).take (by omega)) (by omega) (by omega)).mono ?_
  rintro e w1 ⟨rfl, rfl⟩
  rw [HK.out]
  go_wp2_with fail
  rw [show p + i + 1 - p = i + 1 from by omega]
  refine (join_any _ (i + 1) _ ((zs.drop p).take (i + 1)) _ ((hb.drop hp).take (by omega)) (by omega) H11.out).mono ?_
  rintro e w2 ⟨rfl, rfl⟩
  go_wp2
  go_ret3
  exact ⟨rfl, rfl⟩
def rdU (l : List Int) : Nat × Nat × Nat :=
  match lastAt l with
  | none => (0, 0, 10)
  | some i => if okNum (l.take (i + 1)) then (val (l.take (i + 1)), i + 1, 0) else (0, 0, 7)

theorem uint_err (a : Option Addr) (k cap : Nat) (zs : List Int) (p er : Nat) (w : World) (hb : Bs w a k zs) (hk : k ≤ 70368744177664) (hkc : k ≤ cap) (hp : p ≤ k) (he : rdU (zs.drop p) = (0, 0, er)) (h0 : er ≠ 0) :
    Calls Try.prog 86 #[.slice a k cap, .int .i64 (p : Int)] w fun e w' => e = .returned (.tuple #[.int .u64 0, .int .i64 0, .int .u8 (er : Int)]) ∧ w' = w := by
  unfold rdU at he
  cases hl : lastAt (zs.drop p) with
  | none => rw [hl] at he; cases he; exact uint_end a k cap zs p w hb hk hkc hp hl
  | some i =>
    rw [hl] at he
    cases ho : okNum ((zs.drop p).take (i + 1)) with
    | true => simp [ho] at he
    | false => simp [ho] at he; subst he; exact uint_form a k cap zs p i w hb hk hkc hp hl ho

theorem uint_read (a : Option Addr) (k cap : Nat) (zs : List Int) (p v c : Nat) (w : World) (hb : Bs w a k zs) (hk : k ≤ 70368744177664) (hkc : k ≤ cap) (hp : p ≤ k) (he : rdU (zs.drop p) = (v, c, 0)) :
    Calls Try.prog 86 #[.slice a k cap, .int .i64 (p : Int)] w fun e w' => e = .returned (.tuple #[.int .u64 (v : Int), .int .i64 ((p + c : Nat) : Int), .int .u8 0]) ∧ w' = w := by
  unfold rdU at he
  cases hl : lastAt (zs.drop p) with
  | none => rw [hl] at he; cases he
  | some i =>
    rw [hl] at he
    cases ho : okNum ((zs.drop p).take (i + 1)) with
    | false => simp [ho] at he
    | true => simp [ho] at he; obtain ⟨rfl, rfl⟩ := he; exact uint_ok a k cap zs p i w hb hk hkc hp hl ho

theorem rdU_bounds {l : List Int} {v c : Nat} (hwf : ∀ z ∈ l, 0 ≤ z ∧ z ≤ 255) (h : rdU l = (v, c, 0)) : v < 2 ^ 64 ∧ 1 ≤ c ∧ c ≤ l.length ∧ c ≤ 10 := by
  unfold rdU at h
  cases hl : lastAt l with
  | none => rw [hl] at h; cases h
  | some i =>
    rw [hl] at h
    have h1 := lastAt_lt hl
    cases ho : okNum (l.take (i + 1)) with
    | false => simp [ho] at h
    | true =>
      simp [ho] at h
      obtain ⟨rfl, rfl⟩ := h
      have h2 := of_decide_eq_true ho
      have hlen : (l.take (i + 1)).length = i + 1 := by rw [List.length_take]; omega
      rw [hlen] at h2
      refine ⟨?_, by omega, by omega, by omega⟩
      rcases Nat.lt_or_ge i 9 with h9 | h9
      · have h3 := val_lt (l.take (i + 1))
        rw [hlen] at h3
        have h4 : 128 ^ (i + 1) ≤ 128 ^ 9 := Nat.pow_le_pow_right (by decide) (by omega)
        exact Nat.lt_of_lt_of_le h3 (Nat.le_trans h4 (by decide))
      · have e : i = 9 := by omega
        subst e
        have h5 := h2.2.1 rfl
        have h6 : 9 < l.length := h1.1
        have h7 : l.take (9 + 1) = l.take 9 ++ [l[9]] := List.take_succ_eq_append_getElem h6
        rw [h7, val_snoc]
        have h8 := val_lt (l.take 9)
        have h9 : (l.take 9).length = 9 := by rw [List.length_take]; omega
        rw [h9] at h8 ⊢
        have h10 : (l.take (9 + 1)).getD (9 + 1 - 1) 0 = l[9] := by simp [h6]
        rw [h10] at h5
        have h12 := hwf l[9] (List.getElem_mem h6)
        have h11 : (l[9] % 128).toNat ≤ 1 := by omega
        clear h1 h2 h5 h7 h9 h10 h12 ho hl hlen hwf
        generalize (l[9] % 128).toNat = t at *
        generalize val (l.take 9) = u at *
        have h13 : u < 9223372036854775808 := h8
        show u + t * 9223372036854775808 < 18446744073709551616
        clear h8
        omega

set_option maxRecDepth 100000 in
set_option maxHeartbeats 400000 in
theorem int_err (a : Option Addr) (k cap : Nat) (zs : List Int) (p er : Nat) (w : World) (hb : Bs w a k zs) (hk : k ≤ 70368744177664) (hkc : k ≤ cap) (hp : p ≤ k) (he : rdU (zs.drop p) = (0, 0, er)) (h0 : er ≠ 0) :
    Calls Try.prog 126 #[.slice a k cap, .int .i64 (p : Int)] w fun e w' => e = .returned (.tuple #[.int .i64 0, .int .i64 0, .int .u8 (er : Int)]) ∧ w' = w := by
  have hb0 : ((er : Int) != 0) = true := by simp; omega
  have HE : Hid (rdU (zs.drop p) = (0, 0, er)) := he
  clear he
  go_enter Try.func126, Try.ntmps126
  go_wp2_with fail
  refine (uint_err a k cap zs p er w hb hk hkc hp HE.out h0).mono ?_
  rintro e w1 ⟨rfl, rfl⟩
  go_wp2
  go_ret3
  exact ⟨rfl, rfl⟩

set_option maxRecDepth 100000 in
set_option maxHeartbeats 400000 in
theorem int_read (a : Option Addr) (k cap : Nat) (zs : List Int) (p v c : Nat) (w : World) (hb : Bs w a k zs) (hk : k ≤ 70368744177664) (hkc : k ≤ cap) (hp : p ≤ k) (he : rdU (zs.drop p) = (v, c, 0)) :
    Calls Try.prog 126 #[.slice a k cap, .int .i64 (p : Int)] w fun e w' => e = .returned (.tuple #[.int .i64 (unzz v), .int .i64 ((p + c : Nat) : Int), .int .u8 0]) ∧ w' = w := by
  have hv := (rdU_bounds (fun z hz => hb.2.1 z (List.mem_of_mem_drop hz)) he).1
  have HE : Hid (rdU (zs.drop p) = (v, c, 0)) := he
  clear he
  go_enter Try.func126, Try.ntmps126
  go_wp2_with fail
  refine (uint_read a k cap zs p v c w hb hk hkc hp HE.out).mono ?_
  rintro e w1 ⟨rfl, rfl⟩
  go_wp2_with fail
  refine (unfold_any v hv _).mono ?_
  rintro e w2 ⟨rfl, rfl⟩
  go_wp2
  go_ret3
  exact ⟨rfl, rfl⟩
def canon : List Int → Prop
  | [] => False
  | b :: r => match r with
    | [] => 0 < b ∧ b < 128
    | _ :: _ => 128 ≤ b ∧ b ≤ 255 ∧ canon r

theorem canon_cons {b : Int} {r : List Int} (hb : 128 ≤ b ∧ b ≤ 255) (hr : canon r) : canon (b :: r) := by
  cases r with
  | nil => cases hr
  | cons c t => exact ⟨hb.1, hb.2, hr⟩

theorem canon_ub : ∀ (k n : Nat), 0 < n → n < 128 ^ (k + 1) → canon (ub k n)
  | 0, n, h0, h => ⟨by omega, by omega⟩
  | k + 1, n, h0, h => by
    rw [ub]
    split
    · exact ⟨by omega, by omega⟩
    · exact canon_cons ⟨by omega, by omega⟩ (canon_ub k (n / 128) (by omega) (by rw [Nat.pow_succ] at h; exact Nat.div_lt_of_lt_mul (by omega)))

theorem val_ub : ∀ (k n : Nat), n < 128 ^ (k + 1) → val (ub k n) = n
  | 0, n, h => by simp [ub, val]; omega
  | k + 1, n, h => by
    rw [ub]
    split
    · simp [val]; omega
    · rw [val, val_ub k (n / 128) (by rw [Nat.pow_succ] at h; exact Nat.div_lt_of_lt_mul (by omega))]
      omega

theorem lastAt_canon : ∀ (m r : List Int), canon m → lastAt (m ++ r) = some (m.length - 1)
  | [], _, h => by cases h
  | [b], r, h => by rw [List.singleton_append, lastAt, if_pos h.2]; rfl
  | b :: c :: t, r, h => by
    rw [List.cons_append, lastAt, if_neg (by have := h.1; omega), lastAt_canon (c :: t) r h.2.2]
    simp
theorem lastAt_cut : ∀ (m : List Int) (j : Nat), canon m → j < m.length → lastAt (m.take j) = none
  | [], _, h, _ => by cases h
  | _, 0, _, _ => by rw [List.take_zero]; rfl
  | [b], j + 1, h, hj => by simp at hj
  | b :: c :: t, j + 1, h, hj => by
    rw [List.take_succ_cons, lastAt, if_neg (by have := h.1; omega), lastAt_cut (c :: t) j h.2.2 (by simpa using hj)]
    rfl
theorem canon_last : ∀ (m : List Int), canon m → 0 < m.getD (m.length - 1) 0 ∧ m.getD (m.length - 1) 0 < 128
  | [], h => by cases h
  | [b], h => h
  | b :: c :: t, h => by
    have := canon_last (c :: t) h.2.2
    simpa using this

theorem ubytes_zero : ubytes 0 = [0] := by decide

theorem getLast_split {m : List Int} (h : 0 < m.length) : m = m.take (m.length - 1) ++ [m.getD (m.length - 1) 0] := by
  have := List.take_succ_eq_append_getElem (l := m) (i := m.length - 1) (by omega)
  rw [show m.length - 1 + 1 = m.length by omega, List.take_length] at this
  have e : m.getD (m.length - 1) 0 = m[m.length - 1] := by simp [List.getD_eq_getElem?_getD, List.getElem?_eq_getElem (show m.length - 1 < m.length by omega)]
  rw [e]
  exact this

theorem okNum_ubytes {n : Nat} (hn : n < 2 ^ 64) : okNum (ubytes n) = true := by
  rcases Nat.eq_zero_or_pos n with h0 | h0
  · subst h0; rw [ubytes_zero]; decide
  · have hc : canon (ubytes n) := canon_ub 9 n h0 (by omega)
    have hl := ubytes_le n
    have hlast := canon_last _ hc
    refine decide_eq_true ⟨hl.2, fun h10 => ?_, .inl (by omega)⟩
    have hv : val (ubytes n) = n := val_ub 9 n (by omega)
    rw [getLast_split (m := ubytes n) (by omega), val_snoc, List.length_take, Nat.min_eq_left (by omega), h10] at hv
    rw [h10] at hlast ⊢
    generalize (ubytes n).getD (10 - 1) 0 = t at *
    generalize val (List.take (10 - 1) (ubytes n)) = u at *
    have hv' : u + (t % 128).toNat * 9223372036854775808 = n := hv
    have hn' : n < 18446744073709551616 := hn
    clear hv hn hl hc h10
    omega

theorem rdU_ubytes {n : Nat} (hn : n < 2 ^ 64) (r : List Int) : rdU (ubytes n ++ r) = (n, (ubytes n).length, 0) := by
  have hl := ubytes_le n
  have hlast : lastAt (ubytes n ++ r) = some ((ubytes n).length - 1) := by
    rcases Nat.eq_zero_or_pos n with h0 | h0
    · subst h0; rw [ubytes_zero]; rfl
    · exact lastAt_canon _ r (canon_ub 9 n h0 (by omega))
  unfold rdU
  rw [hlast]
  have e : (ubytes n).length - 1 + 1 = (ubytes n).length := by omega
  simp only [e, List.take_left', okNum_ubytes hn, if_true]
  rw [show val (ubytes n) = n from val_ub 9 n (by omega)]

theorem rdU_cut {n : Nat} (hn : n < 2 ^ 64) {j : Nat} (hj : j < (ubytes n).length) : rdU ((ubytes n).take j) = (0, 0, 10) := by
  have : lastAt ((ubytes n).take j) = none := by
    rcases Nat.eq_zero_or_pos n with h0 | h0
    · subst h0; rw [ubytes_zero] at *; simp at hj; subst hj; rfl
    · exact lastAt_cut _ j (canon_ub 9 n h0 (by omega)) hj
  unfold rdU
  rw [this]

theorem canon_val : ∀ (m : List Int), canon m → 0 < val m
  | [], h => by cases h
  | [b], h => by have := h.1; have := h.2; simp [val]; omega
  | b :: c :: t, h => by have := canon_val (c :: t) h.2.2; rw [val]; omega
theorem canon_same : ∀ (k : Nat) (m : List Int), canon m → m.length ≤ k + 1 → ub k (val m) = m
  | _, [], h, _ => by cases h
  | k, [b], h, _ => by
    have h1 := h.1
    have h2 := h.2
    have e : val [b] = b.toNat := by simp [val]; omega
    rw [e]
    cases k with
    | zero => simp [ub]; omega
    | succ k => rw [ub, if_pos (by omega)]; simp; omega
  | 0, b :: c :: t, _, hl => by simp at hl
  | k + 1, b :: c :: t, h, hl => by
    have h1 := h.1
    have h2 := h.2.1
    have hp := canon_val _ h.2.2
    have ih := canon_same k (c :: t) h.2.2 (by simpa using hl)
    have e : val (b :: c :: t) = (b % 128).toNat + 128 * val (c :: t) := rfl
    rw [e, ub, if_neg (by omega)]
    have e1 : ((b % 128).toNat + 128 * val (c :: t)) / 128 = val (c :: t) := by omega
    have e2 : ((128 + ((b % 128).toNat + 128 * val (c :: t)) % 128 : Nat) : Int) = b := by omega
    rw [e1, e2, ih]
theorem canon_of : ∀ (l : List Int) (i : Nat), (∀ z ∈ l, 0 ≤ z ∧ z ≤ 255) → lastAt l = some i → l.getD i 0 ≠ 0 → canon (l.take (i + 1))
  | [], i, _, h, _ => by cases h
  | b :: r, i, hwf, h, h0 => by
    have hb := hwf b (by simp)
    rw [lastAt] at h
    split at h
    · cases h
      simp at h0
      exact ⟨by omega, by assumption⟩
    · cases hr : lastAt r with
      | none => rw [hr] at h; cases h
      | some j =>
        rw [hr] at h; cases h
        rw [List.take_succ_cons]
        exact canon_cons ⟨by omega, hb.2⟩ (canon_of r j (fun z hz => hwf z (by simp [hz])) hr (by simpa using h0))

theorem rdU_same {l : List Int} {v c : Nat} (hwf : ∀ z ∈ l, 0 ≤ z ∧ z ≤ 255) (h : rdU l = (v, c, 0)) : ubytes v = l.take c := by
  unfold rdU at h
  cases hl : lastAt l with
  | none => rw [hl] at h; cases h
  | some i =>
    rw [hl] at h
    have h1 := lastAt_lt hl
    cases ho : okNum (l.take (i + 1)) with
    | false => simp [ho] at h
    | true =>
      simp [ho] at h
      obtain ⟨rfl, rfl⟩ := h
      have h2 := of_decide_eq_true ho
      have hlen : (l.take (i + 1)).length = i + 1 := by rw [List.length_take]; omega
      rw [hlen] at h2
      have e : (l.take (i + 1)).getD (i + 1 - 1) 0 = l.getD i 0 := by simp [List.getD_eq_getElem?_getD]
      rw [e] at h2
      by_cases h0 : l.getD i 0 = 0
      · have hi : i = 0 := by omega
        subst hi
        cases l with
        | nil => simp at h1
        | cons b r => simp at h0; subst h0; simp [val, ubytes_zero]
      · exact canon_same 9 _ (canon_of l i hwf hl h0) (by omega)
end Go.Proofs.Ytiammidklcjelaa
namespace Go.Proofs.Ytiammidklcjelaa
set_option linter.unusedVariables false
set_option linter.unusedSimpArgs false
theorem Tm.wt_pos (t : Tm) : 1 ≤ t.wt := by rw [Tm.wt_eq]; omega
theorem Tm.wt_parts (t : Tm) : (∀ s ∈ t.l, s.wt < t.wt) ∧ t.l.length < t.wt := by
  rw [Tm.wt_eq]
  exact ⟨fun s hs => by have := Tm.wts_mem hs; omega, by have := Tm.wts_len t.l; omega⟩
def wT : Tm → List Int
  | ⟨f, l⟩ => ubytes (zz f) ++ (if f < 0 then [] else ubytes l.length ++ (l.map wT).flatten)
theorem wT_var {t : Tm} (h : t.f < 0) : wT t = ubytes (zz t.f) := by
  cases t with
  | mk f l => rw [wT, if_pos h, List.append_nil]
theorem wT_sym {t : Tm} (h : ¬ t.f < 0) : wT t = ubytes (zz t.f) ++ (ubytes t.l.length ++ t.l.flatMap wT) := by
  cases t with
  | mk f l => rw [wT, if_neg h, List.flatMap_def]
def wL (l : Lt) : List Int := (if l.neg then 1 else 0) :: (wT l.a ++ wT l.b)
def wC (c : List Lt) : List Int := ubytes c.length ++ c.flatMap wL

def rN (most : Nat) (l : List Int) : Except Nat (Nat × Nat) := match rdU l with
  | (v, c, 0) => if v > most then .error 7 else .ok (v, c)
  | (_, _, e + 1) => .error (e + 1)
def rH (l : List Int) : Except Nat (Int × Nat) := match rdU l with
  | (v, c, 0) => if -2147483648 ≤ unzz v ∧ unzz v ≤ 2147483647 then .ok (unzz v, c) else .error 7
  | (_, _, e + 1) => .error (e + 1)
def rMany {α : Type} (g : List Int → Except Nat (α × Nat)) : Nat → List Int → Except Nat (List α × Nat)
  | 0, _ => .ok ([], 0)
  | n + 1, l => match g l with
    | .error e => .error e
    | .ok (x, c) => match rMany g n (l.drop c) with
      | .error e => .error e
      | .ok (xs, c') => .ok (x :: xs, c + c')
def rList {α : Type} (g : List Int → Except Nat (α × Nat)) (l : List Int) : Except Nat (List α × Nat) := match rN 4096 l with
  | .error e => .error e
  | .ok (n, c) => match rMany g n (l.drop c) with
    | .error e => .error e
    | .ok (xs, c') => .ok (xs, c + c')
def rT : Nat → List Int → Except Nat (Tm × Nat)
  | 0, _ => .error 7
  | d + 1, l => match rH l with
    | .error e => .error e
    | .ok (f, c) => if f < 0 then .ok (⟨f, []⟩, c) else match rList (rT d) (l.drop c) with
      | .error e => .error e
      | .ok (xs, c') => .ok (⟨f, xs⟩, c + c')
def rL (l : List Int) : Except Nat (Lt × Nat) := match rN 1 l with
  | .error e => .error e
  | .ok (n, c) => match rT 257 (l.drop c) with
    | .error e => .error e
    | .ok (a, c1) => match rT 257 (l.drop (c + c1)) with
      | .error e => .error e
      | .ok (b, c2) => .ok (⟨decide (n = 1), a, b⟩, c + c1 + c2)
def rC (l : List Int) : Except Nat (List Lt × Nat) := rList rL l

def wfB (l : List Int) : Prop := ∀ z ∈ l, 0 ≤ z ∧ z ≤ 255
theorem wfB.drop {l : List Int} (h : wfB l) (n : Nat) : wfB (l.drop n) := fun z hz => h z (List.mem_of_mem_drop hz)
def Rt {α : Type} (w : α → List Int) (l : List Int) (r : Except Nat (α × Nat)) : Prop := ∀ x c, r = .ok (x, c) → c ≤ l.length ∧ w x = l.take c
theorem rdU_len {l : List Int} {v c : Nat} (h : rdU l = (v, c, 0)) : c ≤ l.length := by
  unfold rdU at h
  cases hl : lastAt l with
  | none => rw [hl] at h; cases h
  | some i =>
    rw [hl] at h
    simp only at h
    split at h
    · cases h; have := (lastAt_lt hl).1; omega
    · cases h
theorem rN_back {most : Nat} {l : List Int} (hw : wfB l) : Rt ubytes l (rN most l) := fun x c h => by
  unfold rN at h
  split at h
  · rename_i v c' hr
    split at h
    · cases h
    · cases h; exact ⟨rdU_len hr, rdU_same hw hr⟩
  · cases h
theorem rH_back {l : List Int} (hw : wfB l) : Rt (fun f => ubytes (zz f)) l (rH l) := fun x c h => by
  unfold rH at h
  split at h
  · rename_i v c' hr
    split at h
    · cases h; exact ⟨rdU_len hr, by show ubytes (zz (unzz v)) = _; rw [zz_unzz]; exact rdU_same hw hr⟩
    · cases h
  · cases h
theorem take_two (l : List Int) (c c' : Nat) : l.take c ++ (l.drop c).take c' = l.take (c + c') := (List.take_add ..).symm
theorem rMany_back {α : Type} {g : List Int → Except Nat (α × Nat)} {w : α → List Int} (hg : ∀ l, wfB l → Rt w l (g l)) : ∀ (n : Nat) (l : List Int), wfB l → ∀ xs c, rMany g n l = .ok (xs, c) → c ≤ l.length ∧ xs.flatMap w = l.take c ∧ xs.length = n
  | 0, l, _, xs, c, h => by cases h; exact ⟨Nat.zero_le _, rfl, rfl⟩
  | n + 1, l, hw, xs, c, h => by
    rw [rMany] at h
    split at h
    · cases h
    · rename_i x c1 h1
      split at h
      · cases h
      · rename_i ys c2 h2
        cases h
        obtain ⟨a1, a2⟩ := hg l hw x c1 h1
        obtain ⟨b1, b2, b3⟩ := rMany_back hg n (l.drop c1) (hw.drop _) ys c2 h2
        rw [List.length_drop] at b1
        exact ⟨by omega, by rw [List.flatMap_cons, a2, b2, take_two], by rw [List.length_cons, b3]⟩
theorem rList_back {α : Type} {g : List Int → Except Nat (α × Nat)} {w : α → List Int} (hg : ∀ l, wfB l → Rt w l (g l)) {l : List Int} (hw : wfB l) : Rt (fun xs => ubytes xs.length ++ xs.flatMap w) l (rList g l) := fun x c h => by
  unfold rList at h
  split at h
  · cases h
  · rename_i n c1 h1
    split at h
    · cases h
    · rename_i ys c2 h2
      cases h
      obtain ⟨a1, a2⟩ := rN_back hw n c1 h1
      obtain ⟨b1, b2, b3⟩ := rMany_back hg n (l.drop c1) (hw.drop _) x c2 h2
      rw [List.length_drop] at b1
      exact ⟨by omega, by show ubytes x.length ++ x.flatMap w = _; rw [b3, a2, b2, take_two]⟩
theorem rT_back : ∀ (d : Nat) (l : List Int), wfB l → Rt wT l (rT d l)
  | 0, l, _ => fun x c h => by cases h
  | d + 1, l, hw => fun x c h => by
    rw [rT] at h
    split at h
    · cases h
    · rename_i f c1 h1
      obtain ⟨a1, a2⟩ := rH_back hw f c1 h1
      have a2 : ubytes (zz f) = l.take c1 := a2
      split at h
      · rename_i hf
        cases h
        exact ⟨a1, by rw [wT_var (t := ⟨f, []⟩) hf]; exact a2⟩
      · rename_i hf
        split at h
        · cases h
        · rename_i xs c2 h2
          cases h
          obtain ⟨b1, b2⟩ := rList_back (rT_back d) (hw.drop c1) xs c2 h2
          have b2 : ubytes xs.length ++ xs.flatMap wT = (l.drop c1).take c2 := b2
          rw [List.length_drop] at b1
          refine ⟨by omega, ?_⟩
          rw [wT_sym (t := ⟨f, xs⟩) hf]
          show ubytes (zz f) ++ (ubytes xs.length ++ xs.flatMap wT) = _
          rw [a2, b2, take_two]
theorem ub_one : ubytes 1 = [1] := by decide
theorem rL_back (l : List Int) (hw : wfB l) : Rt wL l (rL l) := fun x c h => by
  unfold rL at h
  split at h
  · cases h
  · rename_i n c1 h1
    split at h
    · cases h
    · rename_i a c2 h2
      split at h
      · cases h
      · rename_i b c3 h3
        cases h
        obtain ⟨a1, a2⟩ := rN_back hw n c1 h1
        obtain ⟨b1, b2⟩ := rT_back 257 (l.drop c1) (hw.drop _) a c2 h2
        obtain ⟨d1, d2⟩ := rT_back 257 (l.drop (c1 + c2)) (hw.drop _) b c3 h3
        rw [List.length_drop] at b1 d1
        have hn : n ≤ 1 := by
          unfold rN at h1
          split at h1
          · split at h1
            · cases h1
            · cases h1; omega
          · cases h1
        refine ⟨by omega, ?_⟩
        unfold wL
        show (if decide (n = 1) = true then 1 else 0) :: (wT a ++ wT b) = _
        rw [← take_two, ← take_two, ← a2, b2, d2, List.append_assoc]
        have : ubytes n = [if decide (n = 1) = true then 1 else 0] := by
          rcases Nat.lt_or_ge n 1 with h | h
          · obtain rfl : n = 0 := by omega
            exact ubytes_zero
          · obtain rfl : n = 1 := by omega
            exact ub_one
        rw [this]
        rfl
def Er {α : Type} (r : Except Nat (α × Nat)) : Prop := ∀ e, r = .error e → e = 7 ∨ e = 10
theorem rdU_er {l : List Int} {v c e : Nat} (h : rdU l = (v, c, e + 1)) : e + 1 = 7 ∨ e + 1 = 10 := by
  unfold rdU at h
  split at h
  · simp only [Prod.mk.injEq] at h; omega
  · split at h <;> simp only [Prod.mk.injEq] at h <;> omega
theorem rN_er {most : Nat} {l : List Int} : Er (rN most l) := fun e h => by
  unfold rN at h
  split at h
  · split at h
    · cases h; exact .inl rfl
    · cases h
  · rename_i hr; cases h; exact rdU_er hr
theorem rH_er {l : List Int} : Er (rH l) := fun e h => by
  unfold rH at h
  split at h
  · split at h
    · cases h
    · cases h; exact .inl rfl
  · rename_i hr; cases h; exact rdU_er hr
theorem rMany_er {α : Type} {g : List Int → Except Nat (α × Nat)} (hg : ∀ l, Er (g l)) : ∀ (n : Nat) (l : List Int), Er (rMany g n l)
  | 0, _ => fun e h => by cases h
  | n + 1, l => fun e h => by
    rw [rMany] at h
    split at h
    · rename_i h1; cases h; exact hg _ _ h1
    · split at h
      · rename_i h2; cases h; exact rMany_er hg n _ _ h2
      · cases h
theorem rList_er {α : Type} {g : List Int → Except Nat (α × Nat)} (hg : ∀ l, Er (g l)) (l : List Int) : Er (rList g l) := fun e h => by
  unfold rList at h
  split at h
  · rename_i h1; cases h; exact rN_er _ h1
  · split at h
    · rename_i h2; cases h; exact rMany_er hg _ _ _ h2
    · cases h
theorem rT_er : ∀ (d : Nat) (l : List Int), Er (rT d l)
  | 0, _ => fun e h => by cases h; exact .inl rfl
  | d + 1, l => fun e h => by
    rw [rT] at h
    split at h
    · rename_i h1; cases h; exact rH_er _ h1
    · split at h
      · cases h
      · split at h
        · rename_i h2; cases h; exact rList_er (rT_er d) _ _ h2
        · cases h
theorem rL_er (l : List Int) : Er (rL l) := fun e h => by
  unfold rL at h
  split at h
  · rename_i h1; cases h; exact rN_er _ h1
  · split at h
    · rename_i h2; cases h; exact rT_er _ _ _ h2
    · split at h
      · rename_i h3; cases h; exact rT_er _ _ _ h3
      · cases h
structure Thru {α : Type} (g : List Int → Except Nat (α × Nat)) (w : List Int) (x : α) : Prop where
  back : ∀ r, g (w ++ r) = .ok (x, w.length)
  cut : ∀ j, j < w.length → g (w.take j) = .error 10
theorem rN_tr {n most : Nat} (hn : n ≤ most) (h64 : n < 2 ^ 64) : Thru (rN most) (ubytes n) n :=
  ⟨fun r => by unfold rN; rw [rdU_ubytes h64 r]; simp only; rw [if_neg (by omega)], fun j hj => by unfold rN; rw [rdU_cut h64 hj]⟩
theorem rH_tr {f : Int} (h1 : -2147483648 ≤ f) (h2 : f ≤ 2147483647) : Thru rH (ubytes (zz f)) f := by
  have h64 : zz f < 2 ^ 64 := zz_lt f (by omega) (by omega)
  exact ⟨fun r => by unfold rH; rw [rdU_ubytes h64 r]; simp only; rw [unzz_zz, if_pos ⟨h1, h2⟩], fun j hj => by unfold rH; rw [rdU_cut h64 hj]⟩
theorem take_app_lt {u v : List Int} {j : Nat} (h : j < u.length) : (u ++ v).take j = u.take j := by
  rw [List.take_append_of_le_length (by omega)]
theorem take_app_ge {u v : List Int} {j : Nat} (h : u.length ≤ j) : (u ++ v).take j = u ++ v.take (j - u.length) := by
  rw [List.take_append, List.take_of_length_le h]
theorem rMany_tr {α β : Type} {g : List Int → Except Nat (α × Nat)} {w : β → List Int} {f : β → α} : ∀ (xs : List β), (∀ x ∈ xs, Thru g (w x) (f x)) → (∀ x ∈ xs, 0 < (w x).length) → Thru (rMany g xs.length) (xs.flatMap w) (xs.map f)
  | [], _, _ => ⟨fun r => rfl, fun j hj => by simp at hj⟩
  | x :: xs, h, h0 => by
    have hx := h x (by simp)
    have hx0 := h0 x (by simp)
    have ih := rMany_tr xs (fun y hy => h y (List.mem_cons_of_mem _ hy)) fun y hy => h0 y (List.mem_cons_of_mem _ hy)
    refine ⟨fun r => ?_, fun j hj => ?_⟩
    · rw [List.flatMap_cons, List.length_cons, rMany, List.append_assoc, hx.back]
      simp only
      rw [List.drop_left, ih.back]
      simp only [List.length_append, List.map_cons]
    · rw [List.flatMap_cons] at hj ⊢
      rw [List.length_cons, rMany]
      rcases Nat.lt_or_ge j (w x).length with h1 | h1
      · rw [take_app_lt h1, hx.cut j h1]
      · rw [take_app_ge h1, hx.back]
        simp only
        rw [List.length_append] at hj
        rw [List.drop_left, ih.cut _ (by omega)]
theorem rList_tr {α β : Type} {g : List Int → Except Nat (α × Nat)} {w : β → List Int} {f : β → α} (xs : List β) (hl : xs.length ≤ 4096) (h : ∀ x ∈ xs, Thru g (w x) (f x)) (h0 : ∀ x ∈ xs, 0 < (w x).length) : Thru (rList g) (ubytes xs.length ++ xs.flatMap w) (xs.map f) := by
  have hn := rN_tr (n := xs.length) (most := 4096) hl (by omega)
  have hm := rMany_tr xs h h0
  refine ⟨fun r => ?_, fun j hj => ?_⟩
  · unfold rList
    rw [List.append_assoc, hn.back]
    simp only
    rw [List.drop_left, hm.back]
    simp only [List.length_append]
  · unfold rList
    rcases Nat.lt_or_ge j (ubytes xs.length).length with h1 | h1
    · rw [take_app_lt h1, hn.cut j h1]
    · rw [take_app_ge h1, hn.back]
      simp only
      rw [List.length_append] at hj
      rw [List.drop_left, hm.cut _ (by omega)]
theorem ub_pos (n : Nat) : 0 < (ubytes n).length := by have := ubytes_le n; omega
theorem wT_pos (t : Tm) : 0 < (wT t).length := by
  have := ub_pos (zz t.f)
  by_cases h : t.f < 0
  · rw [wT_var h]; exact this
  · rw [wT_sym h, List.length_append]; omega
theorem rT_tr : ∀ (d : Nat) (t : Tm), t.sm → t.wt ≤ d → d ≤ 257 → Thru (rT d) (wT t) t.strip
  | 0, t, _, h, _ => by have := Tm.wt_pos t; omega
  | d + 1, t, hsm, hw, hd => by
    obtain ⟨h1, h2⟩ := (Tm.sm_iff t).1 hsm
    have hh := rH_tr (f := t.f) (by omega) (by omega)
    by_cases hf : t.f < 0
    · have e : t.strip = ⟨t.f, []⟩ := by rw [Tm.strip_eq, Tm.ps_of_var hf]; rfl
      rw [wT_var hf, e]
      refine ⟨fun r => ?_, fun j hj => ?_⟩
      · rw [rT, hh.back]; simp only; rw [if_pos hf]
      · rw [rT, hh.cut j hj]
    · have e : t.strip = ⟨t.f, t.l.map Tm.strip⟩ := by rw [Tm.strip_eq, Tm.ps_of_sym (by omega)]
      have hwl := Tm.wt_parts t
      have hl := rList_tr (g := rT d) (w := wT) (f := Tm.strip) t.l (by have := hwl.2; omega) (fun x hx => rT_tr d x (h2 x hx) (by have := hwl.1 x hx; omega) (by omega)) (fun x _ => wT_pos x)
      rw [wT_sym hf, e]
      refine ⟨fun r => ?_, fun j hj => ?_⟩
      · rw [rT, List.append_assoc, hh.back]
        simp only
        rw [if_neg hf, List.drop_left, hl.back]
        simp only [List.length_append]
      · rw [rT]
        rcases Nat.lt_or_ge j (ubytes (zz t.f)).length with h3 | h3
        · rw [take_app_lt h3, hh.cut j h3]
        · rw [take_app_ge h3, hh.back]
          simp only
          rw [List.length_append] at hj
          rw [if_neg hf, List.drop_left, hl.cut _ (by omega)]
theorem rL_tr {l : Lt} (ha : l.a.sm) (hb : l.b.sm) (h1 : l.a.wt ≤ 257) (h2 : l.b.wt ≤ 257) : Thru rL (wL l) l.strip := by
  have hn : Thru (rN 1) [if l.neg then (1 : Int) else 0] (if l.neg then 1 else 0) := by
    cases h : l.neg with
    | false => have := rN_tr (n := 0) (most := 1) (by omega) (by omega); rw [ubytes_zero] at this; exact this
    | true => have := rN_tr (n := 1) (most := 1) (by omega) (by omega); rw [ub_one] at this; exact this
  have hA := rT_tr 257 l.a ha h1 (by omega)
  have hB := rT_tr 257 l.b hb h2 (by omega)
  have e : wL l = [if l.neg then (1 : Int) else 0] ++ (wT l.a ++ wT l.b) := rfl
  have hneg : decide ((if l.neg then 1 else 0 : Nat) = 1) = l.neg := by cases l.neg <;> rfl
  rw [e]
  obtain ⟨s, hs⟩ : ∃ s, s = [if l.neg then (1 : Int) else 0] := ⟨_, rfl⟩
  have hs1 : s.length = 1 := by rw [hs]; rfl
  rw [← hs] at hn ⊢
  refine ⟨fun r => ?_, fun j hj => ?_⟩
  · unfold rL
    rw [List.append_assoc, hn.back]
    simp only
    rw [List.drop_left, List.append_assoc, hA.back]
    simp only
    rw [show s ++ (wT l.a ++ (wT l.b ++ r)) = (s ++ wT l.a) ++ (wT l.b ++ r) by rw [List.append_assoc], show s.length + (wT l.a).length = (s ++ wT l.a).length by rw [List.length_append], List.drop_left, hB.back]
    simp only [hneg, List.length_append]
    rw [Nat.add_assoc]
    rfl
  · unfold rL
    rcases Nat.lt_or_ge j s.length with h3 | h3
    · rw [take_app_lt h3, hn.cut j h3]
    · rw [take_app_ge h3, hn.back]
      simp only
      rw [List.length_append, List.length_append] at hj
      rw [List.drop_left]
      rcases Nat.lt_or_ge (j - s.length) (wT l.a).length with h4 | h4
      · rw [take_app_lt h4, hA.cut _ h4]
      · rw [take_app_ge h4, hA.back]
        simp only
        rw [show s ++ (wT l.a ++ (wT l.b).take (j - s.length - (wT l.a).length)) = (s ++ wT l.a) ++ (wT l.b).take (j - s.length - (wT l.a).length) by rw [List.append_assoc], show s.length + (wT l.a).length = (s ++ wT l.a).length by rw [List.length_append], List.drop_left, hB.cut _ (by omega)]
theorem wL_pos (l : Lt) : 0 < (wL l).length := by unfold wL; simp
theorem rC_tr {c : List Lt} (hl : c.length ≤ 4096) (h : ∀ l ∈ c, (l.a.sm ∧ l.b.sm) ∧ l.a.wt ≤ 257 ∧ l.b.wt ≤ 257) : Thru rC (wC c) (c.map Lt.strip) :=
  rList_tr (g := rL) (w := wL) (f := Lt.strip) c hl (fun l hm => rL_tr (h l hm).1.1 (h l hm).1.2 (h l hm).2.1 (h l hm).2.2) fun l _ => wL_pos l
end Go.Proofs.Ytiammidklcjelaa
namespace Go.Proofs.Ytiammidklcjelaa
open Go.RowKit
set_option linter.unusedVariables false
set_option linter.unusedSimpArgs false
set_option maxRecDepth 100000
abbrev by8 (z : Int) : CV := .sc (.int .u8 z)
theorem bys_size (l : List Int) : ∀ c ∈ l.map by8, c.size = 1 := by
  intro c hc
  obtain ⟨z, _, rfl⟩ := List.mem_map.1 hc
  rfl
theorem bys_at {l : List Int} {i : Nat} {z : Int} (h : l[i]? = some z) : (l.map by8)[i]? = some (by8 z) := by rw [List.getElem?_map, h]; rfl
theorem sq_bys {U : Nat → Nat → Prop} {w : World} : ∀ (l : List Int), Sq ((l.map by8).map fun c => Rep U w c) (cb l)
  | [] => rfl
  | z :: l => ⟨[.int .u8 z], cb l, rfl, rep_int _ _, sq_bys l⟩
theorem bys_sq {U : Nat → Nat → Prop} {w : World} : ∀ (l : List Int) {xs : List Value}, Sq ((l.map by8).map fun c => Rep U w c) xs → xs = cb l
  | [], xs, h => h
  | z :: l, xs, ⟨ys, zs, e, h1, h2⟩ => by
    obtain ⟨rfl, _⟩ := rep_sc.1 h1
    rw [e, bys_sq l h2]
    rfl
theorem bs_of_vrep {U : Nat → Nat → Prop} {w : World} {l : List Int} {v : Value} (hw : wfB l) (h : VRep U w (.lst (l.map by8)) v) : ∃ a n c, v = .slice a n c ∧ n ≤ c ∧ (a = none → n = 0 ∧ c = 0) ∧ Bs w a n l ∧ n = l.length := by
  obtain ⟨a, n, c, rfl, h2, h3, h4, h5, xs, h6, h7⟩ := vrep_lst.1 h
  have e := bys_sq l h7
  subst e
  rw [List.length_map] at h2
  refine ⟨a, n, c, rfl, h3, h5, ⟨h2.symm, hw, ?_⟩, h2⟩
  rcases h6 with h6 | ⟨b, off, h6, h8⟩
  · left
    have : l = [] := by
      cases l with
      | nil => rfl
      | cons z l => cases h6
    rw [h2, this]; rfl
  · by_cases h0 : n = 0
    · exact .inl h0
    · right
      have hlen : (cb l).length = n := by unfold cb; rw [List.length_map]; exact h2.symm
      refine ⟨b, off, h6, ?_, fun i hi => ?_⟩
      · have := (h8 0 (by omega)).2
        rw [List.getElem?_eq_getElem (by omega)] at this
        exact World.block_lt_of_cell? w _ this
      · have := (h8 i (by omega)).2
        rw [this]
        unfold cb
        rw [List.getElem?_map, List.getElem?_eq_getElem (by omega)]
        show some (Value.int .u8 l[i]) = _
        rw [List.getD_eq_getElem?_getD, List.getElem?_eq_getElem (by omega)]
        rfl
def gU (zs : List Int) (p : Int) : Int × Int × Int :=
  if p < 0 ∨ p > zs.length then (0, 0, 1) else match rdU (zs.drop p.toNat) with
    | (v, c, 0) => (v, p + c, 0)
    | (_, _, e + 1) => (0, 0, ((e + 1 : Nat) : Int))
def gI (zs : List Int) (p : Int) : Int × Int × Int :=
  if p < 0 ∨ p > zs.length then (0, 0, 1) else match rdU (zs.drop p.toNat) with
    | (v, c, 0) => (unzz v, p + c, 0)
    | (_, _, e + 1) => (0, 0, ((e + 1 : Nat) : Int))
theorem rdU_zero {l : List Int} {v c e : Nat} (h : rdU l = (v, c, e + 1)) : v = 0 ∧ c = 0 := by
  unfold rdU at h
  split at h
  · simp only [Prod.mk.injEq] at h; omega
  · split at h
    · cases h
    · simp only [Prod.mk.injEq] at h; omega
theorem tup3 {U : Nat → Nat → Prop} {w : World} {x y z : Value} (hx : x.oneCell' = true) (hy : y.oneCell' = true) (hz : z.oneCell' = true) : RR U w (.tup [.sc x, .sc y, .sc z]) (.tuple #[x, y, z]) :=
  ⟨[x, y, z], rfl, ⟨_, _, rfl, vrep_sc.2 ⟨rfl, hx⟩, _, _, rfl, vrep_sc.2 ⟨rfl, hy⟩, _, _, rfl, vrep_sc.2 ⟨rfl, hz⟩, rfl⟩⟩
-- 
theorem cUintA_abs (W : World) (zs : List Int) (hl : zs.length ≤ 1000000) (p : Int) (h : p < 0 ∨ p > zs.length) : AFun Try.prog W 86 [.lst (zs.map by8), .i p] (.tup [.sc (.int .u64 0), .i 0, .sc (.int .u8 1)]) := by
  refine afun_of (rs := [.sc (.int .u64 0), .i 0, .sc (.int .u8 1)]) Try.func86 Try.ntmps86 rfl rfl rfl rfl ?_
  intro w U hW
  refine aS (aR ?_)
  (refine nx (aA (gN rfl) rfl rfl rfl rfl rfl) rfl ?_)
  (refine nx (aA (gN rfl) rfl rfl rfl rfl rfl) rfl ?_)
  (refine nx (aA (gN rfl) rfl rfl rfl rfl rfl) rfl ?_)
  show AWp _ _ _ _ _ _ _
  by_cases h0 : p < 0
  · have g0 : decide (p < 0) = true := by simpa using h0
    refine aS (aS (aR ?_))
    (refine nx (aM (gN rfl) rfl rfl rfl rfl rfl) rfl ?_)
    (refine nx (a_lss (gN rfl) rfl rfl rfl rfl rfl rfl) rfl ?_)
    (refine nx (aM (gN rfl) rfl rfl rfl rfl rfl) rfl ?_)
    (refine ⟨_, _, _, a_off (go_off rfl rfl rfl rfl (by first | rfl | assumption | (simp; done) | (simp [*]; done))) rfl rfl rfl, rfl, ?_⟩)
    (refine ⟨_, _, _, a_off (go_off rfl rfl rfl rfl (by first | rfl | assumption | (simp; done) | (simp [*]; done))) rfl rfl rfl, rfl, ?_⟩)
    (refine ⟨_, _, _, a_off (go_off rfl rfl rfl rfl (by first | rfl | assumption | (simp; done) | (simp [*]; done))) rfl rfl rfl, rfl, ?_⟩)
    (refine ⟨_, _, _, a_off (go_off rfl rfl rfl rfl (by first | rfl | assumption | (simp; done) | (simp [*]; done))) rfl rfl rfl, rfl, ?_⟩)
    (refine ⟨_, _, _, aPt (gN rfl) rfl rfl rfl rfl rfl ?hb rfl, rfl, ?_⟩; case hb => (first | rfl | assumption | (simp; done)))
    show AWp _ _ _ _ _ _ _
    refine aC rfl (fun hc => ?_) (fun hc => by cases hc)
    refine aS (aR ?_)
    (refine nx (aA (gN rfl) rfl rfl rfl rfl rfl) rfl ?_)
    (refine nx (aA (gN rfl) rfl rfl rfl rfl rfl) rfl ?_)
    (refine nx (aA (gN rfl) rfl rfl rfl rfl rfl) rfl ?_)
    show AWp _ _ _ _ _ _ _
    exact aT (And.intro (.inr rfl) rfl)
  · have g0 : decide (p < 0) = false := by simpa using h0
    refine aS (aS (aR ?_))
    (refine nx (aM (gN rfl) rfl rfl rfl rfl rfl) rfl ?_)
    (refine nx (a_lss (gN rfl) rfl rfl rfl rfl rfl rfl) rfl ?_)
    (refine nx (aM (gN rfl) rfl rfl rfl rfl rfl) rfl ?_)
    (refine nx (aM (gd_on rfl rfl rfl rfl (by first | rfl | assumption | (simp; done))) rfl rfl rfl rfl rfl) rfl ?_)
    (refine nx (aM (gd_on rfl rfl rfl rfl (by first | rfl | assumption | (simp; done))) rfl rfl rfl rfl rfl) rfl ?_)
    (refine nx (a_len (gd_on rfl rfl rfl rfl (by first | rfl | assumption | (simp; done))) rfl rfl rfl rfl rfl rfl rfl) rfl ?_)
    (refine nx (a_gtr (gd_on rfl rfl rfl rfl (by first | rfl | assumption | (simp; done))) rfl rfl rfl rfl rfl rfl) rfl ?_)
    (refine ⟨_, _, _, aPf (gN rfl) rfl rfl rfl rfl rfl ?hb rfl, rfl, ?_⟩; case hb => (first | rfl | assumption | (simp; done)))
    show AWp _ _ _ _ _ _ _
    refine aC rfl (fun hc => ?_) (fun hc => ?_)
    · refine aS (aR ?_)
      (refine nx (aA (gN rfl) rfl rfl rfl rfl rfl) rfl ?_)
      (refine nx (aA (gN rfl) rfl rfl rfl rfl rfl) rfl ?_)
      (refine nx (aA (gN rfl) rfl rfl rfl rfl rfl) rfl ?_)
      show AWp _ _ _ _ _ _ _
      exact aT (And.intro (.inr rfl) rfl)
    · exfalso
      have hc := of_decide_eq_false hc
      rw [List.length_map] at hc
      omega
-- 
theorem cIntA_abs (W : World) (zs : List Int) (hl : zs.length ≤ 1000000) (p : Int) (h : p < 0 ∨ p > zs.length) : AFun Try.prog W 126 [.lst (zs.map by8), .i p] (.tup [.i 0, .i 0, .sc (.int .u8 1)]) := by
  refine afun_of (rs := [.i 0, .i 0, .sc (.int .u8 1)]) Try.func126 Try.ntmps126 rfl rfl rfl rfl ?_
  intro w U hW
  refine aS (aR ?_)
  (refine nx (aA (gN rfl) rfl rfl rfl rfl rfl) rfl ?_)
  (refine nx (aA (gN rfl) rfl rfl rfl rfl rfl) rfl ?_)
  (refine nx (aA (gN rfl) rfl rfl rfl rfl rfl) rfl ?_)
  show AWp _ _ _ _ _ _ _
  refine aS (aR ?_)
  (refine nx (aM (gN rfl) rfl rfl rfl rfl rfl) rfl ?_)
  (refine nx (aM (gN rfl) rfl rfl rfl rfl rfl) rfl ?_)
  (refine nx (a_call (gN rfl) rfl rfl rfl rfl rfl (cUintA_abs w zs hl p h)) rfl ?_)
  (refine nx (aM (gN rfl) rfl rfl rfl rfl rfl) rfl ?_)
  (refine nx (aX (gN rfl) rfl rfl rfl rfl rfl rfl) rfl ?_)
  (refine nx (aX (gN rfl) rfl rfl rfl rfl rfl rfl) rfl ?_)
  (refine nx (aX (gN rfl) rfl rfl rfl rfl rfl rfl) rfl ?_)
  (refine nx (aA (gN rfl) rfl rfl rfl rfl rfl) rfl ?_)
  (refine nx (aA (gN rfl) rfl rfl rfl rfl rfl) rfl ?_)
  (refine nx (aA (gN rfl) rfl rfl rfl rfl rfl) rfl ?_)
  show AWp _ _ _ _ _ _ _
  refine aS (aS (aR ?_))
  (refine nx (aM (gN rfl) rfl rfl rfl rfl rfl) rfl ?_)
  (refine nx (a_neq (gN rfl) rfl rfl rfl rfl rfl rfl) rfl ?_)
  show AWp _ _ _ _ _ _ _
  refine aC rfl (fun hc => ?_) (fun hc => by cases hc)
  refine aS (aR ?_)
  (refine nx (aM (gN rfl) rfl rfl rfl rfl rfl) rfl ?_)
  (refine nx (aA (gN rfl) rfl rfl rfl rfl rfl) rfl ?_)
  (refine nx (aA (gN rfl) rfl rfl rfl rfl rfl) rfl ?_)
  (refine nx (aA (gN rfl) rfl rfl rfl rfl rfl) rfl ?_)
  show AWp _ _ _ _ _ _ _
  exact aT (And.intro (.inr rfl) rfl)
theorem cUint_abs (W : World) (zs : List Int) (hw : wfB zs) (hl : zs.length ≤ 1000000) (p : Int) : AFun Try.prog W 86 [.lst (zs.map by8), .i p] (.tup [.sc (.int .u64 (gU zs p).1), .i (gU zs p).2.1, .sc (.int .u8 (gU zs p).2.2)]) := by
  by_cases hp : p < 0 ∨ p > zs.length
  · have e : gU zs p = (0, 0, 1) := by unfold gU; rw [if_pos hp]
    rw [e]
    exact cUintA_abs W zs hl p hp
  refine ⟨ent_of Try.func86 rfl rfl, .inr rfl, rfl, ?_⟩
  rintro U w vs _ ⟨u1, us1, rfl, g1, u2, us2, rfl, g2, g3⟩
  have g3 : us2 = [] := g3
  subst g3
  obtain ⟨a, n, c, rfl, hc, hnil, hb, hn⟩ := bs_of_vrep hw g1
  obtain ⟨rfl, _⟩ := vrep_sc.1 g2
  obtain ⟨q, rfl⟩ : ∃ q : Nat, p = q := ⟨p.toNat, by omega⟩
  obtain ⟨⟨v, c1, e1⟩, hr⟩ : ∃ r, rdU (zs.drop q) = r := ⟨_, rfl⟩
  have eg : gU zs q = match rdU (zs.drop q) with
    | (v, c, 0) => ((v : Int), ((q : Int) + c), 0)
    | (_, _, e + 1) => (0, 0, ((e + 1 : Nat) : Int)) := by unfold gU; rw [if_neg hp]; rfl
  rw [hr] at eg
  cases e1 with
  | zero =>
    rw [eg]
    refine (uint_read a n c zs q v c1 w hb (by omega) hc (by omega) hr).mono ?_
    rintro e w' ⟨rfl, rfl⟩
    exact ⟨_, rfl, by rw [Int.natCast_add]; exact tup3 rfl rfl rfl, Below.refl _ _⟩
  | succ e1 =>
    rw [eg]
    obtain ⟨rfl, rfl⟩ := rdU_zero hr
    refine (uint_err a n c zs q (e1 + 1) w hb (by omega) hc (by omega) hr (by omega)).mono ?_
    rintro e w' ⟨rfl, rfl⟩
    exact ⟨_, rfl, tup3 rfl rfl rfl, Below.refl _ _⟩
theorem cInt_abs (W : World) (zs : List Int) (hw : wfB zs) (hl : zs.length ≤ 1000000) (p : Int) : AFun Try.prog W 126 [.lst (zs.map by8), .i p] (.tup [.i (gI zs p).1, .i (gI zs p).2.1, .sc (.int .u8 (gI zs p).2.2)]) := by
  by_cases hp : p < 0 ∨ p > zs.length
  · have e : gI zs p = (0, 0, 1) := by unfold gI; rw [if_pos hp]
    rw [e]
    exact cIntA_abs W zs hl p hp
  refine ⟨ent_of Try.func126 rfl rfl, .inr rfl, rfl, ?_⟩
  rintro U w vs _ ⟨u1, us1, rfl, g1, u2, us2, rfl, g2, g3⟩
  have g3 : us2 = [] := g3
  subst g3
  obtain ⟨a, n, c, rfl, hc, hnil, hb, hn⟩ := bs_of_vrep hw g1
  obtain ⟨rfl, _⟩ := vrep_sc.1 g2
  obtain ⟨q, rfl⟩ : ∃ q : Nat, p = q := ⟨p.toNat, by omega⟩
  obtain ⟨⟨v, c1, e1⟩, hr⟩ : ∃ r, rdU (zs.drop q) = r := ⟨_, rfl⟩
  have eg : gI zs q = match rdU (zs.drop q) with
    | (v, c, 0) => (unzz v, ((q : Int) + c), 0)
    | (_, _, e + 1) => (0, 0, ((e + 1 : Nat) : Int)) := by unfold gI; rw [if_neg hp]; rfl
  rw [hr] at eg
  cases e1 with
  | zero =>
    rw [eg]
    refine (int_read a n c zs q v c1 w hb (by omega) hc (by omega) hr).mono ?_
    rintro e w' ⟨rfl, rfl⟩
    exact ⟨_, rfl, by rw [Int.natCast_add]; exact tup3 rfl rfl rfl, Below.refl _ _⟩
  | succ e1 =>
    rw [eg]
    obtain ⟨rfl, rfl⟩ := rdU_zero hr
    refine (int_err a n c zs q (e1 + 1) w hb (by omega) hc (by omega) hr (by omega)).mono ?_
    rintro e w' ⟨rfl, rfl⟩
    exact ⟨_, rfl, tup3 rfl rfl rfl, Below.refl _ _⟩
theorem vrep_own {U : Nat → Nat → Prop} {w : World} {B : Nat} {v : Value} {zs : List Int} (h : Own w B v zs) : VRep (fun b o => U b o ∨ B ≤ b) w (.lst (zs.map by8)) v := by
  obtain ⟨va, vc, rfl, e2, e3, e4, e5⟩ := ownsRow_cs h.1
  refine vrep_lst.2 ⟨va, _, vc, rfl, by simp, e2, e3, e4, cb zs, ?_, sq_bys _⟩
  rcases e5 with h0 | ⟨b, off, ha, hlt, hc⟩
  · left
    exact h0
  · refine .inr ⟨b, off, ha, fun i hi => ⟨.inr ?_, hc i hi⟩⟩
    subst ha
    rcases h.1.2 with ⟨h3, _⟩ | ⟨g, cap, cur, h3, hb', _⟩
    · cases h3
    · cases h3; exact hb'
theorem cPutU_abs (W : World) (n : Nat) (hn : n < 2 ^ 64) : AFun Try.prog W 53 [.lst [], .sc (.int .u64 (n : Int))] (.val (.lst ((ubytes n).map by8))) := by
  refine ⟨ent_of Try.func53 rfl rfl, .inl rfl, rfl, ?_⟩
  rintro U w vs _ ⟨u1, us1, rfl, g1, u2, us2, rfl, g2, g3⟩
  have g3 : us2 = [] := g3
  subst g3
  obtain ⟨a, k, c, rfl, hc, hnil, hb, hk⟩ := bs_of_vrep (l := []) (fun z hz => by cases hz) g1
  obtain ⟨rfl, _⟩ := vrep_sc.1 g2
  refine (putUint_any a k c [] n hn w hnil hb (by rw [hk]; decide)).mono ?_
  rintro e w' ⟨v, rfl, ho, hB⟩
  exact ⟨_, rfl, vrep_own ho, hB⟩
theorem cPutI_abs (W : World) (n : Int) (h1 : -9223372036854775808 ≤ n) (h2 : n < 9223372036854775808) : AFun Try.prog W 54 [.lst [], .i n] (.val (.lst ((ubytes (zz n)).map by8))) := by
  refine ⟨ent_of Try.func54 rfl rfl, .inl rfl, rfl, ?_⟩
  rintro U w vs _ ⟨u1, us1, rfl, g1, u2, us2, rfl, g2, g3⟩
  have g3 : us2 = [] := g3
  subst g3
  obtain ⟨a, k, c, rfl, hc, hnil, hb, hk⟩ := bs_of_vrep (l := []) (fun z hz => by cases hz) g1
  obtain ⟨rfl, _⟩ := vrep_sc.1 g2
  refine (putInt_any a k c [] n h1 h2 w hnil hb (by rw [hk]; decide)).mono ?_
  rintro e w' ⟨v, rfl, ho, hB⟩
  exact ⟨_, rfl, vrep_own ho, hB⟩
end Go.Proofs.Ytiammidklcjelaa
namespace Go.Proofs.Ytiammidklcjelaa
open Go.RowKit
set_option linter.unusedVariables false
set_option linter.unusedSimpArgs false
section
variable {P : Program} {w0 : World} {U0 : UX} {nt : Nat} {ops : Array Oper} {o : Oper} {S : Nat → Option AV} {gs : List Nat} {d : Nat} {s : AS} {a : Act} {w : World} {D : Nat → Nat → Prop} {hv : Nat → Value}

def aggA (av : AV) : Bool := match Nat.beq av.t 0 with | true => Nat.beq av.c.k 2 | false => false
def fldB (av : AV) : Bool := Nat.beq av.t 0 || Nat.beq av.t 2 || Nat.beq av.t 11 || Nat.beq av.t 12 || Nat.beq av.t 15
def zeroAV (c : CV) : AV := ⟨0, c, match isNilC c with | true => 1 | false => 0, 0, []⟩
noncomputable def fldsA (d : Nat) : List CV → Nat → AS
  | [], _ => []
  | c :: cs, o => (fKey d o, zeroAV c) :: fldsA d cs (o + c.size)
end
end Go.Proofs.Ytiammidklcjelaa
namespace Go.Proofs.Ytiammidklcjelaa
open Go.RowKit Go.MapKept
set_option linter.unusedVariables false
set_option linter.unusedSimpArgs false
section
variable {P : Program} {w0 : World} {U0 : UX} {nt : Nat} {ops : Array Oper} {o : Oper} {S : Nat → Option AV} {gs : List Nat} {d : Nat} {s : AS} {a : Act} {w : World} {D : Nat → Nat → Prop} {hv : Nat → Value}
def IntKeys (k : IntKind) (l : List CV) : Prop := ∀ r ∈ l, ∃ i c, r = .row [.sc (.int k i), c]
def lookR (k : IntKind) (i : Int) : List CV → Option CV
  | [] => none
  | ⟨_, _, [⟨_, .int k' j, _⟩, c]⟩ :: l => if k' = k ∧ j = i then some c else lookR k i l
  | _ :: l => lookR k i l
def putR (k : IntKind) (i : Int) (c : CV) : List CV → List CV
  | [] => [.row [.sc (.int k i), c]]
  | r :: l => match r with
    | ⟨_, _, [⟨_, .int k' j, _⟩, _]⟩ => if k' = k ∧ j = i then .row [.sc (.int k i), c] :: l else r :: putR k i c l
    | _ => r :: putR k i c l
end
end Go.Proofs.Ytiammidklcjelaa
namespace Go.Proofs.Ytiammidklcjelaa
open Go.RowKit
set_option linter.unusedVariables false
set_option linter.unusedSimpArgs false
section
variable {P : Program} {w0 : World} {U0 : UX} {nt : Nat} {ops : Array Oper} {o : Oper} {S : Nat → Option AV} {gs : List Nat} {d : Nat} {s : AS} {a : Act} {w : World} {D : Nat → Nat → Prop} {hv : Nat → Value}

theorem AOp.plain {R : List Nat} {N : List (Nat × List Nat)} {c : CV} {n q : Nat} {p : List Nat} (h5 : Nat.blt d 100000 = true) (h : AOp P w0 U0 nt ops o R N S [(d, ⟨0, c, n, q, p⟩)]) : AOp P w0 U0 nt ops o R N S [(d, .val c)] := by
  intro s hs hN a w hsim Q K hK
  refine h s hs hN a w hsim Q K fun a' w' hs' => hK a' w' ?_
  obtain ⟨D, hv, hg⟩ := hs'
  obtain ⟨v, g1, g2⟩ := hg.slot d _ (lS _ _ _) (bL h5)
  refine ⟨D, hv, (hg.know (bL h5) g1 (avrep_val g2.1)).congr fun k => ?_⟩
  show look ((d, AV.val c) :: s) k = look ((d, AV.val c) :: (d, _) :: s) k
  rw [look_cons, look_cons, look_cons]
  split <;> rfl
theorem a_buildP (hg : Gd w0 U0 nt ops o gs S) (hd : o.dst = some d) (hn : Nat.blt d nt = true) (h5 : Nat.blt d 100000 = true) {t : TypeId} {parts : Array (Nat × Operand)} {fs : Array Field} {it : TypeInfo} {cs : Array Value} {sz : List Nat} {zs r : List CV} {n : Nat} {p : List Nat} (ho : o.op = .build t parts) (hu : P.underlying t = some (.struct fs)) (hi : P.info? t = some it) (hz : it.zero = some (.agg cs)) (hsz : szO P fs.toList 0 = some sz) (h0 : zsO sz cs.toList = some zs) (hr : setsO S parts.toList zs = some r) (hp : nilB zs parts.toList 0 = (n, p)) :
    AOp P w0 U0 nt ops o (gs ++ rds parts.toList) [] S [(d, .val (.row r))] := (a_build hg hd hn h5 ho hu hi hz hsz h0 hr hp).plain h5

end
section
variable {P : Program} {w0 : World} {U0 : UX} {nt : Nat} {ops : Array Oper} {o : Oper} {S : Nat → Option AV} {gs : List Nat} {d : Nat} {s : AS} {a : Act} {w : World} {D : Nat → Nat → Prop} {hv : Nat → Value}
def noMref (s : AS) (n : Nat) : Bool := s.all fun p => !((Nat.beq p.2.t 15 || Nat.beq p.2.t 19) && Nat.beq p.2.n n)
def SameS (S : Nat → Option AV) (ks : List Nat) : AS → Prop
  | [] => True
  | (k, av) :: l => (hasN ks k = true ∨ S k = some av) ∧ SameS S ks l
theorem SameS.look {ks : List Nat} : ∀ {l : AS}, SameS S ks l → ∀ {k av}, look l k = some av → hasN ks k = false → S k = some av
  | [], _, k, av, h, _ => by cases h
  | (k', av') :: l, ⟨h1, h2⟩, k, av, h, hn => by
    rw [look_cons] at h
    split at h
    · rename_i e
      subst e
      cases h
      rcases h1 with h1 | h1
      · rw [h1] at hn; cases hn
      · exact h1
    · exact SameS.look h2 h hn
end
section
variable {P : Program} {w0 : World} {U0 : UX} {nt : Nat} {ops : Array Oper} {o : Oper} {S : Nat → Option AV} {gs : List Nat} {d : Nat} {s : AS} {a : Act} {w : World} {D : Nat → Nat → Prop} {hv : Nat → Value}
theorem SimG.forget (h : SimG w0 U0 nt s a w D hv) {d : Nat} (h5 : d < 100000) (hd : d < nt) : SimG w0 U0 nt ((d, .no) :: s) a w D hv := by
  have hdn : d < a.tmps.size := by rw [h.size]; exact hd
  exact h.know h5 (Array.getElem?_eq_getElem hdn) trivial
def noL (ds : List Nat) : AS := ds.map fun d => (d, AV.no)
theorem SimG.forgets : ∀ {ds : List Nat}, SimG w0 U0 nt s a w D hv → (∀ d ∈ ds, d < 100000 ∧ d < nt) → SimG w0 U0 nt (noL ds ++ s) a w D hv
  | [], h, _ => h
  | d :: ds, h, hd => (SimG.forgets h fun x hx => hd x (List.mem_cons_of_mem _ hx)).forget (hd d (by simp)).1 (hd d (by simp)).2
theorem look_noL : ∀ {ds : List Nat} {k : Nat} {av : AV}, look (noL ds ++ s) k = some av → (k ∈ ds ∧ av = .no) ∨ (hasN ds k = false ∧ look s k = some av)
  | [], k, av, h => .inr ⟨rfl, h⟩
  | d :: ds, k, av, h => by
    have h : look ((d, AV.no) :: (noL ds ++ s)) k = some av := h
    rw [look_cons] at h
    split at h
    · rename_i e; cases h; exact .inl ⟨by rw [e]; simp, rfl⟩
    · rename_i e
      rcases look_noL h with ⟨h1, h2⟩ | ⟨h1, h2⟩
      · exact .inl ⟨List.mem_cons_of_mem _ h1, h2⟩
      · refine .inr ⟨?_, h2⟩
        show (Nat.beq d k || hasN ds k) = false
        rw [h1, Bool.or_false]
        cases e2 : Nat.beq d k with
        | false => rfl
        | true => exact absurd (Nat.eq_of_beq_eq_true e2) e
theorem a_callOD (ds : List Nat) {f : FuncId} {xs : Array Operand} {ts : Array TypeId} {avs : List AV} {r : AV} {pre post : AS} (hg : Gd w0 U0 nt ops o gs S) (hd : o.dst = some d) (hn : Nat.blt d nt = true) (h5 : Nat.blt d 100000 = true)
    (ho : o.op = .call { callee := .value (.func f), args := xs, argTypes := ts }) (hx : evsA S xs.toList = some avs) (hc : AFunO P f pre avs r post) (hp : SubS S pre) (hl : pre.all lendB = true) (hq : post.all (leaveB (kO post)) = true) (hks : (kO pre).all (hasN (kO post)) = true) (hr : refB (kO post) r = true) (hnb : ∀ k v, U0.f k = some v → hasN (kO post) k = true → hasN (kO pre) k = true) (hds : (ds.all fun x => Nat.blt x nt && Nat.blt x 100000) = true) (hpk : (kO pre).all (Nat.ble 100000) = true) (hnm : ((newN (kO pre) (kO post) (kO post)).all fun q => !Nat.beq q.1 0 && (!Nat.beq q.1 100000 && !Nat.beq q.1 1100000)) = true) :
    AOp P w0 U0 nt ops o (gs ++ (rdl xs.toList ++ kO pre)) ((newN (kO pre) (kO post) (kO post)).map fun q => (q.1, ds ++ q.2)) S ((d, r) :: (post ++ noL ds)) := by
  intro s hs hN a w ⟨D, hv, h⟩ Q K hK
  rw [if_pos (hg s (fun k hk => hs k (List.mem_append_left _ hk)) a w D hv h)]
  have hargs := evsA_rep h (fun k hk => hs k (List.mem_append_right _ (List.mem_append_left _ hk))) hx
  have hsub : Sub s pre := fun k av h1 => (hs k (List.mem_append_right _ (List.mem_append_right _ (mem_keys h1)))).trans (hp.look h1)
  obtain ⟨V, v1, v2, v3, v4, v5, v6⟩ := h.lend hsub hl
  obtain ⟨h1, h2⟩ := hc
  have hcall := h2 V w hv ⟨#[], []⟩ _ v1 v2 (hargs.imp fun c _ v hcv => hcv.move v6 (fun _ h3 => h3.imp id fun ⟨e, he⟩ => ⟨e, hsub _ _ he.1, he.2⟩) fun _ => rfl)
  have he : (execOp a.eval o).run P w = .ok (.enter f (xs.toList.map a.eval).toArray) w := by
    have hf : a.eval (.func f) = .func (.func f) #[] #[] := rfl
    have hen := h1 (xs.map a.eval) w
    have harr : (xs.toList.map a.eval).toArray = xs.map a.eval := by apply Array.ext'; simp
    rw [harr]
    generalize a.eval = ρ at hf hen ⊢
    simp [execOp, ho, resolve, invoke, Deferred.ofValue, hf, hen]
  rw [List.all_eq_true] at hds hpk hnm
  have hdl : ∀ x ∈ ds, x < 100000 ∧ x < nt := fun x hx => by
    have := hds x hx
    rw [Bool.and_eq_true] at this
    exact ⟨bL this.2, bL this.1⟩
  have h' := h.forgets hdl
  have hsub' : Sub (noL ds ++ s) pre := fun k av h3 => by
    have hk := Nat.le_of_ble_eq_true (hpk k (mem_keys h3))
    have h4 := hsub k av h3
    rw [look_append]
    cases e : look (noL ds) k with
    | none => exact h4
    | some y =>
      have h9 : look (noL ds ++ []) k = some y := by rw [List.append_nil]; exact e
      rcases look_noL h9 with ⟨h6, _⟩ | ⟨_, h6⟩
      · have := (hdl k h6).1; omega
      · cases h6
  have hN' : ∀ q ∈ newN (kO pre) (kO post) (kO post), NoRefE (noL ds ++ s) q := fun q hq k av h3 h4 => by
    have h6 := hnm q hq
    simp only [Bool.and_eq_true, Bool.not_eq_true'] at h6
    have hne : ∀ {x : Nat}, Nat.beq q.1 x = false → x ≠ q.1 := fun {x} hx e => by rw [← e, Nat.beq_refl] at hx; cases hx
    rcases look_noL h3 with ⟨h7, rfl⟩ | ⟨h7, h8⟩
    · have hk := (hdl k h7).1
      have hfn : fnm k = 100000 := by unfold fnm; rw [ble_no (by omega : k < 500000)]
      rw [hfn]
      exact ⟨hne h6.1, hne h6.2.1, hne h6.2.2⟩
    · refine hN (q.1, ds ++ q.2) (List.mem_map.2 ⟨q, hq, rfl⟩) k av h8 ?_
      show hasN (ds ++ q.2) k = false
      unfold hasN at h7 h4 ⊢
      rw [List.any_append, h7, h4]
      rfl
  unfold Oper.wp
  rw [he, Oper.upon_enter]
  refine hcall.mono ?_
  rintro e w' ⟨v, D', hv', a', rfl, h6, h7⟩
  rw [hd]
  obtain ⟨D2, hv2, h8, h9⟩ := h'.back hsub' hl hq hks hN' hnb v3 v4 v5 v2 h6
  have hfin := h8.put (d := d) (bL hn) (bL h5) (h9.1 r v hr h7)
  refine hK _ _ ⟨D2, hv2, ?_⟩
  show SimG w0 U0 nt ((d, r) :: ((post ++ noL ds) ++ s)) _ _ _ _
  rw [List.append_assoc]
  exact hfin
end
end Go.Proofs.Ytiammidklcjelaa
namespace Go.Proofs.Ytiammidklcjelaa
open Go.RowKit
set_option linter.unusedVariables false
set_option linter.unusedSimpArgs false
set_option maxRecDepth 100000
noncomputable abbrev rB (zs : List Int) : AS := [(300001, .mrow 5 1 (zs.map by8))]
-- 
theorem cloneY_abs (L : List Int) (hn : L.length ≤ 1000000000) : AFunO Try.prog 28 [] [.val (.lst (L.map by8))] (.sl 300001 0 L.length 1) (rB L) := by
  have hsz := bys_size L
  refine afunO_of Try.func28 Try.ntmps28 rfl rfl rfl rfl rfl rfl ?_
  intro w U hU
  refine AWp.nil 0 rfl rfl (fun hl => ?_) ?_
  · have hL : L = [] := by simpa using hl
    subst hL
    refine aS (aR ?_)
    (refine nx (aA (gN rfl) rfl rfl rfl rfl rfl) rfl ?_)
    show AWp _ _ _ _ _ _ _
    refine aS (aS (aR ?_))
    (refine nx (aM (gN rfl) rfl rfl rfl rfl rfl) rfl ?_)
    (refine nx (a_isnil (gN rfl) rfl rfl rfl rfl rfl rfl) rfl ?_)
    show AWp _ _ _ _ _ _ _
    refine aC rfl (fun _ => ?_) (fun h => by cases h)
    refine aS (aR ?_)
    (refine nx (aA (gN rfl) rfl rfl rfl rfl rfl) rfl ?_)
    show AWp _ _ _ _ _ _ _
    exact aT ⟨.inr rfl, _, wk_nilM 2 300001 5 1 rfl rfl rfl rfl rfl, rfl, rfl, trivial⟩
  · refine aS (aR ?_)
    (refine nx (aA (gN rfl) rfl rfl rfl rfl rfl) rfl ?_)
    show AWp _ _ _ _ _ _ _
    refine aS (aS (aR ?_))
    (refine nx (aM (gN rfl) rfl rfl rfl rfl rfl) rfl ?_)
    (refine nx (a_notnil (gN rfl) rfl rfl rfl rfl rfl rfl) rfl ?_)
    show AWp _ _ _ _ _ _ _
    refine aC rfl (fun h => by cases h) (fun _ => ?_)
    refine aK ?_
    show AWp _ _ _ _ _ _ _
    refine AWp.wk ((wk_not 0 rfl rfl).trans (wk_sub (s' := [(0, .val (.lst (L.map by8)))]) ⟨rfl, trivial⟩)) ?_
    refine aS (aR ?_)
    (refine nx (a_bslice0 (gN rfl) rfl rfl rfl rfl rfl rfl rfl rfl) rfl ?_)
    (refine nx (aM (gN rfl) rfl rfl rfl rfl rfl) rfl ?_)
    (refine nx (a_app0M 300001 (gN rfl) rfl rfl rfl rfl rfl rfl rfl rfl rfl rfl rfl rfl rfl rfl rfl (by first | assumption | exact sZ rfl | exact Tm.size_all _ | exact Bd.size_all _ | exact ints_size _ | exact bys_size _ | exact Lt.size_all _) (by first | omega | (simp only [List.length_map, List.length_append, List.length_cons, List.length_nil] <;> omega) | (simp <;> omega))) rfl ?_)
    (refine nx (aA (gN rfl) rfl rfl rfl rfl rfl) rfl ?_)
    show AWp _ _ _ _ _ _ _
    refine aT ⟨.inr rfl, _, Wk.refl _, ?_, rfl, trivial⟩
    show some (AV.sl _ _ _ _) = some (AV.sl _ _ _ _)
    rw [List.length_map]
    rfl
-- 
theorem cSign_abs (W : World) (l : Lt) : AFun Try.prog W 29 [l.cw] (.val (by8 (if l.neg then 1 else 0))) := by
  refine afun_of (rs := [by8 (if l.neg then 1 else 0)]) Try.func29 Try.ntmps29 rfl rfl rfl rfl ?_
  intro w U hW
  refine aS (aR ?_)
  (refine nx (a_box (gN rfl) rfl rfl rfl rfl rfl) rfl ?_)
  (refine nx (aA (gN rfl) rfl rfl rfl rfl rfl) rfl ?_)
  show AWp _ _ _ _ _ _ _
  refine aS (aS (aR ?_))
  (refine nx (aF (gN rfl) rfl rfl rfl rfl rfl rfl rfl rfl rfl) rfl ?_)
  (refine nx (aLb (gN rfl) rfl rfl rfl rfl rfl rfl rfl rfl rfl rfl rfl rfl) rfl ?_)
  show AWp _ _ _ _ _ _ _
  refine aC rfl (fun hc => ?_) (fun hc => ?_)
  · refine aS (aR ?_)
    (refine nx (aA (gN rfl) rfl rfl rfl rfl rfl) rfl ?_)
    show AWp _ _ _ _ _ _ _
    rw [if_pos hc]
    exact aT (And.intro (.inr rfl) rfl)
  · refine aK ?_
    show AWp _ _ _ _ _ _ _
    refine aS (aR ?_)
    (refine nx (aA (gN rfl) rfl rfl rfl rfl rfl) rfl ?_)
    show AWp _ _ _ _ _ _ _
    rw [if_neg (by rw [hc]; simp)]
    exact aT (And.intro (.inr rfl) rfl)
-- 
theorem cIsVar_abs (W : World) (t : Tm) : AFun Try.prog W 55 [t.cw] (.val (.b (decide (t.f < 0)))) := by
  refine afun_of (rs := [.b (decide (t.f < 0))]) Try.func55 Try.ntmps55 rfl rfl rfl rfl ?_
  intro w U hW
  refine aS (aR ?_)
  (refine nx (a_box (gN rfl) rfl rfl rfl rfl rfl) rfl ?_)
  (refine nx (aA (gN rfl) rfl rfl rfl rfl rfl) rfl ?_)
  show AWp _ _ _ _ _ _ _
  refine aS (aR ?_)
  (refine nx (aF (gN rfl) rfl rfl rfl rfl rfl rfl rfl rfl rfl) rfl ?_)
  (refine nx (aLb (gN rfl) rfl rfl rfl rfl rfl rfl rfl rfl rfl rfl rfl rfl) rfl ?_)
  (refine nx (a_lss (gN rfl) rfl rfl rfl rfl rfl rfl) rfl ?_)
  (refine nx (aA (gN rfl) rfl rfl rfl rfl rfl) rfl ?_)
  show AWp _ _ _ _ _ _ _
  exact aT (And.intro (.inr rfl) rfl)
theorem two_len (zs ys : List Int) : (zs.map by8).length + (ys.map by8).length = (zs ++ ys).length := by rw [List.length_map, List.length_map, List.length_append]
-- 
theorem cAppU_abs (zs : List Int) (n : Nat) (hn : n < 2 ^ 64) (hl : zs.length ≤ 1000000000) : AFunO Try.prog 27 (rB zs) [.sl 300001 0 zs.length 1, .val (.sc (.int .u64 (n : Int)))] (.sl 300001 0 (zs ++ ubytes n).length 1) (rB (zs ++ ubytes n)) := by
  have hu := ubytes_le n
  refine afunO_of Try.func27 Try.ntmps27 rfl rfl rfl rfl rfl rfl ?_
  intro w U hU
  refine aS (aR ?_)
  (refine nx (aA (gN rfl) rfl rfl rfl rfl rfl) rfl ?_)
  show AWp _ _ _ _ _ _ _
  refine aS (aR ?_)
  (refine nx (aM (gN rfl) rfl rfl rfl rfl rfl) rfl ?_)
  (refine nx (aM (gN rfl) rfl rfl rfl rfl rfl) rfl ?_)
  (refine nx (a_call (gN rfl) rfl rfl rfl rfl rfl (cPutU_abs w n hn)) rfl ?_)
  (refine nx (a_appM 300008 (gN rfl) rfl rfl rfl rfl rfl rfl rfl rfl rfl rfl rfl rfl rfl (by first | rfl | omega | (simp only [List.length_set, List.length_map, List.length_append, List.length_cons, List.length_nil] <;> omega) | (simp <;> omega)) (by first | assumption | exact sZ rfl | exact Tm.size_all _ | exact Bd.size_all _ | exact ints_size _ | exact bys_size _ | exact Lt.size_all _) (by first | omega | (simp only [List.length_map, List.length_append, List.length_cons, List.length_nil] <;> omega) | (simp <;> omega))) rfl ?_)
  (refine nx (aA (gN rfl) rfl rfl rfl rfl rfl) rfl ?_)
  show AWp _ _ _ _ _ _ _
  refine aT ⟨.inr rfl, _, (wk_sub (s' := [(4, .sl 300008 0 (zs ++ ubytes n).length 1), (300008, .mrow 5 1 ((zs ++ ubytes n).map by8))]) ⟨?_, ?_, trivial⟩).trans (wk_ren 300008 300001 rfl rfl (by kernel_rfl) (by kernel_rfl)), rfl, rfl, trivial⟩
  · show some (AV.sl 300008 0 ((zs.map by8).length + ((ubytes n).map by8).length) 1) = _
    rw [two_len]
  · show some (AV.mrow _ _ (zs.map by8 ++ (ubytes n).map by8)) = _
    rw [List.map_append]
    rfl
-- 
set_option maxHeartbeats 1000000 in
theorem cAppT_abs : ∀ (t : Tm), t.rng → t.ok → ∀ (zs : List Int), zs.length + (wT t).length ≤ 1000000000 → AFunO Try.prog 30 (rB zs) [.sl 300001 0 zs.length 1, .val t.cw] (.sl 300001 0 (zs ++ wT t).length 1) (rB (zs ++ wT t)) := by
  intro t
  induction t using Tm.indp with
  | h t ih =>
  intro hr hok zs hl
  obtain ⟨h1, h2⟩ := (Tm.rng_iff _).1 hr
  obtain ⟨h3, h4⟩ := (Tm.ok_iff _).1 hok
  have hu := ubytes_le (zz t.f)
  have hwp := wT_pos t
  refine afunO_of Try.func30 Try.ntmps30 rfl rfl rfl rfl rfl rfl ?_
  intro w U hU
  refine aS (aR ?_)
  (refine nx (a_box (gN rfl) rfl rfl rfl rfl rfl) rfl ?_)
  (refine nx (aA (gN rfl) rfl rfl rfl rfl rfl) rfl ?_)
  show AWp _ _ _ _ _ _ _
  have hul : (ubytes (zz t.f)).length ≤ (wT t).length := by
    by_cases hf : t.f < 0
    · rw [wT_var hf]; exact Nat.le_refl _
    · rw [wT_sym hf, List.length_append]; omega
  refine aS (aR ?_)
  (refine nx (aM (gN rfl) rfl rfl rfl rfl rfl) rfl ?_)
  (refine nx (aF (gN rfl) rfl rfl rfl rfl rfl rfl rfl rfl rfl) rfl ?_)
  (refine nx (aLb (gN rfl) rfl rfl rfl rfl rfl rfl rfl rfl rfl rfl rfl rfl) rfl ?_)
  (refine nx (a_call (gN rfl) rfl rfl rfl rfl rfl (cPutI_abs w t.f (by omega) (by omega))) rfl ?_)
  (refine nx (a_appM 300011 (gN rfl) rfl rfl rfl rfl rfl rfl rfl rfl rfl rfl rfl rfl rfl (by first | rfl | omega | (simp only [List.length_set, List.length_map, List.length_append, List.length_cons, List.length_nil] <;> omega) | (simp <;> omega)) (by first | assumption | exact sZ rfl | exact Tm.size_all _ | exact Bd.size_all _ | exact ints_size _ | exact bys_size _ | exact Lt.size_all _) (by first | omega | (simp only [List.length_map, List.length_append, List.length_cons, List.length_nil] <;> omega) | (simp <;> omega))) rfl ?_)
  (refine nx (aA (gN rfl) rfl rfl rfl rfl rfl) rfl ?_)
  show AWp _ _ _ _ _ _ _
  obtain ⟨z1, hz1⟩ : ∃ z, z = zs ++ ubytes (zz t.f) := ⟨_, rfl⟩
  refine AWp.wk ((wk_sub (s' := [(0, .sl 300011 0 z1.length 1), (3, .bp 3 0 []), (100003, .bx t.cw), (300011, .mrow 5 1 (z1.map by8))]) ⟨?_, rfl, rfl, ?_, trivial⟩).trans (wk_ren 300011 300001 rfl rfl (by kernel_rfl) (by kernel_rfl))) ?_
  · show some (AV.sl 300011 0 ((zs.map by8).length + ((ubytes (zz t.f)).map by8).length) 1) = _
    rw [two_len, hz1]
  · show some (AV.mrow _ _ (zs.map by8 ++ (ubytes (zz t.f)).map by8)) = _
    rw [hz1, List.map_append]
    rfl
  refine aS (aS (aR ?_))
  (refine nx (aL (gN rfl) rfl rfl rfl rfl rfl rfl rfl rfl rfl rfl rfl rfl) rfl ?_)
  (refine nx (a_call (gN rfl) rfl rfl rfl rfl rfl (cIsVar_abs w t)) rfl ?_)
  show AWp _ _ _ _ _ _ _
  by_cases hf : t.f < 0
  · have g : decide (t.f < 0) = true := by simpa using hf
    refine aC rfl (fun hc => ?_) (fun hc => by rw [g] at hc; cases hc)
    refine aS (aR ?_)
    (refine nx (aM (gN rfl) rfl rfl rfl rfl rfl) rfl ?_)
    (refine nx (aA (gN rfl) rfl rfl rfl rfl rfl) rfl ?_)
    show AWp _ _ _ _ _ _ _
    rw [wT_var hf, ← hz1]
    exact aT ⟨.inr rfl, _, Wk.refl _, rfl, rfl, trivial⟩
  have g : decide (t.f < 0) = false := by simpa using hf
  refine aC rfl (fun hc => by rw [g] at hc; cases hc) (fun hc => aK ?_)
  show AWp _ _ _ _ _ _ _
  have hps : t.ps = t.l := Tm.ps_of_sym (by omega)
  rw [hps] at ih
  have hw := wT_sym hf
  have hwl : (wT t).length = (ubytes (zz t.f)).length + ((ubytes t.l.length).length + (t.l.flatMap wT).length) := by rw [hw, List.length_append, List.length_append]
  have hz1l : z1.length = zs.length + (ubytes (zz t.f)).length := by rw [hz1, List.length_append]
  have hsz := Tm.size_all t.l
  obtain ⟨n, hn⟩ : ∃ n, n = (t.l.map Tm.cv).length := ⟨_, rfl⟩
  have hnl : n = t.l.length := by rw [hn, List.length_map]
  have hcu := cAppU_abs z1 n (by omega) (by omega)
  have hcv : IntKind.u64.wrap ((n : Nat) : Int) = ((n : Nat) : Int) := by
    rw [IntKind.wrap_u64]; omega
  rw [hn] at hcv hcu
  refine aS (aR ?_)
  (refine nx (aM (gN rfl) rfl rfl rfl rfl rfl) rfl ?_)
  (refine nx (aF (gN rfl) rfl rfl rfl rfl rfl rfl rfl rfl rfl) rfl ?_)
  (refine nx (aLb (gN rfl) rfl rfl rfl rfl rfl rfl rfl rfl rfl rfl rfl rfl) rfl ?_)
  (refine nx (a_len (gN rfl) rfl rfl rfl rfl rfl rfl rfl) rfl ?_)
  (refine nx (a_conv (gN rfl) rfl rfl rfl rfl rfl rfl rfl (by first | rfl | (rw [IntKind.wrap_i64]; omega) | assumption)) rfl ?_)
  (refine nx (a_callOD ([0, 15]) (gN rfl) rfl rfl rfl rfl rfl (hcu) (by repeat (first | exact trivial | refine ⟨rfl, ?_⟩)) (by first | rfl | kernel_rfl) (by first | rfl | kernel_rfl) (by first | rfl | kernel_rfl) (by first | rfl | kernel_rfl) (hnb_of (by first | rfl | kernel_rfl)) (by first | rfl | kernel_rfl) (by first | rfl | kernel_rfl) (by first | rfl | kernel_rfl)) rfl ?_)
  (refine nx (aA (gN rfl) rfl rfl rfl rfl rfl) rfl ?_)
  show AWp _ _ _ _ _ _ _
  rw [← hn] at hcu
  obtain ⟨z2, hz2⟩ : ∃ z, z = z1 ++ ubytes n := ⟨_, rfl⟩
  refine AWp.wk (wk_sub (s' := [(0, .sl 300001 0 z2.length 1), (3, .bp 3 0 []), (100003, .bx t.cw), (300001, .mrow 5 1 (z2.map by8))]) ⟨by rw [hz2, hn]; rfl, rfl, rfl, by rw [hz2, hn]; rfl, trivial⟩) ?_
  have hz2l : z2.length = z1.length + (ubytes t.l.length).length := by rw [hz2, List.length_append, hnl]
  refine aS (aS (aR ?_))
  (refine nx (aF (gN rfl) rfl rfl rfl rfl rfl rfl rfl rfl rfl) rfl ?_)
  (refine nx (aLb (gN rfl) rfl rfl rfl rfl rfl rfl rfl rfl rfl rfl rfl rfl) rfl ?_)
  (refine nx (a_len (gN rfl) rfl rfl rfl rfl rfl rfl rfl) rfl ?_)
  (refine nx (aM (gN rfl) rfl rfl rfl rfl rfl) rfl ?_)
  show AWp _ _ _ _ _ _ _
  rw [← hn]
  refine aB (awp_count t.l.length (fun k => [(0, .sl 300001 0 (z2 ++ (t.l.take k).flatMap wT).length 1), (22, .val (.lst (t.l.map Tm.cv))), (23, .val (.i n)), (24, .val (.i k)), (300001, .mrow 5 1 ((z2 ++ (t.l.take k).flatMap wT).map by8))]) (wk_sub ⟨by rw [List.take_zero, List.flatMap_nil, List.append_nil]; rfl, rfl, rfl, rfl, by rw [List.take_zero, List.flatMap_nil, List.append_nil]; rfl, trivial⟩) ?_)
  intro k hk
  refine aS (aR ?_)
  (refine nx (a_lss (gN rfl) rfl rfl rfl rfl rfl rfl) rfl ?_)
  show AWp _ _ _ _ _ _ _
  refine aS (aC rfl (fun hlt => ?_) (fun hlt => ?_))
  · have hkl : k < t.l.length := by
      have : ((k : Nat) : Int) < n := by simpa using hlt
      omega
    obtain ⟨x, hx⟩ : ∃ x, t.l[k]? = some x := ⟨t.l[k], List.getElem?_eq_getElem hkl⟩
    have hx' := Tm.map_at hx
    have hxm := List.mem_of_getElem? hx
    have htk : t.l.take (k + 1) = t.l.take k ++ [x] := by rw [List.take_add_one, hx]; rfl
    have hfl : (z2 ++ (t.l.take k).flatMap wT) ++ wT x = z2 ++ (t.l.take (k + 1)).flatMap wT := by
      rw [htk, List.flatMap_append, List.flatMap_cons, List.flatMap_nil, List.append_nil, List.append_assoc]
    have hle : ((t.l.take (k + 1)).flatMap wT).length ≤ (t.l.flatMap wT).length := by
      have : t.l.flatMap wT = (t.l.take (k + 1)).flatMap wT ++ (t.l.drop (k + 1)).flatMap wT := by rw [← List.flatMap_append, List.take_append_drop]
      rw [this, List.length_append]; omega
    have hle2 : ((t.l.take (k + 1)).flatMap wT).length = ((t.l.take k).flatMap wT).length + (wT x).length := by
      rw [htk, List.flatMap_append, List.flatMap_cons, List.flatMap_nil, List.append_nil, List.length_append]
    obtain ⟨zk, hzk⟩ : ∃ z, z = z2 ++ (t.l.take k).flatMap wT := ⟨_, rfl⟩
    have hzkl : zk.length = z2.length + ((t.l.take k).flatMap wT).length := by rw [hzk, List.length_append]
    have hrec := ih x hxm (h2 x hxm) (h4 x hxm) zk (by omega)
    rw [← hzk] at hfl ⊢
    refine aK ?_
    show AWp _ _ _ _ _ _ _
    refine aS (aB (aS (aR ?_)))
    (refine nx (a_index (j := k) (gN rfl) rfl rfl rfl rfl rfl rfl rfl rfl rfl (hx') rfl (hsz)) rfl ?_)
    (refine nx (a_load_ad (gN rfl) rfl rfl rfl rfl rfl rfl rfl rfl rfl) rfl ?_)
    (refine nx (a_alloc (gN rfl) rfl rfl rfl rfl rfl rfl rfl rfl rfl rfl) rfl ?_)
    (refine nx (aSt (gN rfl) rfl rfl rfl rfl rfl rfl rfl rfl rfl rfl) rfl ?_)
    show AWp _ _ _ _ _ _ _
    refine aR ?_
    (refine nx (aM (gN rfl) rfl rfl rfl rfl rfl) rfl ?_)
    (refine nx (aL (gN rfl) rfl rfl rfl rfl rfl rfl rfl rfl rfl rfl rfl rfl) rfl ?_)
    (refine nx (a_callOD ([0, 28]) (gN rfl) rfl rfl rfl rfl rfl (hrec) (by repeat (first | exact trivial | refine ⟨rfl, ?_⟩)) (by first | rfl | kernel_rfl) (by first | rfl | kernel_rfl) (by first | rfl | kernel_rfl) (by first | rfl | kernel_rfl) (hnb_of (by first | rfl | kernel_rfl)) (by first | rfl | kernel_rfl) (by first | rfl | kernel_rfl) (by first | rfl | kernel_rfl)) rfl ?_)
    (refine nx (aA (gN rfl) rfl rfl rfl rfl rfl) rfl ?_)
    show AWp _ _ _ _ _ _ _
    refine aR ?_
    (refine nx (a_add (gN rfl) rfl rfl rfl rfl rfl rfl (by first | omega | (simp only [List.length_map, List.length_append, List.length_cons, List.length_nil] <;> omega) | (simp <;> omega))) rfl ?_)
    (refine nx (aM (gN rfl) rfl rfl rfl rfl rfl) rfl ?_)
    refine ⟨hkl, wk_sub ⟨?_, rfl, rfl, rfl, ?_, trivial⟩⟩
    · rw [← hfl]; rfl
    · rw [← hfl]; rfl
  · have hkl : k = t.l.length := by
      have : ¬ ((k : Nat) : Int) < n := by simpa using hlt
      omega
    subst hkl
    refine aE ?_
    show AWp _ _ _ _ _ _ _
    have hend : z2 ++ (t.l.take t.l.length).flatMap wT = zs ++ wT t := by
      rw [List.take_length, hz2, hz1, hw, hnl, List.append_assoc, List.append_assoc]
    rw [hend]
    refine aS (aR ?_)
    (refine nx (aM (gN rfl) rfl rfl rfl rfl rfl) rfl ?_)
    (refine nx (aA (gN rfl) rfl rfl rfl rfl rfl) rfl ?_)
    show AWp _ _ _ _ _ _ _
    exact aT ⟨.inr rfl, _, Wk.refl _, rfl, rfl, trivial⟩
-- 
set_option maxHeartbeats 1000000 in
theorem cPut_abs (W : World) (zs : List Int) (c : List Lt) (hl : zs.length + (wC c).length ≤ 1000000000) (hc : ∀ l ∈ c, (l.a.rng ∧ l.a.ok) ∧ (l.b.rng ∧ l.b.ok)) : AFun Try.prog W 8 [.lst (zs.map by8), .lst (c.map Lt.cv)] (.val (.lst ((zs ++ wC c).map by8))) := by
  have hsz := Lt.size_all c
  have hclen : c.length ≤ (c.flatMap wL).length := by
    have : ∀ c : List Lt, c.length ≤ (c.flatMap wL).length := fun c => by
      induction c with
      | nil => exact Nat.zero_le _
      | cons l c ih =>
        have := wL_pos l
        rw [List.flatMap_cons, List.length_append, List.length_cons]; omega
    exact this c
  have hwl : (wC c).length = (ubytes c.length).length + (c.flatMap wL).length := by unfold wC; rw [List.length_append]
  obtain ⟨n, hn⟩ : ∃ n, n = (c.map Lt.cv).length := ⟨_, rfl⟩
  have hnl : n = c.length := by rw [hn, List.length_map]
  have hcl := cloneY_abs zs (by omega)
  have hcu := cAppU_abs zs n (by omega) (by omega)
  have hcv : IntKind.u64.wrap ((n : Nat) : Int) = ((n : Nat) : Int) := by
    rw [IntKind.wrap_u64]; omega
  rw [hn] at hcv hcu
  refine afun_of (rs := [.lst ((zs ++ wC c).map by8)]) Try.func8 Try.ntmps8 rfl rfl rfl rfl ?_
  intro w U hW
  refine aS (aR ?_)
  (refine nx (aA (gN rfl) rfl rfl rfl rfl rfl) rfl ?_)
  show AWp _ _ _ _ _ _ _
  refine aS (aR ?_)
  (refine nx (aM (gN rfl) rfl rfl rfl rfl rfl) rfl ?_)
  (refine nx (a_callO (gN rfl) rfl rfl rfl rfl rfl (hcl) (by repeat (first | exact trivial | refine ⟨rfl, ?_⟩)) (by first | rfl | kernel_rfl) (by first | rfl | kernel_rfl) (by first | rfl | kernel_rfl) (by first | rfl | kernel_rfl) (hnb_of (by first | rfl | kernel_rfl))) rfl ?_)
  (refine nx (aM (gN rfl) rfl rfl rfl rfl rfl) rfl ?_)
  (refine nx (a_len (gN rfl) rfl rfl rfl rfl rfl rfl rfl) rfl ?_)
  (refine nx (a_conv (gN rfl) rfl rfl rfl rfl rfl rfl rfl (by first | rfl | (rw [IntKind.wrap_i64]; omega) | assumption)) rfl ?_)
  (refine nx (a_callOD ([8]) (gN rfl) rfl rfl rfl rfl rfl (hcu) (by repeat (first | exact trivial | refine ⟨rfl, ?_⟩)) (by first | rfl | kernel_rfl) (by first | rfl | kernel_rfl) (by first | rfl | kernel_rfl) (by first | rfl | kernel_rfl) (hnb_of (by first | rfl | kernel_rfl)) (by first | rfl | kernel_rfl) (by first | rfl | kernel_rfl) (by first | rfl | kernel_rfl)) rfl ?_)
  (refine nx (aA (gN rfl) rfl rfl rfl rfl rfl) rfl ?_)
  show AWp _ _ _ _ _ _ _
  rw [← hn] at hcu
  obtain ⟨z2, hz2⟩ : ∃ z, z = zs ++ ubytes n := ⟨_, rfl⟩
  refine AWp.wk (wk_sub (s' := [(0, .sl 300001 0 z2.length 1), (1, .val (.lst (c.map Lt.cv))), (300001, .mrow 5 1 (z2.map by8))]) ⟨by rw [hz2, hn]; rfl, rfl, by rw [hz2, hn]; rfl, trivial⟩) ?_
  have hz2l : z2.length = zs.length + (ubytes c.length).length := by rw [hz2, List.length_append, hnl]
  refine aS (aS (aR ?_))
  (refine nx (aM (gN rfl) rfl rfl rfl rfl rfl) rfl ?_)
  (refine nx (a_len (gN rfl) rfl rfl rfl rfl rfl rfl rfl) rfl ?_)
  (refine nx (aM (gN rfl) rfl rfl rfl rfl rfl) rfl ?_)
  show AWp _ _ _ _ _ _ _
  rw [← hn]
  refine aB (awp_count c.length (fun k => [(0, .sl 300001 0 (z2 ++ (c.take k).flatMap wL).length 1), (13, .val (.lst (c.map Lt.cv))), (14, .val (.i n)), (15, .val (.i k)), (300001, .mrow 5 1 ((z2 ++ (c.take k).flatMap wL).map by8))]) (wk_sub ⟨by rw [List.take_zero, List.flatMap_nil, List.append_nil]; rfl, rfl, rfl, rfl, by rw [List.take_zero, List.flatMap_nil, List.append_nil]; rfl, trivial⟩) ?_)
  intro k hk
  refine aS (aR ?_)
  (refine nx (a_lss (gN rfl) rfl rfl rfl rfl rfl rfl) rfl ?_)
  show AWp _ _ _ _ _ _ _
  refine aS (aC rfl (fun hlt => ?_) (fun hlt => ?_))
  · have hkl : k < c.length := by
      have : ((k : Nat) : Int) < n := by simpa using hlt
      omega
    obtain ⟨l, hx⟩ : ∃ x, c[k]? = some x := ⟨c[k], List.getElem?_eq_getElem hkl⟩
    have hx' := Lt.map_at hx
    have hxm := List.mem_of_getElem? hx
    obtain ⟨⟨r1, o1⟩, r2, o2⟩ := hc l hxm
    have htk : c.take (k + 1) = c.take k ++ [l] := by rw [List.take_add_one, hx]; rfl
    have hle : ((c.take (k + 1)).flatMap wL).length ≤ (c.flatMap wL).length := by
      have : c.flatMap wL = (c.take (k + 1)).flatMap wL ++ (c.drop (k + 1)).flatMap wL := by rw [← List.flatMap_append, List.take_append_drop]
      rw [this, List.length_append]; omega
    have hle2 : ((c.take (k + 1)).flatMap wL).length = ((c.take k).flatMap wL).length + (wL l).length := by
      rw [htk, List.flatMap_append, List.flatMap_cons, List.flatMap_nil, List.append_nil, List.length_append]
    obtain ⟨zk, hzk⟩ : ∃ z, z = z2 ++ (c.take k).flatMap wL := ⟨_, rfl⟩
    have hzkl : zk.length = z2.length + ((c.take k).flatMap wL).length := by rw [hzk, List.length_append]
    have hwll : (wL l).length = 1 + ((wT l.a).length + (wT l.b).length) := by unfold wL; rw [List.length_cons, List.length_append]; omega
    obtain ⟨sg, hsg⟩ : ∃ s : Nat, s = if l.neg then 1 else 0 := ⟨_, rfl⟩
    have hsg1 : ((if l.neg then 1 else 0 : Int)) = (sg : Int) := by rw [hsg]; cases l.neg <;> rfl
    have hub : ubytes sg = [(sg : Int)] := by rw [hsg]; cases l.neg <;> decide
    have hsl := cSign_abs w l
    rw [hsg1] at hsl
    have hsu := cAppU_abs zk sg (by rw [hsg]; split <;> omega) (by omega)
    have hwv : IntKind.u64.wrap (sg : Int) = (sg : Int) := by
      rw [IntKind.wrap_u64]
      have : sg ≤ 1 := by rw [hsg]; split <;> omega
      omega
    rw [hub] at hsu
    obtain ⟨za, hza⟩ : ∃ z, z = zk ++ [(sg : Int)] := ⟨_, rfl⟩
    rw [← hza] at hsu
    have hzal : za.length = zk.length + 1 := by rw [hza, List.length_append]; rfl
    have hta := cAppT_abs l.a r1 o1 za (by omega)
    obtain ⟨zb, hzb⟩ : ∃ z, z = za ++ wT l.a := ⟨_, rfl⟩
    rw [← hzb] at hta
    have hzbl : zb.length = za.length + (wT l.a).length := by rw [hzb, List.length_append]
    have htb := cAppT_abs l.b r2 o2 zb (by omega)
    have hfl : zb ++ wT l.b = z2 ++ (c.take (k + 1)).flatMap wL := by
      rw [hzb, hza, hzk, htk, List.flatMap_append, List.flatMap_cons, List.flatMap_nil, List.append_nil]
      unfold wL
      rw [hsg1]
      simp
    rw [← hzk]
    refine aK ?_
    show AWp _ _ _ _ _ _ _
    refine aS (aB (aS (aR ?_)))
    (refine nx (a_index (j := k) (gN rfl) rfl rfl rfl rfl rfl rfl rfl rfl rfl (hx') rfl (hsz)) rfl ?_)
    (refine nx (a_load_ad (gN rfl) rfl rfl rfl rfl rfl rfl rfl rfl rfl) rfl ?_)
    (refine nx (a_alloc (gN rfl) rfl rfl rfl rfl rfl rfl rfl rfl rfl rfl) rfl ?_)
    (refine nx (aSt (gN rfl) rfl rfl rfl rfl rfl rfl rfl rfl rfl rfl) rfl ?_)
    show AWp _ _ _ _ _ _ _
    refine aS (aR ?_)
    (refine nx (aM (gN rfl) rfl rfl rfl rfl rfl) rfl ?_)
    (refine nx (aL (gN rfl) rfl rfl rfl rfl rfl rfl rfl rfl rfl rfl rfl rfl) rfl ?_)
    (refine nx (a_call (gN rfl) rfl rfl rfl rfl rfl (hsl)) rfl ?_)
    (refine nx (a_conv (gN rfl) rfl rfl rfl rfl rfl rfl rfl (by first | rfl | (rw [IntKind.wrap_i64]; omega) | assumption)) rfl ?_)
    (refine nx (a_callOD ([0, 19]) (gN rfl) rfl rfl rfl rfl rfl (hsu) (by repeat (first | exact trivial | refine ⟨rfl, ?_⟩)) (by first | rfl | kernel_rfl) (by first | rfl | kernel_rfl) (by first | rfl | kernel_rfl) (by first | rfl | kernel_rfl) (hnb_of (by first | rfl | kernel_rfl)) (by first | rfl | kernel_rfl) (by first | rfl | kernel_rfl) (by first | rfl | kernel_rfl)) rfl ?_)
    (refine nx (aA (gN rfl) rfl rfl rfl rfl rfl) rfl ?_)
    show AWp _ _ _ _ _ _ _
    refine AWp.wk (wk_sub (s' := [(0, .sl 300001 0 za.length 1), (6, .bp 6 0 []), (100006, .bx l.cw), (13, .val (.lst (c.map Lt.cv))), (14, .val (.i n)), (15, .val (.i k)), (300001, .mrow 5 1 (za.map by8))]) ⟨rfl, rfl, rfl, rfl, rfl, rfl, rfl, trivial⟩) ?_
    refine aS (aR ?_)
    (refine nx (aM (gN rfl) rfl rfl rfl rfl rfl) rfl ?_)
    (refine nx (aF (gN rfl) rfl rfl rfl rfl rfl rfl rfl rfl rfl) rfl ?_)
    (refine nx (aLb (gN rfl) rfl rfl rfl rfl rfl rfl rfl rfl rfl rfl rfl rfl) rfl ?_)
    (refine nx (a_callOD ([0, 24]) (gN rfl) rfl rfl rfl rfl rfl (hta) (by repeat (first | exact trivial | refine ⟨rfl, ?_⟩)) (by first | rfl | kernel_rfl) (by first | rfl | kernel_rfl) (by first | rfl | kernel_rfl) (by first | rfl | kernel_rfl) (hnb_of (by first | rfl | kernel_rfl)) (by first | rfl | kernel_rfl) (by first | rfl | kernel_rfl) (by first | rfl | kernel_rfl)) rfl ?_)
    (refine nx (aA (gN rfl) rfl rfl rfl rfl rfl) rfl ?_)
    show AWp _ _ _ _ _ _ _
    refine AWp.wk (wk_sub (s' := [(0, .sl 300001 0 zb.length 1), (6, .bp 6 0 []), (100006, .bx l.cw), (13, .val (.lst (c.map Lt.cv))), (14, .val (.i n)), (15, .val (.i k)), (300001, .mrow 5 1 (zb.map by8))]) ⟨rfl, rfl, rfl, rfl, rfl, rfl, rfl, trivial⟩) ?_
    refine aR ?_
    (refine nx (aM (gN rfl) rfl rfl rfl rfl rfl) rfl ?_)
    (refine nx (aF (gN rfl) rfl rfl rfl rfl rfl rfl rfl rfl rfl) rfl ?_)
    (refine nx (aLb (gN rfl) rfl rfl rfl rfl rfl rfl rfl rfl rfl rfl rfl rfl) rfl ?_)
    (refine nx (a_callOD ([0, 28]) (gN rfl) rfl rfl rfl rfl rfl (htb) (by repeat (first | exact trivial | refine ⟨rfl, ?_⟩)) (by first | rfl | kernel_rfl) (by first | rfl | kernel_rfl) (by first | rfl | kernel_rfl) (by first | rfl | kernel_rfl) (hnb_of (by first | rfl | kernel_rfl)) (by first | rfl | kernel_rfl) (by first | rfl | kernel_rfl) (by first | rfl | kernel_rfl)) rfl ?_)
    (refine nx (aA (gN rfl) rfl rfl rfl rfl rfl) rfl ?_)
    show AWp _ _ _ _ _ _ _
    refine aR ?_
    (refine nx (a_add (gN rfl) rfl rfl rfl rfl rfl rfl (by first | omega | (simp only [List.length_map, List.length_append, List.length_cons, List.length_nil] <;> omega) | (simp <;> omega))) rfl ?_)
    (refine nx (aM (gN rfl) rfl rfl rfl rfl rfl) rfl ?_)
    refine ⟨hkl, wk_sub ⟨?_, rfl, rfl, rfl, ?_, trivial⟩⟩
    · rw [← hfl]; rfl
    · rw [← hfl]; rfl
  · have hkl : k = c.length := by
      have : ¬ ((k : Nat) : Int) < n := by simpa using hlt
      omega
    subst hkl
    refine aE ?_
    show AWp _ _ _ _ _ _ _
    have hend : z2 ++ (c.take c.length).flatMap wL = zs ++ wC c := by
      unfold wC
      rw [List.take_length, hz2, hnl, List.append_assoc]
    rw [hend]
    refine aS (aR ?_)
    (refine nx (aM (gN rfl) rfl rfl rfl rfl rfl) rfl ?_)
    (refine nx (aA (gN rfl) rfl rfl rfl rfl rfl) rfl ?_)
    show AWp _ _ _ _ _ _ _
    refine AWp.wk ((wk_frz 4 300001 rfl rfl rfl (.inl hW.2) (by rw [List.length_map]; omega) (s' := []) trivial rfl).trans (wk_sub (s' := [(4, .val (.lst ((zs ++ wC c).map by8)))]) ⟨by rw [List.drop_zero, List.take_of_length_le (by rw [List.length_map]; exact Nat.le_refl _)]; rfl, trivial⟩)) ?_
    exact aT (And.intro (.inr rfl) rfl)
end Go.Proofs.Ytiammidklcjelaa
