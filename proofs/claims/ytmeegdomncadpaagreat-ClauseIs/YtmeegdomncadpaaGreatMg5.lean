/-
  ClSides ClWith SrtGen ClNmM AbRowO AbKind CodeMath CodeLen CodePut CodePutMore RefSame CodeRef CodeAlive CodeReadMath CodeRead CodeUint CodeText CodeBackMath ClBy ClCode ClPut ClGet ClGet2
-/
import Derived.Test.YtmeegdomncadpaaGreatMg4
import Derived.Test.YtmeegdomncadpaaGreatMg3
import Derived.Test.YtmeegdomncadpaaGreatMg2
import Derived.WalkKit
import Derived.Test.YtmeegdomncadpaaGreatChecked
import Derived.WalkLawsBesides
import Derived.WalkSpells
import Derived.Test.YtmeegdomncadpaaGreatMg1
import Derived.Laws.BitsAllLaws
import Derived.Deep.QuietTactic
import Derived.BigQuiet
import Derived.Laws.BytesArg
namespace Go.Proofs.YtmeegdomncadpaaGreat
open Go.RowKit
set_option linter.unusedVariables false
set_option linter.unusedSimpArgs false
set_option maxRecDepth 100000
def sidL (c : List Lt) : List Tm := c.flatMap fun l => [l.a, l.b]
theorem sidL_snoc (c : List Lt) (l : Lt) : sidL (c ++ [l]) = sidL c ++ [l.a, l.b] := by simp [sidL]
theorem sidL_len (c : List Lt) : (sidL c).length = 2 * c.length := by
  induction c with
  | nil => rfl
  | cons l c ih =>
    have : sidL (l :: c) = l.a :: l.b :: sidL c := rfl
    rw [this]
    simp only [List.length_cons, ih]
    omega
theorem sidL_take (c : List Lt) (k : Nat) : (sidL (c.take k)).length ≤ 2 * c.length := by
  rw [sidL_len, List.length_take]; omega

-- 
theorem cSides_abs (W : World) (c : List Lt) (hn : c.length ≤ 1000000) : AFun Tryz.prog W 48 [.lst (c.map Lt.cv)] (.val (Tm.cw ⟨0, sidL c⟩)) := by
  have hsz := Lt.size_all c
  refine afun_of (rs := [Tm.cw ⟨0, sidL c⟩]) Tryz.func48 Tryz.ntmps48 rfl rfl rfl rfl ?_
  intro w U hW
  refine aS (aR ?_)
  (refine nx (a_alloc (gN rfl) rfl rfl rfl rfl rfl rfl rfl rfl rfl rfl) rfl ?_)
  show AWp _ _ _ _ _ _ _
  refine aS (aR ?_)
  (refine nx (aA (gN rfl) rfl rfl rfl rfl rfl) rfl ?_)
  show AWp _ _ _ _ _ _ _
  refine aS (aS (aR ?_))
  (refine nx (aM (gN rfl) rfl rfl rfl rfl rfl) rfl ?_)
  (refine nx (a_len (gN rfl) rfl rfl rfl rfl rfl rfl rfl) rfl ?_)
  (refine nx (aM (gN rfl) rfl rfl rfl rfl rfl) rfl ?_)
  show AWp _ _ _ _ _ _ _
  refine aB (awp_count c.length (fun k => [(2, .bp 2 0 []), (100002, ⟨5, .row [.i 0, .lst []], 1, 0, [1]⟩), (3, .own (.lst ((sidL (c.take k)).map Tm.cv)) 200018), (200018, .tok 61 2), (6, .val (.lst (c.map Lt.cv))), (7, .val (.i (c.map Lt.cv).length)), (8, .val (.i k))])
    ((wk_nil 3 200018 61 2 rfl rfl rfl rfl rfl rfl rfl).trans (wk_sub ⟨rfl, rfl, rfl, rfl, rfl, rfl, rfl, trivial⟩)) ?_)
  intro k hk
  refine aS (aR ?_)
  (refine nx (a_lss (gN rfl) rfl rfl rfl rfl rfl rfl) rfl ?_)
  show AWp _ _ _ _ _ _ _
  refine aS (aC rfl (fun hlt => ?_) (fun hlt => ?_))
  · have hkl : k < c.length := by simpa using hlt
    obtain ⟨x, hx⟩ : ∃ x, c[k]? = some x := ⟨c[k], List.getElem?_eq_getElem hkl⟩
    have hx' := Lt.map_at hx
    have hlen := sidL_take c k
    have hsz2 : ∀ y ∈ (sidL (c.take k)).map Tm.cv, y.size = 2 := Tm.size_all _
    have hl3 : ((sidL (c.take k)).map Tm.cv).length ≤ 2 * c.length := by rw [List.length_map]; exact hlen
    refine aK ?_
    show AWp _ _ _ _ _ _ _
    refine aS (aB (aS (aR ?_)))
    (refine nx (a_index (j := k) (gN rfl) rfl rfl rfl rfl rfl rfl rfl rfl rfl (hx') rfl (hsz)) rfl ?_)
    (refine nx (a_load_ad (gN rfl) rfl rfl rfl rfl rfl rfl rfl rfl rfl) rfl ?_)
    (refine nx (a_alloc (gN rfl) rfl rfl rfl rfl rfl rfl rfl rfl rfl rfl) rfl ?_)
    (refine nx (aSt (gN rfl) rfl rfl rfl rfl rfl rfl rfl rfl rfl rfl) rfl ?_)
    show AWp _ _ _ _ _ _ _
    refine aR ?_
    (refine nx (aM (gN rfl) rfl rfl rfl rfl rfl) rfl ?_)
    (refine nx (aF (gN rfl) rfl rfl rfl rfl rfl rfl rfl rfl rfl) rfl ?_)
    (refine nx (aLb (gN rfl) rfl rfl rfl rfl rfl rfl rfl rfl rfl rfl rfl rfl) rfl ?_)
    (refine nx (aF (gN rfl) rfl rfl rfl rfl rfl rfl rfl rfl rfl) rfl ?_)
    (refine nx (aLb (gN rfl) rfl rfl rfl rfl rfl rfl rfl rfl rfl rfl rfl rfl) rfl ?_)
    (refine nx (a_bslice (gN rfl) rfl rfl rfl rfl rfl rfl rfl rfl rfl rfl rfl rfl rfl) rfl ?_)
    (refine nx (a_app (gN rfl) rfl rfl rfl rfl rfl rfl rfl rfl rfl rfl rfl rfl rfl rfl rfl (by first | assumption | exact sZ rfl | exact Tm.size_all _ | exact Bd.size_all _ | exact ints_size _ | exact bys_size _ | exact Lt.size_all _) (by first | assumption | exact sZ rfl | exact Tm.size_all _ | exact Bd.size_all _ | exact ints_size _ | exact bys_size _ | exact Lt.size_all _) (by first | omega | (simp only [List.length_map, List.length_append, List.length_cons, List.length_nil] <;> omega) | (simp <;> omega))) rfl ?_)
    (refine nx (aA (gN rfl) rfl rfl rfl rfl rfl) rfl ?_)
    show AWp _ _ _ _ _ _ _
    refine aR ?_
    (refine nx (a_add (gN rfl) rfl rfl rfl rfl rfl rfl (by first | omega | (simp only [List.length_map, List.length_append, List.length_cons, List.length_nil] <;> omega) | (simp <;> omega))) rfl ?_)
    (refine nx (aM (gN rfl) rfl rfl rfl rfl rfl) rfl ?_)
    refine ⟨hkl, Wk.trans (wk_sub (s' := [(2, .bp 2 0 []), (100002, ⟨5, .row [.i 0, .lst []], 1, 0, [1]⟩), (3, .own (.lst ((sidL (c.take (k + 1))).map Tm.cv)) 300018), (300018, .tok 61 2), (6, .val (.lst (c.map Lt.cv))), (7, .val (.i (c.map Lt.cv).length)), (8, .val (.i ((k + 1 : Nat) : Int)))]) ⟨rfl, rfl, ?_, rfl, rfl, rfl, rfl, trivial⟩) (wk_ren 300018 200018 rfl rfl rfl rfl)⟩
    rw [List.take_add_one, hx]
    simp only [Option.toList_some, sidL_snoc, List.map_append, List.map_cons, List.map_nil, Tm.cv_eq]
    rfl
  · have hkl : k = c.length := by
      have : ¬ k < c.length := by simpa using hlt
      omega
    subst hkl
    rw [List.take_length]
    refine aE ?_
    show AWp _ _ _ _ _ _ _
    refine aS (aR ?_)
    (refine nx (aM (gN rfl) rfl rfl rfl rfl rfl) rfl ?_)
    (refine nx (a_build (gN rfl) rfl rfl rfl rfl rfl rfl rfl rfl rfl rfl rfl) rfl ?_)
    (refine nx (aSt (gN rfl) rfl rfl rfl rfl rfl rfl rfl rfl rfl rfl) rfl ?_)
    show AWp _ _ _ _ _ _ _
    exact aT (And.intro (.inr rfl) rfl)
theorem sidL_at : ∀ {c : List Lt} {k : Nat} {l : Lt}, c[k]? = some l → (sidL c)[2 * k]? = some l.a ∧ (sidL c)[2 * k + 1]? = some l.b
  | [], k, l, h => by simp at h
  | x :: c, 0, l, h => by
    simp at h
    subst h
    exact ⟨rfl, rfl⟩
  | x :: c, k + 1, l, h => by
    have := sidL_at (c := c) (k := k) (l := l) (by simpa using h)
    have e : sidL (x :: c) = x.a :: x.b :: sidL c := rfl
    rw [e, show 2 * (k + 1) = 2 * k + 1 + 1 by omega]
    simpa using this

-- 
theorem cWith_abs (W : World) (c d : List Lt) (f : Int) (hn : c.length ≤ 1000000) (hcd : d.map Lt.neg = c.map Lt.neg) : AFun Tryz.prog W 46 [.lst (c.map Lt.cv), Tm.cw ⟨f, sidL d⟩] (.val (.lst (d.map Lt.cv))) := by
  have hsz := Lt.size_all c
  have hszT := Tm.size_all (sidL d)
  have hlen : d.length = c.length := by have := congrArg List.length hcd; simpa using this
  refine afun_of (rs := [.lst (d.map Lt.cv)]) Tryz.func46 Tryz.ntmps46 rfl rfl rfl rfl ?_
  intro w U hW
  refine aS (aR ?_)
  (refine nx (a_box (gN rfl) rfl rfl rfl rfl rfl) rfl ?_)
  (refine nx (aA (gN rfl) rfl rfl rfl rfl rfl) rfl ?_)
  show AWp _ _ _ _ _ _ _
  refine aS (aR ?_)
  (refine nx (aA (gN rfl) rfl rfl rfl rfl rfl) rfl ?_)
  show AWp _ _ _ _ _ _ _
  refine aS (aS (aR ?_))
  (refine nx (aM (gN rfl) rfl rfl rfl rfl rfl) rfl ?_)
  (refine nx (a_len (gN rfl) rfl rfl rfl rfl rfl rfl rfl) rfl ?_)
  (refine nx (aM (gN rfl) rfl rfl rfl rfl rfl) rfl ?_)
  show AWp _ _ _ _ _ _ _
  refine aB (awp_count c.length (fun k => [(3, .bp 3 0 []), (100003, .bx (Tm.cw ⟨f, sidL d⟩)), (5, .own (.lst ((d.take k).map Lt.cv)) 200033), (200033, .tok 63 5), (8, .val (.lst (c.map Lt.cv))), (9, .val (.i (c.map Lt.cv).length)), (10, .val (.i k))])
    ((wk_nil 5 200033 63 5 rfl rfl rfl rfl rfl rfl rfl).trans (wk_sub ⟨rfl, rfl, rfl, rfl, rfl, rfl, rfl, trivial⟩)) ?_)
  intro k hk
  refine aS (aR ?_)
  (refine nx (a_lss (gN rfl) rfl rfl rfl rfl rfl rfl) rfl ?_)
  show AWp _ _ _ _ _ _ _
  refine aS (aC rfl (fun hlt => ?_) (fun hlt => ?_))
  · have hkl : k < c.length := by simpa using hlt
    obtain ⟨x, hx⟩ : ∃ x, c[k]? = some x := ⟨c[k], List.getElem?_eq_getElem hkl⟩
    obtain ⟨y, hy⟩ : ∃ y, d[k]? = some y := ⟨d[k], List.getElem?_eq_getElem (by omega)⟩
    have hneg : x.neg = y.neg := by
      have := congrArg (fun l => l[k]?) hcd
      simp only [List.getElem?_map, hx, hy, Option.map_some] at this
      injection this with this
      exact this.symm
    obtain ⟨n1, a1, b1⟩ := x
    simp only at hneg
    subst hneg
    have hx' := Lt.map_at hx
    obtain ⟨ha, hb⟩ := sidL_at hy
    have ha' := Tm.map_at ha
    have hb' := Tm.map_at hb
    have hsz2 : ∀ z ∈ (d.take k).map Lt.cv, z.size = 5 := Lt.size_all _
    have hl3 : ((d.take k).map Lt.cv).length ≤ 1000000 := by rw [List.length_map, List.length_take]; omega
    refine aK ?_
    show AWp _ _ _ _ _ _ _
    refine aS (aB (aS (aR ?_)))
    (refine nx (aM (gN rfl) rfl rfl rfl rfl rfl) rfl ?_)
    (refine nx (a_index (j := k) (gN rfl) rfl rfl rfl rfl rfl rfl rfl rfl rfl (hx') rfl (hsz)) rfl ?_)
    (refine nx (a_load_ad (gN rfl) rfl rfl rfl rfl rfl rfl rfl rfl rfl) rfl ?_)
    (refine nx (a_alloc (gN rfl) rfl rfl rfl rfl rfl rfl rfl rfl rfl rfl) rfl ?_)
    (refine nx (aA (gN rfl) rfl rfl rfl rfl rfl) rfl ?_)
    (refine nx (aSt (gN rfl) rfl rfl rfl rfl rfl rfl rfl rfl rfl rfl) rfl ?_)
    show AWp _ _ _ _ _ _ _
    refine aD (by kernel_rfl) (by kernel_rfl) ?_
    (refine nx (aM (gN rfl) rfl rfl rfl rfl rfl) rfl ?_)
    (refine nx (aF (gN rfl) rfl rfl rfl rfl rfl rfl rfl rfl rfl) rfl ?_)
    (refine nx (aLb (gN rfl) rfl rfl rfl rfl rfl rfl rfl rfl rfl rfl rfl rfl) rfl ?_)
    (refine nx (aF (gN rfl) rfl rfl rfl rfl rfl rfl rfl rfl rfl) rfl ?_)
    (refine nx (aLb (gN rfl) rfl rfl rfl rfl rfl rfl rfl rfl rfl rfl rfl rfl) rfl ?_)
    (refine nx (aM (gN rfl) rfl rfl rfl rfl rfl) rfl ?_)
    (refine nx (a_mul (gN rfl) rfl rfl rfl rfl rfl rfl (by first | omega | (simp only [List.length_map, List.length_append, List.length_cons, List.length_nil] <;> omega) | (simp <;> omega))) rfl ?_)
    (refine nx (a_index (j := (2 * k)) (gN rfl) rfl rfl rfl rfl rfl rfl rfl rfl rfl (ha') rfl (hszT)) rfl ?_)
    (refine nx (a_load_ad (gN rfl) rfl rfl rfl rfl rfl rfl rfl rfl rfl) rfl ?_)
    (refine nx (aF (gN rfl) rfl rfl rfl rfl rfl rfl rfl rfl rfl) rfl ?_)
    (refine nx (aLb (gN rfl) rfl rfl rfl rfl rfl rfl rfl rfl rfl rfl rfl rfl) rfl ?_)
    (refine nx (aM (gN rfl) rfl rfl rfl rfl rfl) rfl ?_)
    (refine nx (a_mul (gN rfl) rfl rfl rfl rfl rfl rfl (by first | omega | (simp only [List.length_map, List.length_append, List.length_cons, List.length_nil] <;> omega) | (simp <;> omega))) rfl ?_)
    (refine nx (a_add (gN rfl) rfl rfl rfl rfl rfl rfl (by first | omega | (simp only [List.length_map, List.length_append, List.length_cons, List.length_nil] <;> omega) | (simp <;> omega))) rfl ?_)
    (refine nx (a_index (j := (2 * k + 1)) (gN rfl) rfl rfl rfl rfl rfl rfl rfl rfl rfl (hb') rfl (hszT)) rfl ?_)
    (refine nx (a_load_ad (gN rfl) rfl rfl rfl rfl rfl rfl rfl rfl rfl) rfl ?_)
    (refine nx (a_build (gN rfl) rfl rfl rfl rfl rfl rfl rfl rfl rfl rfl rfl) rfl ?_)
    (refine nx (a_bslice (gN rfl) rfl rfl rfl rfl rfl rfl rfl rfl rfl rfl rfl rfl rfl) rfl ?_)
    (refine nx (a_app (gN rfl) rfl rfl rfl rfl rfl rfl rfl rfl rfl rfl rfl rfl rfl rfl rfl (by first | assumption | exact sZ rfl | exact Tm.size_all _ | exact Bd.size_all _ | exact ints_size _ | exact bys_size _ | exact Lt.size_all _) (by first | assumption | exact sZ rfl | exact Tm.size_all _ | exact Bd.size_all _ | exact ints_size _ | exact bys_size _ | exact Lt.size_all _) (by first | omega | (simp only [List.length_map, List.length_append, List.length_cons, List.length_nil] <;> omega) | (simp <;> omega))) rfl ?_)
    (refine nx (aA (gN rfl) rfl rfl rfl rfl rfl) rfl ?_)
    refine ⟨by kernel_rfl, ?_⟩
    show AWp _ _ _ _ _ _ _
    refine aR ?_
    (refine nx (a_add (gN rfl) rfl rfl rfl rfl rfl rfl (by first | omega | (simp only [List.length_map, List.length_append, List.length_cons, List.length_nil] <;> omega) | (simp <;> omega))) rfl ?_)
    (refine nx (aM (gN rfl) rfl rfl rfl rfl rfl) rfl ?_)
    refine ⟨hkl, Wk.trans (wk_sub (s' := [(3, .bp 3 0 []), (100003, .bx (Tm.cw ⟨f, sidL d⟩)), (5, .own (.lst ((d.take (k + 1)).map Lt.cv)) 300033), (300033, .tok 63 5), (8, .val (.lst (c.map Lt.cv))), (9, .val (.i (c.map Lt.cv).length)), (10, .val (.i ((k + 1 : Nat) : Int)))]) ⟨rfl, rfl, ?_, rfl, rfl, rfl, rfl, trivial⟩) (wk_ren 300033 200033 rfl rfl rfl rfl)⟩
    rw [List.take_add_one, hy]
    simp only [Option.toList_some, List.map_append, List.map_cons, List.map_nil]
    rfl
  · have hkl : k = d.length := by
      have : ¬ k < c.length := by simpa using hlt
      omega
    subst hkl
    rw [List.take_length]
    refine aE ?_
    show AWp _ _ _ _ _ _ _
    refine aS (aR ?_)
    (refine nx (aM (gN rfl) rfl rfl rfl rfl rfl) rfl ?_)
    (refine nx (aA (gN rfl) rfl rfl rfl rfl rfl) rfl ?_)
    show AWp _ _ _ _ _ _ _
    exact aT (And.intro (.inr rfl) rfl)

def Lt.rep (img : Int → Tm) (l : Lt) : Lt := ⟨l.neg, repT img l.a, repT img l.b⟩
theorem sidL_rep (img : Int → Tm) : ∀ c : List Lt, (sidL c).map (repT img) = sidL (c.map (Lt.rep img))
  | [] => rfl
  | l :: c => by
    show repT img l.a :: repT img l.b :: (sidL c).map (repT img) = _
    rw [sidL_rep img c]
    rfl
theorem rep_sides (img : Int → Tm) (c : List Lt) : repT img ⟨0, sidL c⟩ = ⟨0, sidL (c.map (Lt.rep img))⟩ := by
  rw [repT_sym (show ¬ (0 : Int) < 0 by decide), sidL_rep]
theorem rep_neg (img : Int → Tm) (c : List Lt) : (c.map (Lt.rep img)).map Lt.neg = c.map Lt.neg := by
  rw [List.map_map]; rfl

-- 
theorem cApply_abs (W : World) (L : List Bd) (c : List Lt) (hn : c.length ≤ 1000000) (hl : L.length ≤ 1000000000) (hb : bdsOk L) (hr : (⟨0, sidL c⟩ : Tm).rng) (hok : (⟨0, sidL c⟩ : Tm).ok) : AFun Tryz.prog W 22 [.lst (L.map Bd.cv), .lst (c.map Lt.cv)] (.val (.lst ((c.map (Lt.rep (imgB L))).map Lt.cv))) := by
  have h2 := fun w => applyG_abs w L ⟨0, sidL c⟩ hl hb hr hok
  rw [rep_sides] at h2
  refine afun_of (rs := [.lst ((c.map (Lt.rep (imgB L))).map Lt.cv)]) Tryz.func22 Tryz.ntmps22 rfl rfl rfl rfl ?_
  intro w U hW
  refine aS (aR ?_)
  (refine nx (aA (gN rfl) rfl rfl rfl rfl rfl) rfl ?_)
  show AWp _ _ _ _ _ _ _
  refine aS (aR ?_)
  (refine nx (aM (gN rfl) rfl rfl rfl rfl rfl) rfl ?_)
  (refine nx (aM (gN rfl) rfl rfl rfl rfl rfl) rfl ?_)
  (refine nx (aM (gN rfl) rfl rfl rfl rfl rfl) rfl ?_)
  (refine nx (a_call (gN rfl) rfl rfl rfl rfl rfl (cSides_abs w c hn)) rfl ?_)
  (refine nx (a_call (gN rfl) rfl rfl rfl rfl rfl (h2 w)) rfl ?_)
  (refine nx (a_call (gN rfl) rfl rfl rfl rfl rfl (cWith_abs w c _ 0 hn (rep_neg _ c))) rfl ?_)
  (refine nx (aA (gN rfl) rfl rfl rfl rfl rfl) rfl ?_)
  show AWp _ _ _ _ _ _ _
  exact aT (And.intro (.inr rfl) rfl)

-- 
theorem cRename_abs (W : World) (c : List Lt) (by_ : Int) (hn : c.length ≤ 1000000) (hr : (⟨0, sidL c⟩ : Tm).rng) (hok : (⟨0, sidL c⟩ : Tm).ok) : AFun Tryz.prog W 20 [.lst (c.map Lt.cv), .i by_] (.val (.lst ((c.map (Lt.rep fun v => varT (upV (max by_ 0) v))).map Lt.cv))) := by
  have h2 := fun w => rename_abs w ⟨0, sidL c⟩ by_ hr hok
  rw [rep_sides] at h2
  refine afun_of (rs := [.lst ((c.map (Lt.rep fun v => varT (upV (max by_ 0) v))).map Lt.cv)]) Tryz.func20 Tryz.ntmps20 rfl rfl rfl rfl ?_
  intro w U hW
  refine aS (aR ?_)
  (refine nx (aA (gN rfl) rfl rfl rfl rfl rfl) rfl ?_)
  show AWp _ _ _ _ _ _ _
  refine aS (aR ?_)
  (refine nx (aM (gN rfl) rfl rfl rfl rfl rfl) rfl ?_)
  (refine nx (aM (gN rfl) rfl rfl rfl rfl rfl) rfl ?_)
  (refine nx (a_call (gN rfl) rfl rfl rfl rfl rfl (cSides_abs w c hn)) rfl ?_)
  (refine nx (aM (gN rfl) rfl rfl rfl rfl rfl) rfl ?_)
  (refine nx (a_call (gN rfl) rfl rfl rfl rfl rfl (h2 w)) rfl ?_)
  (refine nx (a_call (gN rfl) rfl rfl rfl rfl rfl (cWith_abs w c _ 0 hn (rep_neg _ c))) rfl ?_)
  (refine nx (aA (gN rfl) rfl rfl rfl rfl rfl) rfl ?_)
  show AWp _ _ _ _ _ _ _
  exact aT (And.intro (.inr rfl) rfl)
end Go.Proofs.YtmeegdomncadpaaGreat
namespace Go.Proofs.YtmeegdomncadpaaGreat
open Go.RowKit
set_option linter.unusedVariables false
set_option linter.unusedSimpArgs false
section
variable {α β : Type}
def kDn (p : α → Bool) (l : List α) : Nat → Nat
  | 0 => 0
  | k + 1 => match l[k]? with
    | some y => if p y = true then kDn p l k else k + 1
    | none => k + 1
def insD (lt : α → α → Bool) (l : List α) (x : α) : List α := l.take (kDn (lt x) l l.length) ++ x :: l.drop (kDn (lt x) l l.length)
def srtD (lt : α → α → Bool) (c : List α) : List α := c.foldl (insD lt) []
theorem kDn_le (p : α → Bool) (l : List α) : ∀ k, kDn p l k ≤ k
  | 0 => Nat.le_refl _
  | k + 1 => by
    unfold kDn
    split
    · split
      · have := kDn_le p l k; omega
      · exact Nat.le_refl _
    · exact Nat.le_refl _
theorem kDn_app (p : α → Bool) (l m : List α) : ∀ k, k ≤ l.length → kDn p (l ++ m) k = kDn p l k
  | 0, _ => rfl
  | k + 1, h => by
    unfold kDn
    rw [List.getElem?_append_left (by omega), kDn_app p l m k (by omega)]
theorem kDn_yes {p : α → Bool} {l : List α} {y : α} (h : p y = true) : kDn p (l ++ [y]) (l ++ [y]).length = kDn p l l.length := by
  rw [List.length_append, List.length_singleton]
  show kDn p (l ++ [y]) (l.length + 1) = _
  unfold kDn
  rw [List.getElem?_append_right (Nat.le_refl _), Nat.sub_self]
  simp only [List.getElem?_cons_zero, h, if_true]
  rw [kDn_app p l [y] l.length (Nat.le_refl _)]
  cases l.length <;> rfl
theorem kDn_no {p : α → Bool} {l : List α} {y : α} (h : p y = false) : kDn p (l ++ [y]) (l ++ [y]).length = (l ++ [y]).length := by
  rw [List.length_append, List.length_singleton]
  show kDn p (l ++ [y]) (l.length + 1) = _
  unfold kDn
  rw [List.getElem?_append_right (Nat.le_refl _), Nat.sub_self]
  simp [h]
theorem snoc_all {Q : List α → Prop} (h0 : Q []) (h1 : ∀ l x, Q l → Q (l ++ [x])) : ∀ l, Q l := by
  intro l
  have : ∀ m : List α, Q m.reverse := fun m => by
    induction m with
    | nil => exact h0
    | cons x m ih => rw [List.reverse_cons]; exact h1 _ _ ih
  have := this l.reverse
  rwa [List.reverse_reverse] at this
theorem sink_ins (lt : α → α → Bool) (x : α) : ∀ (A R : List α), sink lt 0 A.length (A ++ x :: R) = insD lt A x ++ R := by
  intro A
  induction A using snoc_all with
  | h0 => intro R; rfl
  | h1 A y ih =>
    intro R
    rw [List.length_append, List.length_singleton]
    have hx : (A ++ [y] ++ x :: R)[A.length + 1]? = some x := by
      rw [List.getElem?_append_right (by simp)]; simp
    have hy : (A ++ [y] ++ x :: R)[A.length]? = some y := by
      rw [List.append_assoc, List.getElem?_append_right (Nat.le_refl _)]; simp
    cases h : lt x y with
    | true =>
      rw [sink_yes lt 0 hx hy (by omega) h]
      have e : ((A ++ [y] ++ x :: R).set (A.length + 1) y).set A.length x = A ++ x :: (y :: R) := by
        rw [List.append_assoc, List.set_append_right _ _ (by omega), List.set_append_right _ _ (Nat.le_refl _)]
        rw [show A.length + 1 - A.length = 1 by omega, Nat.sub_self]
        rfl
      rw [e, ih]
      unfold insD
      rw [kDn_yes h, List.take_append_of_le_length (kDn_le _ _ _), List.drop_append_of_le_length (kDn_le _ _ _)]
      simp
    | false =>
      rw [sink_no lt 0 hx hy h]
      unfold insD
      rw [kDn_no h, List.take_length, List.drop_length]
      simp
theorem insD_len (lt : α → α → Bool) (l : List α) (x : α) : (insD lt l x).length = l.length + 1 := by
  unfold insD
  have := kDn_le (lt x) l l.length
  rw [List.length_append, List.length_cons, List.length_take, List.length_drop]
  omega
theorem isort_ins (lt : α → α → Bool) : ∀ (n : Nat) (A B : List α), n ≤ B.length → isortN lt 0 n A.length (A ++ B) = (B.take n).foldl (insD lt) A ++ B.drop n
  | 0, A, B, _ => by simp [isortN]
  | n + 1, A, x :: B, h => by
    rw [isortN, sink_ins]
    have := isort_ins lt n (insD lt A x) B (by simpa using h)
    rw [insD_len] at this
    rw [this]
    simp
  | n + 1, A, [], h => by simp at h
theorem isort_srt0 (lt : α → α → Bool) (L : List α) : isortN lt 0 (L.length - 1) 1 L = srtD lt L := by
  cases L with
  | nil => rfl
  | cons x L =>
    have := isort_ins lt L.length [x] L (Nat.le_refl _)
    simp only [List.length_singleton, List.singleton_append, List.take_length, List.drop_length, List.append_nil] at this
    rw [List.length_cons, Nat.add_sub_cancel, this]
    rfl
theorem insD_perm (lt : α → α → Bool) (l : List α) (x : α) : (insD lt l x).Perm (x :: l) := by
  unfold insD
  refine List.perm_middle.trans ?_
  rw [List.take_append_drop]
theorem srtD_snoc (lt : α → α → Bool) (c : List α) (x : α) : srtD lt (c ++ [x]) = insD lt (srtD lt c) x := by
  unfold srtD
  rw [List.foldl_append]
  rfl
theorem srtD_perm (lt : α → α → Bool) (c : List α) : (srtD lt c).Perm c := by
  induction c using snoc_all with
  | h0 => exact List.Perm.refl _
  | h1 c x ih =>
    rw [srtD_snoc]
    refine (insD_perm lt _ x).trans ?_
    exact ((List.Perm.cons x ih).trans (List.perm_append_comm (l₁ := [x]) (l₂ := c)))
theorem kDn_map {lt1 : α → Bool} {lt2 : β → Bool} (g : α → β) (l : List α) (h : ∀ y ∈ l, lt1 y = lt2 (g y)) : ∀ k, kDn lt1 l k = kDn lt2 (l.map g) k
  | 0 => rfl
  | k + 1 => by
    unfold kDn
    rw [List.getElem?_map]
    cases hk : l[k]? with
    | none => rfl
    | some y =>
      simp only [Option.map_some]
      rw [h y (List.mem_of_getElem? hk), kDn_map g l h k]
theorem srtD_map {lt1 : α → α → Bool} {lt2 : β → β → Bool} (g : α → β) (c : List α) (h : ∀ x ∈ c, ∀ y ∈ c, lt1 x y = lt2 (g x) (g y)) : (srtD lt1 c).map g = srtD lt2 (c.map g) := by
  induction c using snoc_all with
  | h0 => rfl
  | h1 c x ih =>
    have ih := ih fun x hx y hy => h x (List.mem_append_left _ hx) y (List.mem_append_left _ hy)
    rw [srtD_snoc, List.map_append, List.map_singleton, srtD_snoc, ← ih]
    unfold insD
    have hk := kDn_map (lt1 := lt1 x) (lt2 := lt2 (g x)) g (srtD lt1 c) (fun y hy => h x (by simp) y (List.mem_append_left _ ((srtD_perm lt1 c).mem_iff.1 hy))) (srtD lt1 c).length
    rw [List.length_map, ← hk, List.map_append, List.map_cons, List.map_take, List.map_drop]
theorem kDn_split (p : α → Bool) (l : List α) : (∀ y ∈ l.drop (kDn p l l.length), p y = true) ∧ ∀ y, (l.take (kDn p l l.length)).getLast? = some y → p y = false := by
  induction l using snoc_all with
  | h0 => exact ⟨by simp [kDn], by simp [kDn]⟩
  | h1 l y ih =>
    cases h : p y with
    | true =>
      rw [kDn_yes h, List.drop_append_of_le_length (kDn_le _ _ _), List.take_append_of_le_length (kDn_le _ _ _)]
      refine ⟨fun z hz => ?_, ih.2⟩
      rcases List.mem_append.1 hz with hz | hz
      · exact ih.1 z hz
      · rw [List.mem_singleton.1 hz]; exact h
    | false =>
      rw [kDn_no h, List.take_length, List.drop_length]
      refine ⟨by simp, fun z hz => ?_⟩
      rw [List.getLast?_concat] at hz
      injection hz with hz
      rw [← hz]; exact h
theorem srtD_pairwise {lt : α → α → Bool} {R : α → α → Prop} (c : List α) (hlt : ∀ x y, lt x y = true → R x y) (htr : ∀ x y z, R x y → R y z → R x z) (hin : c.Pairwise fun x y => lt y x = false → R x y) : (srtD lt c).Pairwise R := by
  induction c using snoc_all with
  | h0 => exact List.Pairwise.nil
  | h1 c x ih =>
    rw [List.pairwise_append] at hin
    have ih := ih hin.1
    have hx : ∀ y ∈ srtD lt c, lt x y = false → R y x := fun y hy => hin.2.2 y ((srtD_perm lt c).mem_iff.1 hy) x (by simp)
    rw [srtD_snoc]
    obtain ⟨k1, k2⟩ := kDn_split (lt x) (srtD lt c)
    unfold insD
    generalize kDn (lt x) (srtD lt c) (srtD lt c).length = k at k1 k2
    have hall := ih
    rw [← List.take_append_drop k (srtD lt c), List.pairwise_append] at hall
    obtain ⟨p1, p2, p3⟩ := hall
    have hbe : ∀ y ∈ (srtD lt c).take k, R y x := by
      intro y hy
      cases hl : ((srtD lt c).take k).getLast? with
      | none =>
        rw [List.getLast?_eq_none_iff] at hl
        rw [hl] at hy; cases hy
      | some z =>
        have hz : R z x := hx z (List.mem_of_mem_take (List.mem_of_getLast? hl)) (k2 z hl)
        obtain ⟨ys, e⟩ := List.getLast?_eq_some_iff.1 hl
        rw [e] at hy p1
        rw [List.pairwise_append] at p1
        rcases List.mem_append.1 hy with hy | hy
        · exact htr y z x (p1.2.2 y hy z (by simp)) hz
        · rw [List.mem_singleton.1 hy]; exact hz
    rw [List.pairwise_append]
    refine ⟨p1, ?_, ?_⟩
    · rw [List.pairwise_cons]
      exact ⟨fun y hy => hlt x y (k1 y hy), p2⟩
    · intro a ha b hb
      rcases List.mem_cons.1 hb with rfl | hb
      · exact hbe a ha
      · exact p3 a ha b hb

def cptG (q : α → α → Bool) (L : List α) : Nat → List α
  | 0 => []
  | 1 => L.take 1
  | m + 2 => match L[m + 1]?, L[m]? with
    | some x, some y => if q x y = true then cptG q L (m + 1) else cptG q L (m + 1) ++ [x]
    | _, _ => cptG q L (m + 1)
theorem cptG_yes {q : α → α → Bool} {L : List α} {m : Nat} {x y : α} (hx : L[m + 1]? = some x) (hy : L[m]? = some y) (h : q x y = true) : cptG q L (m + 2) = cptG q L (m + 1) := by
  rw [cptG, hx, hy]; simp [h]
theorem cptG_no {q : α → α → Bool} {L : List α} {m : Nat} {x y : α} (hx : L[m + 1]? = some x) (hy : L[m]? = some y) (h : q x y = false) : cptG q L (m + 2) = cptG q L (m + 1) ++ [x] := by
  rw [cptG, hx, hy]; simp [h]
theorem cptG_one {q : α → α → Bool} {L : List α} : cptG q L 1 = L.take 1 := by rw [cptG]
theorem cptG_sub {q : α → α → Bool} {L : List α} : ∀ m, (cptG q L m).Sublist (L.take m)
  | 0 => by simp [cptG]
  | 1 => by rw [cptG]; exact List.Sublist.refl _
  | m + 2 => by
    have ih := cptG_sub (q := q) (L := L) (m + 1)
    have h2 : (L.take (m + 1)).Sublist (L.take (m + 2)) := List.take_sublist_take_left (by omega)
    rw [cptG]
    split
    · rename_i x y hx hy
      split
      · exact ih.trans h2
      · rw [List.take_add_one (i := m + 1), hx]
        exact ih.append (List.Sublist.refl _)
    · exact ih.trans h2
theorem cptG_mem {q : α → α → Bool} {L : List α} {x : α} : ∀ m, m ≤ L.length → (x ∈ cptG q L m ↔ ∃ i, i < m ∧ L[i]? = some x ∧ (i = 0 ∨ ∃ y, L[i - 1]? = some y ∧ q x y = false))
  | 0, _ => by simp [cptG]
  | 1, h => by
    rw [cptG]
    cases L with
    | nil => simp at h
    | cons z L =>
      simp only [List.take_succ_cons, List.take_zero, List.mem_singleton]
      constructor
      · rintro rfl
        exact ⟨0, by omega, rfl, .inl rfl⟩
      · rintro ⟨i, hi, h1, _⟩
        rw [show i = 0 by omega] at h1
        simpa using h1.symm
  | m + 2, h => by
    have ih := cptG_mem (q := q) (L := L) (x := x) (m + 1) (by omega)
    obtain ⟨a, ha⟩ : ∃ a, L[m + 1]? = some a := ⟨_, List.getElem?_eq_getElem (by omega)⟩
    obtain ⟨b, hb⟩ : ∃ b, L[m]? = some b := ⟨_, List.getElem?_eq_getElem (by omega)⟩
    cases hq : q a b with
    | true =>
      rw [cptG_yes ha hb hq, ih]
      constructor
      · rintro ⟨i, hi, r⟩
        exact ⟨i, by omega, r⟩
      · rintro ⟨i, hi, h1, h2⟩
        rcases Nat.lt_or_ge i (m + 1) with hlt | hge
        · exact ⟨i, hlt, h1, h2⟩
        · have hi : i = m + 1 := by omega
          subst hi
          rw [ha] at h1
          injection h1 with h1
          rcases h2 with h2 | ⟨y, hy, h2⟩
          · omega
          · rw [show m + 1 - 1 = m by omega, hb] at hy
            injection hy with hy
            rw [← h1, ← hy, hq] at h2
            cases h2
    | false =>
      rw [cptG_no ha hb hq, List.mem_append, ih, List.mem_singleton]
      constructor
      · rintro (⟨i, hi, r⟩ | rfl)
        · exact ⟨i, by omega, r⟩
        · exact ⟨m + 1, by omega, ha, .inr ⟨b, hb, hq⟩⟩
      · rintro ⟨i, hi, h1, h2⟩
        rcases Nat.lt_or_ge i (m + 1) with hlt | hge
        · exact .inl ⟨i, hlt, h1, h2⟩
        · have hi : i = m + 1 := by omega
          subst hi
          rw [ha] at h1
          injection h1 with h1
          exact .inr h1.symm
def dedD (q : α → α → Bool) (c : List α) : List α := c.foldl (fun out x => if out.any (fun y => q y x) then out else out ++ [x]) []
theorem dedD_snoc (q : α → α → Bool) (c : List α) (x : α) : dedD q (c ++ [x]) = if (dedD q c).any (fun y => q y x) then dedD q c else dedD q c ++ [x] := by
  unfold dedD
  rw [List.foldl_append]
  rfl
theorem dedD_map {q1 : α → α → Bool} {q2 : β → β → Bool} (g : α → β) (h : ∀ x y, q1 x y = q2 (g x) (g y)) (c : List α) : (dedD q1 c).map g = dedD q2 (c.map g) := by
  induction c using snoc_all with
  | h0 => rfl
  | h1 c x ih =>
    rw [List.map_append, List.map_singleton, dedD_snoc, dedD_snoc, ← ih, List.any_map]
    have e : (dedD q1 c).any (fun y => q1 y x) = (dedD q1 c).any ((fun y => q2 y (g x)) ∘ g) := by
      congr 1
      funext y
      exact h y x
    rw [e]
    split <;> simp
theorem asc_eq : ∀ {A B : List Int}, A.Pairwise (· < ·) → B.Pairwise (· < ·) → (∀ x, x ∈ A ↔ x ∈ B) → A = B
  | [], [], _, _, _ => rfl
  | [], y :: B, _, _, h => by have := (h y).2 (by simp); cases this
  | x :: A, [], _, _, h => by have := (h x).1 (by simp); cases this
  | x :: A, y :: B, hA, hB, h => by
    rw [List.pairwise_cons] at hA hB
    have hxy : x = y := by
      rcases List.mem_cons.1 ((h x).1 (by simp)) with e | e
      · exact e
      · rcases List.mem_cons.1 ((h y).2 (by simp)) with e2 | e2
        · exact e2.symm
        · have := hA.1 y e2; have := hB.1 x e; omega
    subst hxy
    congr 1
    refine asc_eq hA.2 hB.2 fun z => ⟨fun hz => ?_, fun hz => ?_⟩
    · rcases List.mem_cons.1 ((h z).1 (List.mem_cons_of_mem _ hz)) with e | e
      · have := hA.1 z hz; omega
      · exact e
    · rcases List.mem_cons.1 ((h z).2 (List.mem_cons_of_mem _ hz)) with e | e
      · have := hB.1 z hz; omega
      · exact e
end
def sgZ (b : Bool) : Int := if b then 1 else 0
def cmpLt (x y : Lt) : Int := if cmpZ (sgZ x.neg) (sgZ y.neg) ≠ 0 then cmpZ (sgZ x.neg) (sgZ y.neg) else cmpS x y
theorem cmpS_zero (x y : Lt) : cmpS x y = 0 ↔ x.a.strip = y.a.strip ∧ x.b.strip = y.b.strip := by
  unfold cmpS
  by_cases h : cmpT x.a y.a = 0
  · rw [if_neg (by simpa using h), cmpT_zero]
    exact ⟨fun e => ⟨(cmpT_zero _ _).1 h, e⟩, fun e => e.2⟩
  · rw [if_pos h]
    exact ⟨fun e => absurd e h, fun e => absurd ((cmpT_zero _ _).2 e.1) h⟩
theorem cmpS_turn (x y : Lt) : cmpS y x = - cmpS x y := by
  unfold cmpS
  rw [cmpT_turn x.a y.a, cmpT_turn x.b y.b]
  by_cases h : cmpT x.a y.a = 0
  · rw [if_neg (by omega), if_neg (by omega)]
  · rw [if_pos (by omega), if_pos (by omega)]
theorem cmpS_trans (x y z : Lt) : Goon (cmpS x y) (cmpS y z) (cmpS x z) := by
  unfold cmpS
  exact goon_step (cmpT_trans _ _ _) (cmpT_trans _ _ _) (fun e => cmpT_congr ((cmpT_zero _ _).1 e) _)
theorem sg_trans (a b c : Bool) : Goon (cmpZ (sgZ a) (sgZ b)) (cmpZ (sgZ b) (sgZ c)) (cmpZ (sgZ a) (sgZ c)) := by
  unfold Goon
  cases a <;> cases b <;> cases c <;> decide
theorem sg_turn (a b : Bool) : cmpZ (sgZ b) (sgZ a) = - cmpZ (sgZ a) (sgZ b) := by cases a <;> cases b <;> decide
theorem sg_zero (a b : Bool) : cmpZ (sgZ a) (sgZ b) = 0 ↔ a = b := by cases a <;> cases b <;> decide
theorem cmpLt_zero (x y : Lt) : cmpLt x y = 0 ↔ x.strip = y.strip := by
  obtain ⟨n, a, b⟩ := x
  obtain ⟨m, c, d⟩ := y
  unfold cmpLt Lt.strip
  by_cases h : n = m
  · subst h
    rw [if_neg (by simp [sg_zero]), cmpS_zero]
    simp
  · rw [if_pos (by simp only [ne_eq, sg_zero]; exact h)]
    simp only [sg_zero, Lt.mk.injEq]
    exact ⟨fun e => absurd e h, fun e => e.1⟩
theorem cmpLt_turn (x y : Lt) : cmpLt y x = - cmpLt x y := by
  unfold cmpLt
  rw [sg_turn x.neg y.neg, cmpS_turn x y]
  by_cases h : cmpZ (sgZ x.neg) (sgZ y.neg) = 0
  · rw [if_neg (by omega), if_neg (by omega)]
  · rw [if_pos (by omega), if_pos (by omega)]
theorem cmpLt_trans (x y z : Lt) : Goon (cmpLt x y) (cmpLt y z) (cmpLt x z) := by
  unfold cmpLt
  exact goon_step (sg_trans _ _ _) (cmpS_trans _ _ _) (fun e => by rw [(sg_zero _ _).1 e])
theorem cmpLt_congr {x x' : Lt} (h : x.strip = x'.strip) (y : Lt) : cmpLt x y = cmpLt x' y := by
  obtain ⟨n, a, b⟩ := x
  obtain ⟨m, c, d⟩ := x'
  simp only [Lt.strip, Lt.mk.injEq] at h
  obtain ⟨rfl, h1, h2⟩ := h
  unfold cmpLt cmpS
  simp only [cmpT_congr h1, cmpT_congr h2]
theorem cmpLt_congr2 {x x' y y' : Lt} (h : x.strip = x'.strip) (h2 : y.strip = y'.strip) : cmpLt x y = cmpLt x' y' := by
  rw [cmpLt_congr h, cmpLt_turn y x', cmpLt_congr h2, ← cmpLt_turn]

def litAt (c : List Lt) (m : Int) : Lt := (c[m.toNat]?).getD ⟨false, ⟨0, []⟩, ⟨0, []⟩⟩
theorem litAt_at {c : List Lt} {k : Nat} {x : Lt} (h : c[k]? = some x) : litAt c k = x := by
  unfold litAt
  rw [Int.toNat_natCast, h]; rfl
def ltI (c : List Lt) (m n : Int) : Bool := decide (cmpLt (litAt c m) (litAt c n) < 0)
def sameI (c : List Lt) (m n : Int) : Bool := decide (cmpLt (litAt c m) (litAt c n) = 0)
def plc1 (c : List Lt) : List Int := srtD (ltI c) (nums c.length)
def plc2 (c : List Lt) : List Int := cptG (sameI c) (plc1 c) (plc1 c).length
def plc3 (c : List Lt) : List Int := srtD (fun m n : Int => decide (m < n)) (plc2 c)
def wdL (c : List Lt) : List Lt := (plc3 c).map (litAt c)
def RI (c : List Lt) (m n : Int) : Prop := cmpLt (litAt c m) (litAt c n) < 0 ∨ (cmpLt (litAt c m) (litAt c n) = 0 ∧ m < n)
theorem RI_trans (c : List Lt) (x y z : Int) (h1 : RI c x y) (h2 : RI c y z) : RI c x z := by
  have g := cmpLt_trans (litAt c x) (litAt c y) (litAt c z)
  unfold RI at *
  unfold Goon at g
  have g := g (by omega) (by omega)
  by_cases e : cmpLt (litAt c x) (litAt c z) = 0
  · have := g.2 e
    right
    omega
  · left; omega
theorem nums_asc (n : Nat) : (nums n).Pairwise (· < ·) := by
  unfold nums
  rw [List.pairwise_map]
  exact List.pairwise_lt_range.imp fun h => by omega
theorem nums_mem {n : Nat} {m : Int} : m ∈ nums n ↔ 0 ≤ m ∧ m < n := by
  unfold nums
  rw [List.mem_map]
  constructor
  · rintro ⟨i, hi, rfl⟩
    have := List.mem_range.1 hi
    omega
  · intro h
    exact ⟨m.toNat, List.mem_range.2 (by omega), by omega⟩
theorem plc1_pw (c : List Lt) : (plc1 c).Pairwise (RI c) := by
  refine srtD_pairwise _ (fun x y h => .inl (by simpa [ltI] using h)) (RI_trans c) ?_
  refine (nums_asc c.length).imp fun {x y} hxy h => ?_
  have h : ¬ cmpLt (litAt c y) (litAt c x) < 0 := by simpa [ltI] using h
  rw [cmpLt_turn (litAt c x) (litAt c y)] at h
  unfold RI
  omega
theorem plc1_mem (c : List Lt) (m : Int) : m ∈ plc1 c ↔ 0 ≤ m ∧ m < c.length := by
  unfold plc1
  rw [(srtD_perm _ _).mem_iff, nums_mem]
def fstI (c : List Lt) (m : Int) : Prop := ∀ k : Int, 0 ≤ k → k < m → cmpLt (litAt c k) (litAt c m) ≠ 0
theorem pw_at {α : Type} {R : α → α → Prop} {l : List α} (h : l.Pairwise R) {i j : Nat} {x y : α} (hx : l[i]? = some x) (hy : l[j]? = some y) (hij : i < j) : R x y := by
  obtain ⟨h1, rfl⟩ := List.getElem?_eq_some_iff.1 hx
  obtain ⟨h2, rfl⟩ := List.getElem?_eq_some_iff.1 hy
  exact List.pairwise_iff_getElem.1 h i j h1 h2 hij
theorem plc2_mem (c : List Lt) (m : Int) : m ∈ plc2 c ↔ (0 ≤ m ∧ m < c.length) ∧ fstI c m := by
  have hpw := plc1_pw c
  unfold plc2
  rw [cptG_mem _ (Nat.le_refl _)]
  constructor
  · rintro ⟨i, hi, h1, h2⟩
    have hm := (plc1_mem c m).1 (List.mem_of_getElem? h1)
    refine ⟨hm, fun k hk0 hkm e => ?_⟩
    obtain ⟨j, hj, ej⟩ := List.mem_iff_getElem.1 ((plc1_mem c k).2 ⟨hk0, by omega⟩)
    have hj' : (plc1 c)[j]? = some k := by rw [List.getElem?_eq_getElem hj, ej]
    have e2 := cmpLt_turn (litAt c k) (litAt c m)
    rcases Nat.lt_trichotomy j i with hlt | heq | hgt
    · rcases h2 with h2 | ⟨y, hy, h2⟩
      · omega
      · have h2 : ¬ cmpLt (litAt c m) (litAt c y) = 0 := by simpa [sameI] using h2
        have e3 := cmpLt_turn (litAt c m) (litAt c y)
        have r1 := pw_at hpw hy h1 (by omega)
        rcases Nat.lt_or_ge j (i - 1) with h3 | h3
        · have r2 := pw_at hpw hj' hy h3
          have g := cmpLt_trans (litAt c k) (litAt c y) (litAt c m)
          unfold Goon at g
          unfold RI at r1 r2
          have g := (g (by omega) (by omega)).2 e
          omega
        · have : j = i - 1 := by omega
          subst this
          rw [hy] at hj'
          injection hj' with hj'
          rw [hj'] at h2
          omega
    · rw [heq, h1] at hj'
      injection hj' with hj'
      omega
    · have r := pw_at hpw h1 hj' hgt
      unfold RI at r
      omega
  · rintro ⟨hm, hf⟩
    obtain ⟨i, hi, ei⟩ := List.mem_iff_getElem.1 ((plc1_mem c m).2 hm)
    have hi' : (plc1 c)[i]? = some m := by rw [List.getElem?_eq_getElem hi, ei]
    refine ⟨i, hi, hi', ?_⟩
    by_cases h0 : i = 0
    · exact .inl h0
    · obtain ⟨y, hy⟩ : ∃ y, (plc1 c)[i - 1]? = some y := ⟨_, List.getElem?_eq_getElem (by omega)⟩
      refine .inr ⟨y, hy, ?_⟩
      have r := pw_at hpw hy hi' (by omega)
      have hym := (plc1_mem c y).1 (List.mem_of_getElem? hy)
      have e3 := cmpLt_turn (litAt c m) (litAt c y)
      unfold sameI
      rw [decide_eq_false_iff_not]
      intro e
      unfold RI at r
      exact hf y hym.1 (by omega) (by omega)
theorem plc2_nodup (c : List Lt) : (plc2 c).Pairwise (· ≠ ·) := by
  have h1 : (plc1 c).Pairwise (· ≠ ·) := (plc1_pw c).imp fun {x y} h e => by
    subst e
    unfold RI at h
    have := (cmpLt_zero (litAt c x) (litAt c x)).2 rfl
    omega
  unfold plc2
  refine List.Pairwise.sublist (cptG_sub _) ?_
  rw [List.take_length]
  exact h1
theorem plc3_asc (c : List Lt) : (plc3 c).Pairwise (· < ·) := by
  refine srtD_pairwise _ (fun x y h => by simpa using h) (fun x y z h1 h2 => by omega) ?_
  exact (plc2_nodup c).imp fun {x y} hne h => by
    have h : ¬ y < x := by simpa using h
    omega
theorem plc3_mem (c : List Lt) (m : Int) : m ∈ plc3 c ↔ (0 ≤ m ∧ m < c.length) ∧ fstI c m := by
  unfold plc3
  rw [(srtD_perm _ _).mem_iff, plc2_mem]
open Classical in
noncomputable def fsts (c : List Lt) (k : Nat) : List Int := (nums k).filter fun m => decide (fstI c m)
open Classical in
theorem plc3_eq (c : List Lt) : plc3 c = fsts c c.length := by
  refine asc_eq (plc3_asc c) ?_ fun m => ?_
  · unfold fsts
    exact (nums_asc _).filter _
  · unfold fsts
    rw [plc3_mem, List.mem_filter, nums_mem, decide_eq_true_iff]
theorem fst_ex (c : List Lt) : ∀ (n : Nat), ∃ i : Nat, i ≤ n ∧ fstI c i ∧ cmpLt (litAt c i) (litAt c n) = 0 := by
  intro n
  induction n using Nat.strongRecOn with
  | ind n ih =>
    by_cases h : fstI c n
    · exact ⟨n, Nat.le_refl _, h, (cmpLt_zero _ _).2 rfl⟩
    · unfold fstI at h
      simp only [Classical.not_forall, ne_eq, Decidable.not_not] at h
      obtain ⟨k, hk0, hkn, e⟩ := h
      obtain ⟨i, hi, hf, e2⟩ := ih k.toNat (by omega)
      rw [Int.toNat_of_nonneg hk0] at e2
      exact ⟨i, by omega, hf, (cmpLt_zero _ _).2 (((cmpLt_zero _ _).1 e2).trans ((cmpLt_zero _ _).1 e))⟩
def smL (x y : Lt) : Bool := decide (cmpLt x y = 0)
theorem nums_succ (k : Nat) : nums (k + 1) = nums k ++ [(k : Int)] := by
  unfold nums
  rw [List.range_succ, List.map_append]; rfl
open Classical in
theorem ded_fsts (c : List Lt) : ∀ k, k ≤ c.length → dedD smL (c.take k) = (fsts c k).map (litAt c)
  | 0, _ => by
    unfold fsts nums
    simp [dedD]
  | k + 1, h => by
    obtain ⟨x, hx⟩ : ∃ x, c[k]? = some x := ⟨_, List.getElem?_eq_getElem (by omega)⟩
    have hl := litAt_at hx
    rw [List.take_add_one, hx, Option.toList_some, dedD_snoc, ded_fsts c k (by omega)]
    have hs : fsts c (k + 1) = fsts c k ++ (if fstI c k then [(k : Int)] else []) := by
      unfold fsts
      rw [nums_succ, List.filter_append]
      congr 1
      by_cases hf : fstI c k <;> simp [List.filter, hf]
    have hany : ((fsts c k).map (litAt c)).any (fun y => smL y x) = true ↔ ¬ fstI c k := by
      rw [List.any_eq_true]
      constructor
      · rintro ⟨y, hy, hq⟩ hf
        obtain ⟨m, hm, rfl⟩ := List.mem_map.1 hy
        unfold fsts at hm
        rw [List.mem_filter, nums_mem] at hm
        refine hf m hm.1.1 hm.1.2 ?_
        rw [hl]
        simpa [smL] using hq
      · intro hf
        unfold fstI at hf
        simp only [Classical.not_forall, ne_eq, Decidable.not_not] at hf
        obtain ⟨j, hj0, hjk, e⟩ := hf
        obtain ⟨i, hi, hfi, e2⟩ := fst_ex c j.toNat
        rw [Int.toNat_of_nonneg hj0] at e2
        refine ⟨litAt c i, List.mem_map.2 ⟨i, ?_, rfl⟩, ?_⟩
        · unfold fsts
          rw [List.mem_filter, nums_mem, decide_eq_true_iff]
          exact ⟨by omega, hfi⟩
        · unfold smL
          rw [decide_eq_true_iff, ← hl]
          exact (cmpLt_zero _ _).2 (((cmpLt_zero _ _).1 e2).trans ((cmpLt_zero _ _).1 e))
    rw [hs, List.map_append]
    by_cases hf : fstI c k
    · rw [if_pos hf, if_neg (by rw [hany]; exact fun g => g hf)]
      simp [hl]
    · rw [if_neg hf, if_pos (hany.2 hf)]
      simp
theorem wd_ded (c : List Lt) : wdL c = dedD smL c := by
  have := ded_fsts c c.length (Nat.le_refl _)
  rw [List.take_length] at this
  rw [this]
  unfold wdL
  rw [plc3_eq]
end Go.Proofs.YtmeegdomncadpaaGreat
namespace Go.Proofs.YtmeegdomncadpaaGreat
open Go.RowKit
set_option linter.unusedVariables false
set_option linter.unusedSimpArgs false
set_option maxRecDepth 100000

end Go.Proofs.YtmeegdomncadpaaGreat
namespace Go.Proofs.YtmeegdomncadpaaGreat
open Go.RowKit
set_option linter.unusedVariables false
set_option linter.unusedSimpArgs false
section
variable {P : Program} {w0 : World} {U0 : UX} {nt : Nat} {ops : Array Oper} {o : Oper} {S : Nat → Option AV} {gs : List Nat} {d : Nat}
variable (hg : Gd w0 U0 nt ops o gs S) (hd : o.dst = some d) (hn : Nat.blt d nt = true) (h5 : Nat.blt d 100000 = true)
include hg hd hn h5
theorem a_addK {x y : Operand} {t1 t2 : TypeId} {k : IntKind} {i j : Int} {n q p n' q' p'} (ho : o.op = .binOp .add t1 x y t2) (hx : ev S x = some ⟨0, .sc (.int k i), n, q, p⟩) (hy : ev S y = some ⟨0, .sc (.int k j), n', q', p'⟩) (hr : k.wrap (i + j) = i + j) : AOp P w0 U0 nt ops o (gs ++ (rd x ++ rd y)) [] S [(d, .val (.sc (.int k (i + j))))] :=
  aop_int2 hg hd hn h5 ho hx hy (fun w => by simp [binOp, Op.intArith, hr, go_sem]) rfl
theorem a_convW {x : Operand} {src dst : TypeId} {k k' : IntKind} {i : Int} {ds : TypeDesc} {n q p} (ho : o.op = .convert src dst x) (hs1 : P.underlying src = some ds) (hu : P.underlying dst = some (.int k')) (hx : ev S x = some ⟨0, .sc (.int k i), n, q, p⟩) : AOp P w0 U0 nt ops o (gs ++ rd x) [] S [(d, .val (.sc (.int k' (k'.wrap i))))] :=
  aop_val hg hd hn h5 (fun k hk => List.mem_append_left _ hk) fun s hs a w D hv hm => by
    have e1 := ev_sc hm (fun k hk => hs k (List.mem_append_right _ hk)) hx
    refine ⟨.int k' (k'.wrap i), ?_, avrep_sc rfl⟩
    generalize a.eval = ρ at e1 ⊢
    simp [execOp, ho, e1, convert, Conv.intToInt, run_underlying hs1, run_underlying hu, go_sem]
end
end Go.Proofs.YtmeegdomncadpaaGreat
namespace Go.Proofs.YtmeegdomncadpaaGreat
set_option linter.unusedVariables false
def ub : Nat → Nat → List Int
  | 0, n => [(n : Int)]
  | k + 1, n => if n < 128 then [(n : Int)] else ((128 + n % 128 : Nat) : Int) :: ub k (n / 128)

def ubytes (n : Nat) : List Int := ub 9 n

def lenz (n : Nat) : Nat := if n = 0 then 0 else (ubytes n).length

def zz (n : Int) : Nat := if 0 ≤ n then (2 * n).toNat else (-2 * n - 1).toNat
end Go.Proofs.YtmeegdomncadpaaGreat
namespace Go.Proofs.YtmeegdomncadpaaGreat
open Go.RowKit
set_option linter.unusedVariables false






def lastAt : List Int → Option Nat
  | [] => none
  | b :: r => if b < 128 then some 0 else (lastAt r).map (· + 1)

def lastInt (l : List Int) : Int := match lastAt l with | none => -1 | some i => (i : Int)

theorem lastAt_none : ∀ {l : List Int}, (∀ i, i < l.length → 128 ≤ l.getD i 0) → lastAt l = none
  | [], _ => rfl
  | b :: r, h => by
    have h0 := h 0 (by simp)
    simp at h0
    rw [lastAt, if_neg (by omega), lastAt_none (fun i hi => by have := h (i + 1) (by simp; omega); simpa using this)]
    rfl
theorem lastAt_some : ∀ {l : List Int} {k : Nat}, k < l.length → (∀ i, i < k → 128 ≤ l.getD i 0) → l.getD k 0 < 128 → lastAt l = some k
  | [], k, hk, _, _ => by simp at hk
  | b :: r, 0, _, _, h => by simp at h; rw [lastAt, if_pos h]
  | b :: r, k + 1, hk, hp, h => by
    have h0 := hp 0 (by omega)
    simp at h0
    rw [lastAt, if_neg (by omega), lastAt_some (k := k) (by simpa using hk) (fun i hi => by have := hp (i + 1) (by omega); simpa using this) (by simpa using h)]
    rfl
theorem lastAt_lt : ∀ {l : List Int} {k : Nat}, lastAt l = some k → k < l.length ∧ (∀ i, i < k → 128 ≤ l.getD i 0) ∧ l.getD k 0 < 128
  | [], k, h => by cases h
  | b :: r, k, h => by
    rw [lastAt] at h
    split at h
    · cases h; exact ⟨by simp, by omega, by simpa⟩
    · rename_i hb
      cases hr : lastAt r with
      | none => rw [hr] at h; cases h
      | some j =>
        rw [hr] at h; cases h
        obtain ⟨h1, h2, h3⟩ := lastAt_lt hr
        refine ⟨by simp; omega, fun i hi => ?_, by simpa using h3⟩
        cases i with
        | zero => simp; omega
        | succ i => have := h2 i (by simp at hi; omega); simpa using this

def val : List Int → Nat
  | [] => 0
  | b :: r => (b % 128).toNat + 128 * val r

theorem val_snoc : ∀ (l : List Int) (b : Int), val (l ++ [b]) = val l + (b % 128).toNat * 128 ^ l.length
  | [], b => by simp [val]
  | c :: r, b => by
    rw [List.cons_append, val, val, val_snoc r b, List.length_cons, Nat.pow_succ, Nat.mul_add, Nat.add_assoc]
    congr 2
    rw [Nat.mul_left_comm, Nat.mul_comm 128]
theorem val_lt : ∀ (l : List Int), val l < 128 ^ l.length
  | [] => by simp [val]
  | c :: r => by
    have := val_lt r
    rw [val, List.length_cons, Nat.pow_succ]
    have h : (c % 128).toNat < 128 := by omega
    omega

def okNum (l : List Int) : Bool := decide (l.length ≤ 10 ∧ (l.length = 10 → l.getD (l.length - 1) 0 ≤ 1) ∧ (l.getD (l.length - 1) 0 ≠ 0 ∨ l.length = 1))

theorem andNot128 (X : Int) (h1 : 0 ≤ X) (h2 : X ≤ 255) : bits .andNot .u8 X 128 = X % 128 := by
  have h : ∀ a : Fin 256, bits .andNot .u8 ((a.val : Nat) : Int) 128 = ((a.val : Nat) : Int) % 128 := by decide +kernel
  have h3 := h ⟨X.toNat, by omega⟩
  simp only [Int.toNat_of_nonneg h1] at h3
  exact h3

theorem pow128 (j : Nat) : (2 : Int) ^ (7 * j) = ((128 ^ j : Nat) : Int) := by
  rw [Int.pow_mul]; simp

theorem join_step (x j : Nat) (X : Int) (hx : x < 128 ^ j) (h1 : 0 ≤ X) (h2 : X ≤ 255) (hj : j ≤ 9) (h9 : j = 9 → X ≤ 1) :
    bits .or .u64 (x : Int) (IntKind.u64.wrap (IntKind.u64.wrap (bits .andNot .u8 X 128) * 2 ^ (7 * j))) = ((x + (X % 128).toNat * 128 ^ j : Nat) : Int) ∧ x + (X % 128).toNat * 128 ^ j < 2 ^ 64 := by
  rw [andNot128 X h1 h2, pow128]
  obtain ⟨c, hc⟩ : ∃ c : Nat, X % 128 = (c : Int) := ⟨(X % 128).toNat, by omega⟩
  have hc7 : c < 128 := by omega
  have hlt : c * 128 ^ j + 128 ^ j ≤ 2 ^ 64 := by
    rcases Nat.lt_or_ge j 9 with hj' | hj'
    · have h8 : 128 ^ j ≤ 128 ^ 8 := Nat.pow_le_pow_right (by decide) (by omega)
      have : c * 128 ^ j ≤ 127 * 128 ^ 8 := Nat.mul_le_mul (by omega) h8
      omega
    · have e : j = 9 := by omega
      subst e
      have := h9 rfl
      have hc1 : c ≤ 1 := by omega
      clear hx
      show c * 9223372036854775808 + 9223372036854775808 ≤ 18446744073709551616
      omega
  have hp : 0 < 128 ^ j := Nat.pow_pos (by decide)
  rw [hc, Int.toNat_natCast]
  simp only [IntKind.wrap_u64]
  have e1 : (c : Int) % 18446744073709551616 = (c : Int) := by omega
  have e2 : ((c : Int) * ((128 ^ j : Nat) : Int)) % 18446744073709551616 = ((c * 128 ^ j : Nat) : Int) := by
    rw [← Int.natCast_mul]; omega
  rw [e1, e2]
  refine ⟨?_, by omega⟩
  rw [u64_or_nat x (c * 128 ^ j) (by omega) (by omega), Nat.or_comm]
  have e3 : 128 ^ j = 2 ^ (7 * j) := by rw [Nat.pow_mul]
  rw [nat_join (7 * j) (c * 128 ^ j) x (by rw [e3]; exact Nat.mul_mod_left _ _) (by rw [← e3]; exact hx), Nat.add_comm]

def unzz (n : Nat) : Int := if n % 2 = 0 then ((n / 2 : Nat) : Int) else -((n / 2 : Nat) : Int) - 1

theorem xor_i64_zero (x : Nat) (h : x < 9223372036854775808) : bits .xor .i64 (x : Int) 0 = (x : Int) := by
  unfold bits
  have e : BitVec.ofInt IntKind.i64.bits 0 = 0#64 := rfl
  have e2 : (BitVec.ofInt 64 (x : Int)).toNat = x := ofInt_u64 x (by omega)
  simp only [e]
  show IntKind.i64.wrap (((BitVec.ofInt 64 (x : Int)) ^^^ 0#64).toNat : Int) = _
  rw [BitVec.xor_zero, e2]
  simp [IntKind.wrap, IntKind.bits, IntKind.signed]
  omega
theorem xor_i64_ones (x : Nat) (h : x < 9223372036854775808) : bits .xor .i64 (x : Int) (-1) = -(x : Int) - 1 := by
  unfold bits
  have e2 : (BitVec.ofInt 64 (x : Int)).toNat = x := ofInt_u64 x (by omega)
  show IntKind.i64.wrap (((BitVec.ofInt 64 (x : Int)) ^^^ (BitVec.ofInt 64 (-1))).toNat : Int) = _
  have e : BitVec.ofInt 64 (-1) = BitVec.allOnes 64 := by decide
  rw [e, BitVec.xor_allOnes, BitVec.toNat_not, e2]
  simp [IntKind.wrap, IntKind.bits, IntKind.signed]
  omega

theorem unfold_eq (n : Nat) (hn : n < 2 ^ 64) : bits .xor .i64 ((n : Int) / 2) (wrap64 (-wrap64 (bits .and .u64 (n : Int) 1))) = unzz n := by
  have e1 : bits .and .u64 (n : Int) 1 = ((n % 2 : Nat) : Int) := by
    have := u64_and_nat n 1 (by omega) (by omega)
    rw [nat_mask1] at this
    exact this
  rw [e1, show (n : Int) / 2 = ((n / 2 : Nat) : Int) by omega]
  unfold unzz wrap64
  rcases Nat.mod_two_eq_zero_or_one n with h | h
  · rw [h, if_pos rfl]
    exact xor_i64_zero _ (by omega)
  · rw [h, if_neg (by decide)]
    exact xor_i64_ones _ (by omega)

theorem zz_unzz (n : Nat) : zz (unzz n) = n := by
  unfold unzz zz
  split <;> split <;> omega
theorem ret_bool {a b : Bool} (h : a = b) : Ending.returned (.bool a) = .returned (.bool b) := by rw [h]
theorem ret_int {k : IntKind} {a b : Int} (h : a = b) : Ending.returned (.int k a) = .returned (.int k b) := by rw [h]

set_option maxRecDepth 100000 in
set_option maxHeartbeats 400000 in
theorem isLast_any (c : Int) (w : World) : Calls Tryz.prog 152 #[.int .u8 c] w fun e w' => e = .returned (.bool (decide (c < 128))) ∧ w' = w := by
  go_enter Tryz.func152, Tryz.ntmps152
  go_wp2
  go_ret
  exact ⟨rfl, rfl⟩

set_option maxRecDepth 100000 in
set_option maxHeartbeats 400000 in
theorem unfold_any (n : Nat) (hn : n < 2 ^ 64) (w : World) :
    Calls Tryz.prog 162 #[.int .u64 (n : Int)] w fun e w' => e = .returned (.int .i64 (unzz n)) ∧ w' = w := by
  have hf : Hid (bits .xor .i64 ((n : Int) / 2) (wrap64 (-wrap64 (bits .and .u64 (n : Int) 1))) = unzz n) := unfold_eq n hn
  go_enter Tryz.func162, Tryz.ntmps162
  go_wp2
  go_ret
  exact ⟨ret_int hf.out, rfl⟩

theorem val_take {zs : List Int} {j : Nat} (h : j < zs.length) : val (zs.take (j + 1)) = val (zs.take j) + (zs.getD j 0 % 128).toNat * 128 ^ j := by
  rw [List.take_succ_eq_append_getElem h, val_snoc, List.length_take, Nat.min_eq_left (by omega)]
  simp [h]

theorem val_take_lt (zs : List Int) (j : Nat) (h : j ≤ zs.length) : val (zs.take j) < 128 ^ j := by
  have := val_lt (zs.take j)
  rwa [List.length_take, Nat.min_eq_left h] at this

set_option maxRecDepth 100000 in
set_option maxHeartbeats 400000 in
theorem join_any (a : Option Addr) (n cap : Nat) (zs : List Int) (w : World) (hb : Bs w a n zs) (hn : n ≤ 10) (h10 : n = 10 → zs.getD 9 0 ≤ 1) :
    Calls Tryz.prog 154 #[.slice a n cap] w fun e w' => e = .returned (.int .u64 (val zs : Int)) ∧ w' = w := by
  have H10 : Hid (n = 10 → zs.getD 9 0 ≤ 1) := h10
  clear h10
  go_enter Tryz.func154, Tryz.ntmps154
  go_wp2
  go_loop [3, 4, 5, 8] (fun v i c k => ∃ (x j : Nat), v = .int .u64 (x : Int) ∧ x < 2 ^ 64 ∧ k = .int .i64 (j : Int) ∧ j ≤ n ∧ x = val (zs.take j)) (fun v i c k => n - (intOf k).toNat)
  case atStart => exact ⟨0, 0, rfl, by decide, rfl, by omega, rfl⟩
  case round =>
    obtain ⟨x, j, rfl, hx, rfl, hj, hv⟩ := hrel
    have HV : Hid (x = val (zs.take j)) := hv
    clear hv
    by_cases hlt : j < n
    · obtain ⟨b1, b2, b3⟩ := hb
      have HL : Hid (zs.length = n) := b1
      clear b1
      rcases b3 with b3 | ⟨b, off, rfl, hb4, hc⟩
      · omega
      obtain ⟨X, hX⟩ : ∃ X, X = zs.getD j 0 := ⟨_, rfl⟩
      have c1 : w.cell? ⟨b, off + j, none⟩ = some (.int .u8 X) := by rw [hX]; exact hc j hlt
      have hXb : 0 ≤ X ∧ X ≤ 255 := by
        rw [hX, List.getD_eq_getElem?_getD, List.getElem?_eq_getElem (by rw [HL.out]; exact hlt)]
        exact b2 _ (List.getElem_mem _)
      have HX : Hid (X = zs.getD j 0) := hX
      clear hc hX b2
      go_wp2
      go_round
      case rel =>
        have hs := join_step x j X (by rw [HV.out]; exact val_take_lt zs j (by rw [HL.out]; omega)) hXb.1 hXb.2 (by omega) (fun h9 => by rw [HX.out, h9]; exact H10.out (by omega))
        exact ⟨_, j + 1, by rw [hs.1], hs.2, by go_num, by omega, by rw [val_take (by rw [HL.out]; exact hlt), ← HV.out, ← HX.out]⟩
      case measure => simp [intOf]; omega
    · have HL : Hid (zs.length = n) := hb.1
      clear hb
      go_wp2
      go_ret
      exact ⟨ret_int (by rw [HV.out, List.take_of_length_le (by rw [HL.out]; omega)]), rfl⟩

set_option maxRecDepth 100000 in
set_option maxHeartbeats 400000 in
theorem indexFunc_any (a : Option Addr) (n cap : Nat) (zs : List Int) (w : World) (hb : Bs w a n zs) (hn : n ≤ 140737488355328) :
    Calls Tryz.prog 151 #[.slice a n cap, .func (.func 152) #[] #[]] w fun e w' => e = .returned (.int .i64 (lastInt zs)) ∧ w' = w := by
  go_enter Tryz.func151, Tryz.ntmps151
  go_wp2
  go_loop [5, 8] (fun i k => ∃ (j : Nat), k = .int .i64 (j : Int) ∧ j ≤ n ∧ ∀ i, i < j → 128 ≤ zs.getD i 0) (fun _ k => n - (intOf k).toNat)
  case atStart => exact ⟨0, rfl, by omega, by omega⟩
  case round =>
    obtain ⟨j, rfl, hj, hv⟩ := hrel
    have HV : Hid (∀ i, i < j → 128 ≤ zs.getD i 0) := hv
    clear hv
    have HL : Hid (zs.length = n) := hb.1
    by_cases hlt : j < n
    · obtain ⟨b1, b2, b3⟩ := hb
      clear b1
      rcases b3 with b3 | ⟨b, off, rfl, hb4, hc⟩
      · omega
      obtain ⟨X, hX⟩ : ∃ X, X = zs.getD j 0 := ⟨_, rfl⟩
      have c1 : w.cell? ⟨b, off + j, none⟩ = some (.int .u8 X) := by rw [hX]; exact hc j hlt
      have HX : Hid (X = zs.getD j 0) := hX
      clear hc hX b2
      by_cases hX : X < 128
      · have hd : decide (X < 128) = true := by simpa using hX
        go_wp2_with fail
        refine (isLast_any X w).mono ?_
        rintro e w' ⟨rfl, rfl⟩
        go_wp2
        go_ret
        exact ⟨ret_int (by rw [lastInt, lastAt_some (by rw [HL.out]; exact hlt) HV.out (by rw [← HX.out]; exact hX)]), rfl⟩
      · have hd : decide (X < 128) = false := by simpa using hX
        go_wp2_with fail
        refine (isLast_any X w).mono ?_
        rintro e w' ⟨rfl, rfl⟩
        go_wp2
        go_round
        case rel => exact ⟨j + 1, by go_num, by omega, fun i hi => by rcases Nat.lt_or_ge i j with h | h; exact HV.out i h; rw [show i = j by omega, ← HX.out]; omega⟩
        case measure => simp [intOf]; omega
    · clear hb
      go_wp2
      go_ret
      exact ⟨ret_int (by rw [lastInt, lastAt_none (fun i hi => HV.out i (by rw [HL.out] at hi; omega))]), rfl⟩

set_option maxRecDepth 100000 in
set_option maxHeartbeats 400000 in
theorem isNumber_any (a : Option Addr) (n cap : Nat) (zs : List Int) (w : World) (hb : Bs w a n zs) (hn : n ≤ 140737488355328) (h0 : 0 < n) :
    Calls Tryz.prog 153 #[.slice a n cap] w fun e w' => e = .returned (.bool (okNum zs)) ∧ w' = w := by
  obtain ⟨b1, b2, b3⟩ := hb
  rcases b3 with b3 | ⟨b, off, rfl, hb4, hc⟩
  · omega
  obtain ⟨X, hX⟩ : ∃ X, X = zs.getD (n - 1) 0 := ⟨_, rfl⟩
  have hok : okNum zs = decide (n ≤ 10 ∧ (n = 10 → X ≤ 1) ∧ (X ≠ 0 ∨ n = 1)) := by rw [okNum, b1, hX]
  obtain ⟨m, rfl⟩ : ∃ m, n = m + 1 := ⟨n - 1, by omega⟩
  have c1 : w.cell? ⟨b, off + m, none⟩ = some (.int .u8 X) := by rw [hX]; exact hc m (by omega)
  have HO : Hid (okNum zs = decide (m + 1 ≤ 10 ∧ (m + 1 = 10 → X ≤ 1) ∧ (X ≠ 0 ∨ m + 1 = 1))) := hok
  clear hc hX hok b1 b2
  go_enter Tryz.func153, Tryz.ntmps153
  go_wp2
  all_goals go_ret
  all_goals refine ⟨ret_bool ?_, rfl⟩
  all_goals rw [HO.out]
  · exact (decide_eq_false (by omega)).symm
  · exact (decide_eq_false (by omega)).symm
  · exact (decide_eq_false (by omega)).symm
  · exact (decide_eq_true (by omega)).symm
  · rw [Bool.eq_iff_iff, beq_iff_eq, decide_eq_true_iff]; omega
  · exact (decide_eq_true (by omega)).symm
set_option maxRecDepth 100000 in
set_option maxHeartbeats 400000 in
theorem uint_end (a : Option Addr) (k cap : Nat) (zs : List Int) (p : Nat) (w : World) (hb : Bs w a k zs) (hk : k ≤ 70368744177664) (hkc : k ≤ cap) (hp : p ≤ k) (he : lastAt (zs.drop p) = none) :
    Calls Tryz.prog 124 #[.slice a k cap, .int .i64 (p : Int)] w fun e w' => e = .returned (.tuple #[.int .u64 0, .int .i64 0, .int .u8 10]) ∧ w' = w := by
  have h1 : decide ((p : Int) < 0) = false := by simp
  have h2 : decide ((k : Int) < (p : Int)) = false := by simp; omega
  have hli : lastInt (zs.drop p) = -1 := by rw [lastInt, he]
  rcases Nat.lt_or_ge p cap with hpc | hpc
  · clear he
    go_enter Tryz.func124, Tryz.ntmps124
    go_wp2_with fail
    refine (indexFunc_any _ _ _ (zs.drop p) w (hb.drop hp) (by omega)).mono ?_
    rintro e w' ⟨rfl, rfl⟩
    rw [hli]
    go_wp2
    go_ret3
    exact ⟨rfl, rfl⟩
  · have e1 : p = k := by omega
    have e2 : cap = k := by omega
    subst e1 e2
    have hd : zs.drop cap = [] := by rw [List.drop_eq_nil_iff, hb.1]; omega
    rw [hd] at hli
    clear he hd
    go_enter Tryz.func124, Tryz.ntmps124
    go_wp2_with fail
    refine (indexFunc_any _ 0 _ [] w (Bs.empty w _) (by omega)).mono ?_
    rintro e w' ⟨rfl, rfl⟩
    rw [hli]
    go_wp2
    go_ret3
    exact ⟨rfl, rfl⟩

theorem lastInt_some {l : List Int} {i : Nat} (h : lastAt l = some i) : lastInt l = (i : Int) := by rw [lastInt, h]

set_option maxRecDepth 100000 in
set_option maxHeartbeats 400000 in
theorem uint_form (a : Option Addr) (k cap : Nat) (zs : List Int) (p i : Nat) (w : World) (hb : Bs w a k zs) (hk : k ≤ 70368744177664) (hkc : k ≤ cap) (hp : p ≤ k) (he : lastAt (zs.drop p) = some i) (hok : okNum ((zs.drop p).take (i + 1)) = false) :
    Calls Tryz.prog 124 #[.slice a k cap, .int .i64 (p : Int)] w fun e w' => e = .returned (.tuple #[.int .u64 0, .int .i64 0, .int .u8 7]) ∧ w' = w := by
  have h1 : decide ((p : Int) < 0) = false := by simp
  have h2 : decide ((k : Int) < (p : Int)) = false := by simp; omega
  have hli := lastInt_some he
  have hlt := (lastAt_lt he).1
  rw [List.length_drop, hb.1] at hlt
  have hpc : p < cap := by omega
  have HK : Hid (okNum ((zs.drop p).take (i + 1)) = false) := hok
  clear he hok
  go_enter Tryz.func124, Tryz.ntmps124
  go_wp2_with fail
  refine (indexFunc_any _ _ _ (zs.drop p) w (hb.drop hp) (by omega)).mono ?_
  rintro e w' ⟨rfl, rfl⟩
  rw [hli]
  have hi0 : decide ((i : Int) < 0) = false := by simp
  clear hli
  go_wp2_with fail
  rw [show p + i + 1 - p = i + 1 from by omega]
  refine (isNumber_any _ (i + 1) _ ((zs.drop p).take (i + 1)) _ ((hb.drop hp).take (by omega)) (by omega) (by omega)).mono ?_
  rintro e w1 ⟨rfl, rfl⟩
  rw [HK.out]
  go_wp2
  go_ret3
  exact ⟨rfl, rfl⟩

set_option maxRecDepth 100000 in
set_option maxHeartbeats 400000 in
theorem uint_ok (a : Option Addr) (k cap : Nat) (zs : List Int) (p i : Nat) (w : World) (hb : Bs w a k zs) (hk : k ≤ 70368744177664) (hkc : k ≤ cap) (hp : p ≤ k) (he : lastAt (zs.drop p) = some i) (hok : okNum ((zs.drop p).take (i + 1)) = true) :
    Calls Tryz.prog 124 #[.slice a k cap, .int .i64 (p : Int)] w fun e w' => e = .returned (.tuple #[.int .u64 (val ((zs.drop p).take (i + 1)) : Int), .int .i64 ((p + i + 1 : Nat) : Int), .int .u8 0]) ∧ w' = w := by
  have h1 : decide ((p : Int) < 0) = false := by simp
  have h2 : decide ((k : Int) < (p : Int)) = false := by simp; omega
  have hli := lastInt_some he
  have hlt := (lastAt_lt he).1
  rw [List.length_drop, hb.1] at hlt
  have hpc : p < cap := by omega
  have HK : Hid (okNum ((zs.drop p).take (i + 1)) = true) := hok
  have hlen : ((zs.drop p).take (i + 1)).length = i + 1 := by rw [List.length_take, List.length_drop, hb.1]; omega
  have h3 : i + 1 ≤ 10 ∧ (i + 1 = 10 → ((zs.drop p).take (i + 1)).getD 9 0 ≤ 1) := by
    have := of_decide_eq_true hok
    rw [hlen] at this
    refine ⟨this.1, fun h => ?_⟩
    have h4 := this.2.1 h
    rwa [show i + 1 - 1 = 9 by omega] at h4
  obtain ⟨h10, h11⟩ := h3
  have H11 : Hid (i + 1 = 10 → ((zs.drop p).take (i + 1)).getD 9 0 ≤ 1) := h11
  clear he hok h11 hlen
  go_enter Tryz.func124, Tryz.ntmps124
  go_wp2_with fail
  refine (indexFunc_any _ _ _ (zs.drop p) w (hb.drop hp) (by omega)).mono ?_
  rintro e w' ⟨rfl, rfl⟩
  rw [hli]
  have hi0 : decide ((i : Int) < 0) = false := by simp
  clear hli
  go_wp2_with fail
  rw [show p + i + 1 - p = i + 1 from by omega]
  refine (isNumber_any _ (i + 1) _ ((zs.drop p).take (i + 1)) _ ((hb.drop hp).take (by omega)) (by omega) (by omega)).mono ?_
  rintro e w1 ⟨rfl, rfl⟩
  rw [HK.out]
  go_wp2_with fail
  rw [show p + i + 1 - p = i + 1 from by omega]
  refine (join_any _ (i + 1) _ ((zs.drop p).take (i + 1)) _ ((hb.drop hp).take (by omega)) (by omega) H11.out).mono ?_
  rintro e w2 ⟨rfl, rfl⟩
  go_wp2
  go_ret3
  exact ⟨rfl, rfl⟩
def rdU (l : List Int) : Nat × Nat × Nat :=
  match lastAt l with
  | none => (0, 0, 10)
  | some i => if okNum (l.take (i + 1)) then (val (l.take (i + 1)), i + 1, 0) else (0, 0, 7)

theorem uint_err (a : Option Addr) (k cap : Nat) (zs : List Int) (p er : Nat) (w : World) (hb : Bs w a k zs) (hk : k ≤ 70368744177664) (hkc : k ≤ cap) (hp : p ≤ k) (he : rdU (zs.drop p) = (0, 0, er)) (h0 : er ≠ 0) :
    Calls Tryz.prog 124 #[.slice a k cap, .int .i64 (p : Int)] w fun e w' => e = .returned (.tuple #[.int .u64 0, .int .i64 0, .int .u8 (er : Int)]) ∧ w' = w := by
  unfold rdU at he
  cases hl : lastAt (zs.drop p) with
  | none => rw [hl] at he; cases he; exact uint_end a k cap zs p w hb hk hkc hp hl
  | some i =>
    rw [hl] at he
    cases ho : okNum ((zs.drop p).take (i + 1)) with
    | true => simp [ho] at he
    | false => simp [ho] at he; subst he; exact uint_form a k cap zs p i w hb hk hkc hp hl ho

theorem uint_read (a : Option Addr) (k cap : Nat) (zs : List Int) (p v c : Nat) (w : World) (hb : Bs w a k zs) (hk : k ≤ 70368744177664) (hkc : k ≤ cap) (hp : p ≤ k) (he : rdU (zs.drop p) = (v, c, 0)) :
    Calls Tryz.prog 124 #[.slice a k cap, .int .i64 (p : Int)] w fun e w' => e = .returned (.tuple #[.int .u64 (v : Int), .int .i64 ((p + c : Nat) : Int), .int .u8 0]) ∧ w' = w := by
  unfold rdU at he
  cases hl : lastAt (zs.drop p) with
  | none => rw [hl] at he; cases he
  | some i =>
    rw [hl] at he
    cases ho : okNum ((zs.drop p).take (i + 1)) with
    | false => simp [ho] at he
    | true => simp [ho] at he; obtain ⟨rfl, rfl⟩ := he; exact uint_ok a k cap zs p i w hb hk hkc hp hl ho

theorem rdU_bounds {l : List Int} {v c : Nat} (hwf : ∀ z ∈ l, 0 ≤ z ∧ z ≤ 255) (h : rdU l = (v, c, 0)) : v < 2 ^ 64 ∧ 1 ≤ c ∧ c ≤ l.length ∧ c ≤ 10 := by
  unfold rdU at h
  cases hl : lastAt l with
  | none => rw [hl] at h; cases h
  | some i =>
    rw [hl] at h
    have h1 := lastAt_lt hl
    cases ho : okNum (l.take (i + 1)) with
    | false => simp [ho] at h
    | true =>
      simp [ho] at h
      obtain ⟨rfl, rfl⟩ := h
      have h2 := of_decide_eq_true ho
      have hlen : (l.take (i + 1)).length = i + 1 := by rw [List.length_take]; omega
      rw [hlen] at h2
      refine ⟨?_, by omega, by omega, by omega⟩
      rcases Nat.lt_or_ge i 9 with h9 | h9
      · have h3 := val_lt (l.take (i + 1))
        rw [hlen] at h3
        have h4 : 128 ^ (i + 1) ≤ 128 ^ 9 := Nat.pow_le_pow_right (by decide) (by omega)
        exact Nat.lt_of_lt_of_le h3 (Nat.le_trans h4 (by decide))
      · have e : i = 9 := by omega
        subst e
        have h5 := h2.2.1 rfl
        have h6 : 9 < l.length := h1.1
        have h7 : l.take (9 + 1) = l.take 9 ++ [l[9]] := List.take_succ_eq_append_getElem h6
        rw [h7, val_snoc]
        have h8 := val_lt (l.take 9)
        have h9 : (l.take 9).length = 9 := by rw [List.length_take]; omega
        rw [h9] at h8 ⊢
        have h10 : (l.take (9 + 1)).getD (9 + 1 - 1) 0 = l[9] := by simp [h6]
        rw [h10] at h5
        have h12 := hwf l[9] (List.getElem_mem h6)
        have h11 : (l[9] % 128).toNat ≤ 1 := by omega
        clear h1 h2 h5 h7 h9 h10 h12 ho hl hlen hwf
        generalize (l[9] % 128).toNat = t at *
        generalize val (l.take 9) = u at *
        have h13 : u < 9223372036854775808 := h8
        show u + t * 9223372036854775808 < 18446744073709551616
        clear h8
        omega

set_option maxRecDepth 100000 in
set_option maxHeartbeats 400000 in
theorem int_err (a : Option Addr) (k cap : Nat) (zs : List Int) (p er : Nat) (w : World) (hb : Bs w a k zs) (hk : k ≤ 70368744177664) (hkc : k ≤ cap) (hp : p ≤ k) (he : rdU (zs.drop p) = (0, 0, er)) (h0 : er ≠ 0) :
    Calls Tryz.prog 155 #[.slice a k cap, .int .i64 (p : Int)] w fun e w' => e = .returned (.tuple #[.int .i64 0, .int .i64 0, .int .u8 (er : Int)]) ∧ w' = w := by
  have hb0 : ((er : Int) != 0) = true := by simp; omega
  have HE : Hid (rdU (zs.drop p) = (0, 0, er)) := he
  clear he
  go_enter Tryz.func155, Tryz.ntmps155
  go_wp2_with fail
  refine (uint_err a k cap zs p er w hb hk hkc hp HE.out h0).mono ?_
  rintro e w1 ⟨rfl, rfl⟩
  go_wp2
  go_ret3
  exact ⟨rfl, rfl⟩

set_option maxRecDepth 100000 in
set_option maxHeartbeats 400000 in
theorem int_read (a : Option Addr) (k cap : Nat) (zs : List Int) (p v c : Nat) (w : World) (hb : Bs w a k zs) (hk : k ≤ 70368744177664) (hkc : k ≤ cap) (hp : p ≤ k) (he : rdU (zs.drop p) = (v, c, 0)) :
    Calls Tryz.prog 155 #[.slice a k cap, .int .i64 (p : Int)] w fun e w' => e = .returned (.tuple #[.int .i64 (unzz v), .int .i64 ((p + c : Nat) : Int), .int .u8 0]) ∧ w' = w := by
  have hv := (rdU_bounds (fun z hz => hb.2.1 z (List.mem_of_mem_drop hz)) he).1
  have HE : Hid (rdU (zs.drop p) = (v, c, 0)) := he
  clear he
  go_enter Tryz.func155, Tryz.ntmps155
  go_wp2_with fail
  refine (uint_read a k cap zs p v c w hb hk hkc hp HE.out).mono ?_
  rintro e w1 ⟨rfl, rfl⟩
  go_wp2_with fail
  refine (unfold_any v hv _).mono ?_
  rintro e w2 ⟨rfl, rfl⟩
  go_wp2
  go_ret3
  exact ⟨rfl, rfl⟩
def canon : List Int → Prop
  | [] => False
  | b :: r => match r with
    | [] => 0 < b ∧ b < 128
    | _ :: _ => 128 ≤ b ∧ b ≤ 255 ∧ canon r

theorem canon_cons {b : Int} {r : List Int} (hb : 128 ≤ b ∧ b ≤ 255) (hr : canon r) : canon (b :: r) := by
  cases r with
  | nil => cases hr
  | cons c t => exact ⟨hb.1, hb.2, hr⟩

theorem ubytes_zero : ubytes 0 = [0] := by decide

theorem canon_val : ∀ (m : List Int), canon m → 0 < val m
  | [], h => by cases h
  | [b], h => by have := h.1; have := h.2; simp [val]; omega
  | b :: c :: t, h => by have := canon_val (c :: t) h.2.2; rw [val]; omega
theorem canon_same : ∀ (k : Nat) (m : List Int), canon m → m.length ≤ k + 1 → ub k (val m) = m
  | _, [], h, _ => by cases h
  | k, [b], h, _ => by
    have h1 := h.1
    have h2 := h.2
    have e : val [b] = b.toNat := by simp [val]; omega
    rw [e]
    cases k with
    | zero => simp [ub]; omega
    | succ k => rw [ub, if_pos (by omega)]; simp; omega
  | 0, b :: c :: t, _, hl => by simp at hl
  | k + 1, b :: c :: t, h, hl => by
    have h1 := h.1
    have h2 := h.2.1
    have hp := canon_val _ h.2.2
    have ih := canon_same k (c :: t) h.2.2 (by simpa using hl)
    have e : val (b :: c :: t) = (b % 128).toNat + 128 * val (c :: t) := rfl
    rw [e, ub, if_neg (by omega)]
    have e1 : ((b % 128).toNat + 128 * val (c :: t)) / 128 = val (c :: t) := by omega
    have e2 : ((128 + ((b % 128).toNat + 128 * val (c :: t)) % 128 : Nat) : Int) = b := by omega
    rw [e1, e2, ih]
theorem canon_of : ∀ (l : List Int) (i : Nat), (∀ z ∈ l, 0 ≤ z ∧ z ≤ 255) → lastAt l = some i → l.getD i 0 ≠ 0 → canon (l.take (i + 1))
  | [], i, _, h, _ => by cases h
  | b :: r, i, hwf, h, h0 => by
    have hb := hwf b (by simp)
    rw [lastAt] at h
    split at h
    · cases h
      simp at h0
      exact ⟨by omega, by assumption⟩
    · cases hr : lastAt r with
      | none => rw [hr] at h; cases h
      | some j =>
        rw [hr] at h; cases h
        rw [List.take_succ_cons]
        exact canon_cons ⟨by omega, hb.2⟩ (canon_of r j (fun z hz => hwf z (by simp [hz])) hr (by simpa using h0))

theorem rdU_same {l : List Int} {v c : Nat} (hwf : ∀ z ∈ l, 0 ≤ z ∧ z ≤ 255) (h : rdU l = (v, c, 0)) : ubytes v = l.take c := by
  unfold rdU at h
  cases hl : lastAt l with
  | none => rw [hl] at h; cases h
  | some i =>
    rw [hl] at h
    have h1 := lastAt_lt hl
    cases ho : okNum (l.take (i + 1)) with
    | false => simp [ho] at h
    | true =>
      simp [ho] at h
      obtain ⟨rfl, rfl⟩ := h
      have h2 := of_decide_eq_true ho
      have hlen : (l.take (i + 1)).length = i + 1 := by rw [List.length_take]; omega
      rw [hlen] at h2
      have e : (l.take (i + 1)).getD (i + 1 - 1) 0 = l.getD i 0 := by simp [List.getD_eq_getElem?_getD]
      rw [e] at h2
      by_cases h0 : l.getD i 0 = 0
      · have hi : i = 0 := by omega
        subst hi
        cases l with
        | nil => simp at h1
        | cons b r => simp at h0; subst h0; simp [val, ubytes_zero]
      · exact canon_same 9 _ (canon_of l i hwf hl h0) (by omega)
end Go.Proofs.YtmeegdomncadpaaGreat
namespace Go.Proofs.YtmeegdomncadpaaGreat
set_option linter.unusedVariables false
set_option linter.unusedSimpArgs false
def wT : Tm → List Int
  | ⟨f, l⟩ => ubytes (zz f) ++ (if f < 0 then [] else ubytes l.length ++ (l.map wT).flatten)
theorem wT_var {t : Tm} (h : t.f < 0) : wT t = ubytes (zz t.f) := by
  cases t with
  | mk f l => rw [wT, if_pos h, List.append_nil]
theorem wT_sym {t : Tm} (h : ¬ t.f < 0) : wT t = ubytes (zz t.f) ++ (ubytes t.l.length ++ t.l.flatMap wT) := by
  cases t with
  | mk f l => rw [wT, if_neg h, List.flatMap_def]
def wL (l : Lt) : List Int := (if l.neg then 1 else 0) :: (wT l.a ++ wT l.b)
def wC (c : List Lt) : List Int := ubytes c.length ++ c.flatMap wL

def rN (most : Nat) (l : List Int) : Except Nat (Nat × Nat) := match rdU l with
  | (v, c, 0) => if v > most then .error 7 else .ok (v, c)
  | (_, _, e + 1) => .error (e + 1)
def rH (l : List Int) : Except Nat (Int × Nat) := match rdU l with
  | (v, c, 0) => if -2147483648 ≤ unzz v ∧ unzz v ≤ 2147483647 then .ok (unzz v, c) else .error 7
  | (_, _, e + 1) => .error (e + 1)
def rMany {α : Type} (g : List Int → Except Nat (α × Nat)) : Nat → List Int → Except Nat (List α × Nat)
  | 0, _ => .ok ([], 0)
  | n + 1, l => match g l with
    | .error e => .error e
    | .ok (x, c) => match rMany g n (l.drop c) with
      | .error e => .error e
      | .ok (xs, c') => .ok (x :: xs, c + c')
def rList {α : Type} (g : List Int → Except Nat (α × Nat)) (l : List Int) : Except Nat (List α × Nat) := match rN 4096 l with
  | .error e => .error e
  | .ok (n, c) => match rMany g n (l.drop c) with
    | .error e => .error e
    | .ok (xs, c') => .ok (xs, c + c')
def rT : Nat → List Int → Except Nat (Tm × Nat)
  | 0, _ => .error 7
  | d + 1, l => match rH l with
    | .error e => .error e
    | .ok (f, c) => if f < 0 then .ok (⟨f, []⟩, c) else match rList (rT d) (l.drop c) with
      | .error e => .error e
      | .ok (xs, c') => .ok (⟨f, xs⟩, c + c')
def rL (l : List Int) : Except Nat (Lt × Nat) := match rN 1 l with
  | .error e => .error e
  | .ok (n, c) => match rT 257 (l.drop c) with
    | .error e => .error e
    | .ok (a, c1) => match rT 257 (l.drop (c + c1)) with
      | .error e => .error e
      | .ok (b, c2) => .ok (⟨decide (n = 1), a, b⟩, c + c1 + c2)
def rC (l : List Int) : Except Nat (List Lt × Nat) := rList rL l

def wfB (l : List Int) : Prop := ∀ z ∈ l, 0 ≤ z ∧ z ≤ 255
theorem wfB.drop {l : List Int} (h : wfB l) (n : Nat) : wfB (l.drop n) := fun z hz => h z (List.mem_of_mem_drop hz)
def Rt {α : Type} (w : α → List Int) (l : List Int) (r : Except Nat (α × Nat)) : Prop := ∀ x c, r = .ok (x, c) → c ≤ l.length ∧ w x = l.take c
theorem rdU_len {l : List Int} {v c : Nat} (h : rdU l = (v, c, 0)) : c ≤ l.length := by
  unfold rdU at h
  cases hl : lastAt l with
  | none => rw [hl] at h; cases h
  | some i =>
    rw [hl] at h
    simp only at h
    split at h
    · cases h; have := (lastAt_lt hl).1; omega
    · cases h
theorem rN_back {most : Nat} {l : List Int} (hw : wfB l) : Rt ubytes l (rN most l) := fun x c h => by
  unfold rN at h
  split at h
  · rename_i v c' hr
    split at h
    · cases h
    · cases h; exact ⟨rdU_len hr, rdU_same hw hr⟩
  · cases h
theorem rH_back {l : List Int} (hw : wfB l) : Rt (fun f => ubytes (zz f)) l (rH l) := fun x c h => by
  unfold rH at h
  split at h
  · rename_i v c' hr
    split at h
    · cases h; exact ⟨rdU_len hr, by show ubytes (zz (unzz v)) = _; rw [zz_unzz]; exact rdU_same hw hr⟩
    · cases h
  · cases h
theorem take_two (l : List Int) (c c' : Nat) : l.take c ++ (l.drop c).take c' = l.take (c + c') := (List.take_add ..).symm
theorem rMany_back {α : Type} {g : List Int → Except Nat (α × Nat)} {w : α → List Int} (hg : ∀ l, wfB l → Rt w l (g l)) : ∀ (n : Nat) (l : List Int), wfB l → ∀ xs c, rMany g n l = .ok (xs, c) → c ≤ l.length ∧ xs.flatMap w = l.take c ∧ xs.length = n
  | 0, l, _, xs, c, h => by cases h; exact ⟨Nat.zero_le _, rfl, rfl⟩
  | n + 1, l, hw, xs, c, h => by
    rw [rMany] at h
    split at h
    · cases h
    · rename_i x c1 h1
      split at h
      · cases h
      · rename_i ys c2 h2
        cases h
        obtain ⟨a1, a2⟩ := hg l hw x c1 h1
        obtain ⟨b1, b2, b3⟩ := rMany_back hg n (l.drop c1) (hw.drop _) ys c2 h2
        rw [List.length_drop] at b1
        exact ⟨by omega, by rw [List.flatMap_cons, a2, b2, take_two], by rw [List.length_cons, b3]⟩
theorem rList_back {α : Type} {g : List Int → Except Nat (α × Nat)} {w : α → List Int} (hg : ∀ l, wfB l → Rt w l (g l)) {l : List Int} (hw : wfB l) : Rt (fun xs => ubytes xs.length ++ xs.flatMap w) l (rList g l) := fun x c h => by
  unfold rList at h
  split at h
  · cases h
  · rename_i n c1 h1
    split at h
    · cases h
    · rename_i ys c2 h2
      cases h
      obtain ⟨a1, a2⟩ := rN_back hw n c1 h1
      obtain ⟨b1, b2, b3⟩ := rMany_back hg n (l.drop c1) (hw.drop _) x c2 h2
      rw [List.length_drop] at b1
      exact ⟨by omega, by show ubytes x.length ++ x.flatMap w = _; rw [b3, a2, b2, take_two]⟩
theorem rT_back : ∀ (d : Nat) (l : List Int), wfB l → Rt wT l (rT d l)
  | 0, l, _ => fun x c h => by cases h
  | d + 1, l, hw => fun x c h => by
    rw [rT] at h
    split at h
    · cases h
    · rename_i f c1 h1
      obtain ⟨a1, a2⟩ := rH_back hw f c1 h1
      have a2 : ubytes (zz f) = l.take c1 := a2
      split at h
      · rename_i hf
        cases h
        exact ⟨a1, by rw [wT_var (t := ⟨f, []⟩) hf]; exact a2⟩
      · rename_i hf
        split at h
        · cases h
        · rename_i xs c2 h2
          cases h
          obtain ⟨b1, b2⟩ := rList_back (rT_back d) (hw.drop c1) xs c2 h2
          have b2 : ubytes xs.length ++ xs.flatMap wT = (l.drop c1).take c2 := b2
          rw [List.length_drop] at b1
          refine ⟨by omega, ?_⟩
          rw [wT_sym (t := ⟨f, xs⟩) hf]
          show ubytes (zz f) ++ (ubytes xs.length ++ xs.flatMap wT) = _
          rw [a2, b2, take_two]
theorem ub_one : ubytes 1 = [1] := by decide
theorem rL_back (l : List Int) (hw : wfB l) : Rt wL l (rL l) := fun x c h => by
  unfold rL at h
  split at h
  · cases h
  · rename_i n c1 h1
    split at h
    · cases h
    · rename_i a c2 h2
      split at h
      · cases h
      · rename_i b c3 h3
        cases h
        obtain ⟨a1, a2⟩ := rN_back hw n c1 h1
        obtain ⟨b1, b2⟩ := rT_back 257 (l.drop c1) (hw.drop _) a c2 h2
        obtain ⟨d1, d2⟩ := rT_back 257 (l.drop (c1 + c2)) (hw.drop _) b c3 h3
        rw [List.length_drop] at b1 d1
        have hn : n ≤ 1 := by
          unfold rN at h1
          split at h1
          · split at h1
            · cases h1
            · cases h1; omega
          · cases h1
        refine ⟨by omega, ?_⟩
        unfold wL
        show (if decide (n = 1) = true then 1 else 0) :: (wT a ++ wT b) = _
        rw [← take_two, ← take_two, ← a2, b2, d2, List.append_assoc]
        have : ubytes n = [if decide (n = 1) = true then 1 else 0] := by
          rcases Nat.lt_or_ge n 1 with h | h
          · obtain rfl : n = 0 := by omega
            exact ubytes_zero
          · obtain rfl : n = 1 := by omega
            exact ub_one
        rw [this]
        rfl
def Er {α : Type} (r : Except Nat (α × Nat)) : Prop := ∀ e, r = .error e → e = 7 ∨ e = 10
theorem rdU_er {l : List Int} {v c e : Nat} (h : rdU l = (v, c, e + 1)) : e + 1 = 7 ∨ e + 1 = 10 := by
  unfold rdU at h
  split at h
  · simp only [Prod.mk.injEq] at h; omega
  · split at h <;> simp only [Prod.mk.injEq] at h <;> omega
theorem rN_er {most : Nat} {l : List Int} : Er (rN most l) := fun e h => by
  unfold rN at h
  split at h
  · split at h
    · cases h; exact .inl rfl
    · cases h
  · rename_i hr; cases h; exact rdU_er hr
theorem rH_er {l : List Int} : Er (rH l) := fun e h => by
  unfold rH at h
  split at h
  · split at h
    · cases h
    · cases h; exact .inl rfl
  · rename_i hr; cases h; exact rdU_er hr
theorem rMany_er {α : Type} {g : List Int → Except Nat (α × Nat)} (hg : ∀ l, Er (g l)) : ∀ (n : Nat) (l : List Int), Er (rMany g n l)
  | 0, _ => fun e h => by cases h
  | n + 1, l => fun e h => by
    rw [rMany] at h
    split at h
    · rename_i h1; cases h; exact hg _ _ h1
    · split at h
      · rename_i h2; cases h; exact rMany_er hg n _ _ h2
      · cases h
theorem rList_er {α : Type} {g : List Int → Except Nat (α × Nat)} (hg : ∀ l, Er (g l)) (l : List Int) : Er (rList g l) := fun e h => by
  unfold rList at h
  split at h
  · rename_i h1; cases h; exact rN_er _ h1
  · split at h
    · rename_i h2; cases h; exact rMany_er hg _ _ _ h2
    · cases h
theorem rT_er : ∀ (d : Nat) (l : List Int), Er (rT d l)
  | 0, _ => fun e h => by cases h; exact .inl rfl
  | d + 1, l => fun e h => by
    rw [rT] at h
    split at h
    · rename_i h1; cases h; exact rH_er _ h1
    · split at h
      · cases h
      · split at h
        · rename_i h2; cases h; exact rList_er (rT_er d) _ _ h2
        · cases h
theorem rL_er (l : List Int) : Er (rL l) := fun e h => by
  unfold rL at h
  split at h
  · rename_i h1; cases h; exact rN_er _ h1
  · split at h
    · rename_i h2; cases h; exact rT_er _ _ _ h2
    · split at h
      · rename_i h3; cases h; exact rT_er _ _ _ h3
      · cases h
structure Thru {α : Type} (g : List Int → Except Nat (α × Nat)) (w : List Int) (x : α) : Prop where
  back : ∀ r, g (w ++ r) = .ok (x, w.length)
  cut : ∀ j, j < w.length → g (w.take j) = .error 10
end Go.Proofs.YtmeegdomncadpaaGreat
namespace Go.Proofs.YtmeegdomncadpaaGreat
open Go.RowKit
set_option linter.unusedVariables false
set_option linter.unusedSimpArgs false
set_option maxRecDepth 100000
abbrev by8 (z : Int) : CV := .sc (.int .u8 z)
theorem bys_sq {U : Nat → Nat → Prop} {w : World} : ∀ (l : List Int) {xs : List Value}, Sq ((l.map by8).map fun c => Rep U w c) xs → xs = cb l
  | [], xs, h => h
  | z :: l, xs, ⟨ys, zs, e, h1, h2⟩ => by
    obtain ⟨rfl, _⟩ := rep_sc.1 h1
    rw [e, bys_sq l h2]
    rfl
theorem bs_of_vrep {U : Nat → Nat → Prop} {w : World} {l : List Int} {v : Value} (hw : wfB l) (h : VRep U w (.lst (l.map by8)) v) : ∃ a n c, v = .slice a n c ∧ n ≤ c ∧ (a = none → n = 0 ∧ c = 0) ∧ Bs w a n l ∧ n = l.length := by
  obtain ⟨a, n, c, rfl, h2, h3, h4, h5, xs, h6, h7⟩ := vrep_lst.1 h
  have e := bys_sq l h7
  subst e
  rw [List.length_map] at h2
  refine ⟨a, n, c, rfl, h3, h5, ⟨h2.symm, hw, ?_⟩, h2⟩
  rcases h6 with h6 | ⟨b, off, h6, h8⟩
  · left
    have : l = [] := by
      cases l with
      | nil => rfl
      | cons z l => cases h6
    rw [h2, this]; rfl
  · by_cases h0 : n = 0
    · exact .inl h0
    · right
      have hlen : (cb l).length = n := by unfold cb; rw [List.length_map]; exact h2.symm
      refine ⟨b, off, h6, ?_, fun i hi => ?_⟩
      · have := (h8 0 (by omega)).2
        rw [List.getElem?_eq_getElem (by omega)] at this
        exact World.block_lt_of_cell? w _ this
      · have := (h8 i (by omega)).2
        rw [this]
        unfold cb
        rw [List.getElem?_map, List.getElem?_eq_getElem (by omega)]
        show some (Value.int .u8 l[i]) = _
        rw [List.getD_eq_getElem?_getD, List.getElem?_eq_getElem (by omega)]
        rfl
def gU (zs : List Int) (p : Int) : Int × Int × Int :=
  if p < 0 ∨ p > zs.length then (0, 0, 1) else match rdU (zs.drop p.toNat) with
    | (v, c, 0) => (v, p + c, 0)
    | (_, _, e + 1) => (0, 0, ((e + 1 : Nat) : Int))
def gI (zs : List Int) (p : Int) : Int × Int × Int :=
  if p < 0 ∨ p > zs.length then (0, 0, 1) else match rdU (zs.drop p.toNat) with
    | (v, c, 0) => (unzz v, p + c, 0)
    | (_, _, e + 1) => (0, 0, ((e + 1 : Nat) : Int))
theorem rdU_zero {l : List Int} {v c e : Nat} (h : rdU l = (v, c, e + 1)) : v = 0 ∧ c = 0 := by
  unfold rdU at h
  split at h
  · simp only [Prod.mk.injEq] at h; omega
  · split at h
    · cases h
    · simp only [Prod.mk.injEq] at h; omega
theorem tup3 {U : Nat → Nat → Prop} {w : World} {x y z : Value} (hx : x.oneCell' = true) (hy : y.oneCell' = true) (hz : z.oneCell' = true) : RR U w (.tup [.sc x, .sc y, .sc z]) (.tuple #[x, y, z]) :=
  ⟨[x, y, z], rfl, ⟨_, _, rfl, vrep_sc.2 ⟨rfl, hx⟩, _, _, rfl, vrep_sc.2 ⟨rfl, hy⟩, _, _, rfl, vrep_sc.2 ⟨rfl, hz⟩, rfl⟩⟩
-- 
theorem cUintA_abs (W : World) (zs : List Int) (hl : zs.length ≤ 1000000) (p : Int) (h : p < 0 ∨ p > zs.length) : AFun Tryz.prog W 124 [.lst (zs.map by8), .i p] (.tup [.sc (.int .u64 0), .i 0, .sc (.int .u8 1)]) := by
  refine afun_of (rs := [.sc (.int .u64 0), .i 0, .sc (.int .u8 1)]) Tryz.func124 Tryz.ntmps124 rfl rfl rfl rfl ?_
  intro w U hW
  refine aS (aR ?_)
  (refine nx (aA (gN rfl) rfl rfl rfl rfl rfl) rfl ?_)
  (refine nx (aA (gN rfl) rfl rfl rfl rfl rfl) rfl ?_)
  (refine nx (aA (gN rfl) rfl rfl rfl rfl rfl) rfl ?_)
  show AWp _ _ _ _ _ _ _
  by_cases h0 : p < 0
  · have g0 : decide (p < 0) = true := by simpa using h0
    refine aS (aS (aR ?_))
    (refine nx (aM (gN rfl) rfl rfl rfl rfl rfl) rfl ?_)
    (refine nx (a_lss (gN rfl) rfl rfl rfl rfl rfl rfl) rfl ?_)
    (refine nx (aM (gN rfl) rfl rfl rfl rfl rfl) rfl ?_)
    (refine ⟨_, _, _, a_off (go_off rfl rfl rfl rfl (by first | rfl | assumption | (simp; done) | (simp [*]; done))) rfl rfl rfl, rfl, ?_⟩)
    (refine ⟨_, _, _, a_off (go_off rfl rfl rfl rfl (by first | rfl | assumption | (simp; done) | (simp [*]; done))) rfl rfl rfl, rfl, ?_⟩)
    (refine ⟨_, _, _, a_off (go_off rfl rfl rfl rfl (by first | rfl | assumption | (simp; done) | (simp [*]; done))) rfl rfl rfl, rfl, ?_⟩)
    (refine ⟨_, _, _, a_off (go_off rfl rfl rfl rfl (by first | rfl | assumption | (simp; done) | (simp [*]; done))) rfl rfl rfl, rfl, ?_⟩)
    (refine ⟨_, _, _, aPt (gN rfl) rfl rfl rfl rfl rfl ?hb rfl, rfl, ?_⟩; case hb => (first | rfl | assumption | (simp; done)))
    show AWp _ _ _ _ _ _ _
    refine aC rfl (fun hc => ?_) (fun hc => by cases hc)
    refine aS (aR ?_)
    (refine nx (aA (gN rfl) rfl rfl rfl rfl rfl) rfl ?_)
    (refine nx (aA (gN rfl) rfl rfl rfl rfl rfl) rfl ?_)
    (refine nx (aA (gN rfl) rfl rfl rfl rfl rfl) rfl ?_)
    show AWp _ _ _ _ _ _ _
    exact aT (And.intro (.inr rfl) rfl)
  · have g0 : decide (p < 0) = false := by simpa using h0
    refine aS (aS (aR ?_))
    (refine nx (aM (gN rfl) rfl rfl rfl rfl rfl) rfl ?_)
    (refine nx (a_lss (gN rfl) rfl rfl rfl rfl rfl rfl) rfl ?_)
    (refine nx (aM (gN rfl) rfl rfl rfl rfl rfl) rfl ?_)
    (refine nx (aM (gd_on rfl rfl rfl rfl (by first | rfl | assumption | (simp; done))) rfl rfl rfl rfl rfl) rfl ?_)
    (refine nx (aM (gd_on rfl rfl rfl rfl (by first | rfl | assumption | (simp; done))) rfl rfl rfl rfl rfl) rfl ?_)
    (refine nx (a_len (gd_on rfl rfl rfl rfl (by first | rfl | assumption | (simp; done))) rfl rfl rfl rfl rfl rfl rfl) rfl ?_)
    (refine nx (a_gtr (gd_on rfl rfl rfl rfl (by first | rfl | assumption | (simp; done))) rfl rfl rfl rfl rfl rfl) rfl ?_)
    (refine ⟨_, _, _, aPf (gN rfl) rfl rfl rfl rfl rfl ?hb rfl, rfl, ?_⟩; case hb => (first | rfl | assumption | (simp; done)))
    show AWp _ _ _ _ _ _ _
    refine aC rfl (fun hc => ?_) (fun hc => ?_)
    · refine aS (aR ?_)
      (refine nx (aA (gN rfl) rfl rfl rfl rfl rfl) rfl ?_)
      (refine nx (aA (gN rfl) rfl rfl rfl rfl rfl) rfl ?_)
      (refine nx (aA (gN rfl) rfl rfl rfl rfl rfl) rfl ?_)
      show AWp _ _ _ _ _ _ _
      exact aT (And.intro (.inr rfl) rfl)
    · exfalso
      have hc := of_decide_eq_false hc
      rw [List.length_map] at hc
      omega
-- 
theorem cIntA_abs (W : World) (zs : List Int) (hl : zs.length ≤ 1000000) (p : Int) (h : p < 0 ∨ p > zs.length) : AFun Tryz.prog W 155 [.lst (zs.map by8), .i p] (.tup [.i 0, .i 0, .sc (.int .u8 1)]) := by
  refine afun_of (rs := [.i 0, .i 0, .sc (.int .u8 1)]) Tryz.func155 Tryz.ntmps155 rfl rfl rfl rfl ?_
  intro w U hW
  refine aS (aR ?_)
  (refine nx (aA (gN rfl) rfl rfl rfl rfl rfl) rfl ?_)
  (refine nx (aA (gN rfl) rfl rfl rfl rfl rfl) rfl ?_)
  (refine nx (aA (gN rfl) rfl rfl rfl rfl rfl) rfl ?_)
  show AWp _ _ _ _ _ _ _
  refine aS (aR ?_)
  (refine nx (aM (gN rfl) rfl rfl rfl rfl rfl) rfl ?_)
  (refine nx (aM (gN rfl) rfl rfl rfl rfl rfl) rfl ?_)
  (refine nx (a_call (gN rfl) rfl rfl rfl rfl rfl (cUintA_abs w zs hl p h)) rfl ?_)
  (refine nx (aM (gN rfl) rfl rfl rfl rfl rfl) rfl ?_)
  (refine nx (aX (gN rfl) rfl rfl rfl rfl rfl rfl) rfl ?_)
  (refine nx (aX (gN rfl) rfl rfl rfl rfl rfl rfl) rfl ?_)
  (refine nx (aX (gN rfl) rfl rfl rfl rfl rfl rfl) rfl ?_)
  (refine nx (aA (gN rfl) rfl rfl rfl rfl rfl) rfl ?_)
  (refine nx (aA (gN rfl) rfl rfl rfl rfl rfl) rfl ?_)
  (refine nx (aA (gN rfl) rfl rfl rfl rfl rfl) rfl ?_)
  show AWp _ _ _ _ _ _ _
  refine aS (aS (aR ?_))
  (refine nx (aM (gN rfl) rfl rfl rfl rfl rfl) rfl ?_)
  (refine nx (a_neq (gN rfl) rfl rfl rfl rfl rfl rfl) rfl ?_)
  show AWp _ _ _ _ _ _ _
  refine aC rfl (fun hc => ?_) (fun hc => by cases hc)
  refine aS (aR ?_)
  (refine nx (aM (gN rfl) rfl rfl rfl rfl rfl) rfl ?_)
  (refine nx (aA (gN rfl) rfl rfl rfl rfl rfl) rfl ?_)
  (refine nx (aA (gN rfl) rfl rfl rfl rfl rfl) rfl ?_)
  (refine nx (aA (gN rfl) rfl rfl rfl rfl rfl) rfl ?_)
  show AWp _ _ _ _ _ _ _
  exact aT (And.intro (.inr rfl) rfl)
theorem cUint_abs (W : World) (zs : List Int) (hw : wfB zs) (hl : zs.length ≤ 1000000) (p : Int) : AFun Tryz.prog W 124 [.lst (zs.map by8), .i p] (.tup [.sc (.int .u64 (gU zs p).1), .i (gU zs p).2.1, .sc (.int .u8 (gU zs p).2.2)]) := by
  by_cases hp : p < 0 ∨ p > zs.length
  · have e : gU zs p = (0, 0, 1) := by unfold gU; rw [if_pos hp]
    rw [e]
    exact cUintA_abs W zs hl p hp
  refine ⟨ent_of Tryz.func124 rfl rfl, .inr rfl, rfl, ?_⟩
  rintro U w vs _ ⟨u1, us1, rfl, g1, u2, us2, rfl, g2, g3⟩
  have g3 : us2 = [] := g3
  subst g3
  obtain ⟨a, n, c, rfl, hc, hnil, hb, hn⟩ := bs_of_vrep hw g1
  obtain ⟨rfl, _⟩ := vrep_sc.1 g2
  obtain ⟨q, rfl⟩ : ∃ q : Nat, p = q := ⟨p.toNat, by omega⟩
  obtain ⟨⟨v, c1, e1⟩, hr⟩ : ∃ r, rdU (zs.drop q) = r := ⟨_, rfl⟩
  have eg : gU zs q = match rdU (zs.drop q) with
    | (v, c, 0) => ((v : Int), ((q : Int) + c), 0)
    | (_, _, e + 1) => (0, 0, ((e + 1 : Nat) : Int)) := by unfold gU; rw [if_neg hp]; rfl
  rw [hr] at eg
  cases e1 with
  | zero =>
    rw [eg]
    refine (uint_read a n c zs q v c1 w hb (by omega) hc (by omega) hr).mono ?_
    rintro e w' ⟨rfl, rfl⟩
    exact ⟨_, rfl, by rw [Int.natCast_add]; exact tup3 rfl rfl rfl, Below.refl _ _⟩
  | succ e1 =>
    rw [eg]
    obtain ⟨rfl, rfl⟩ := rdU_zero hr
    refine (uint_err a n c zs q (e1 + 1) w hb (by omega) hc (by omega) hr (by omega)).mono ?_
    rintro e w' ⟨rfl, rfl⟩
    exact ⟨_, rfl, tup3 rfl rfl rfl, Below.refl _ _⟩
theorem cInt_abs (W : World) (zs : List Int) (hw : wfB zs) (hl : zs.length ≤ 1000000) (p : Int) : AFun Tryz.prog W 155 [.lst (zs.map by8), .i p] (.tup [.i (gI zs p).1, .i (gI zs p).2.1, .sc (.int .u8 (gI zs p).2.2)]) := by
  by_cases hp : p < 0 ∨ p > zs.length
  · have e : gI zs p = (0, 0, 1) := by unfold gI; rw [if_pos hp]
    rw [e]
    exact cIntA_abs W zs hl p hp
  refine ⟨ent_of Tryz.func155 rfl rfl, .inr rfl, rfl, ?_⟩
  rintro U w vs _ ⟨u1, us1, rfl, g1, u2, us2, rfl, g2, g3⟩
  have g3 : us2 = [] := g3
  subst g3
  obtain ⟨a, n, c, rfl, hc, hnil, hb, hn⟩ := bs_of_vrep hw g1
  obtain ⟨rfl, _⟩ := vrep_sc.1 g2
  obtain ⟨q, rfl⟩ : ∃ q : Nat, p = q := ⟨p.toNat, by omega⟩
  obtain ⟨⟨v, c1, e1⟩, hr⟩ : ∃ r, rdU (zs.drop q) = r := ⟨_, rfl⟩
  have eg : gI zs q = match rdU (zs.drop q) with
    | (v, c, 0) => (unzz v, ((q : Int) + c), 0)
    | (_, _, e + 1) => (0, 0, ((e + 1 : Nat) : Int)) := by unfold gI; rw [if_neg hp]; rfl
  rw [hr] at eg
  cases e1 with
  | zero =>
    rw [eg]
    refine (int_read a n c zs q v c1 w hb (by omega) hc (by omega) hr).mono ?_
    rintro e w' ⟨rfl, rfl⟩
    exact ⟨_, rfl, by rw [Int.natCast_add]; exact tup3 rfl rfl rfl, Below.refl _ _⟩
  | succ e1 =>
    rw [eg]
    obtain ⟨rfl, rfl⟩ := rdU_zero hr
    refine (int_err a n c zs q (e1 + 1) w hb (by omega) hc (by omega) hr (by omega)).mono ?_
    rintro e w' ⟨rfl, rfl⟩
    exact ⟨_, rfl, tup3 rfl rfl rfl, Below.refl _ _⟩
noncomputable abbrev rB (zs : List Int) : AS := [(300001, .mrow 5 1 (zs.map by8))]
-- 
theorem cSign_abs (W : World) (l : Lt) : AFun Tryz.prog W 102 [l.cw] (.val (by8 (if l.neg then 1 else 0))) := by
  refine afun_of (rs := [by8 (if l.neg then 1 else 0)]) Tryz.func102 Tryz.ntmps102 rfl rfl rfl rfl ?_
  intro w U hW
  refine aS (aR ?_)
  (refine nx (a_box (gN rfl) rfl rfl rfl rfl rfl) rfl ?_)
  (refine nx (aA (gN rfl) rfl rfl rfl rfl rfl) rfl ?_)
  show AWp _ _ _ _ _ _ _
  refine aS (aS (aR ?_))
  (refine nx (aF (gN rfl) rfl rfl rfl rfl rfl rfl rfl rfl rfl) rfl ?_)
  (refine nx (aLb (gN rfl) rfl rfl rfl rfl rfl rfl rfl rfl rfl rfl rfl rfl) rfl ?_)
  show AWp _ _ _ _ _ _ _
  refine aC rfl (fun hc => ?_) (fun hc => ?_)
  · refine aS (aR ?_)
    (refine nx (aA (gN rfl) rfl rfl rfl rfl rfl) rfl ?_)
    show AWp _ _ _ _ _ _ _
    rw [if_pos hc]
    exact aT (And.intro (.inr rfl) rfl)
  · refine aK ?_
    show AWp _ _ _ _ _ _ _
    refine aS (aR ?_)
    (refine nx (aA (gN rfl) rfl rfl rfl rfl rfl) rfl ?_)
    show AWp _ _ _ _ _ _ _
    rw [if_neg (by rw [hc]; simp)]
    exact aT (And.intro (.inr rfl) rfl)
-- 
theorem cIsVar_abs (W : World) (t : Tm) : AFun Tryz.prog W 126 [t.cw] (.val (.b (decide (t.f < 0)))) := by
  refine afun_of (rs := [.b (decide (t.f < 0))]) Tryz.func126 Tryz.ntmps126 rfl rfl rfl rfl ?_
  intro w U hW
  refine aS (aR ?_)
  (refine nx (a_box (gN rfl) rfl rfl rfl rfl rfl) rfl ?_)
  (refine nx (aA (gN rfl) rfl rfl rfl rfl rfl) rfl ?_)
  show AWp _ _ _ _ _ _ _
  refine aS (aR ?_)
  (refine nx (aF (gN rfl) rfl rfl rfl rfl rfl rfl rfl rfl rfl) rfl ?_)
  (refine nx (aLb (gN rfl) rfl rfl rfl rfl rfl rfl rfl rfl rfl rfl rfl rfl) rfl ?_)
  (refine nx (a_lss (gN rfl) rfl rfl rfl rfl rfl rfl) rfl ?_)
  (refine nx (aA (gN rfl) rfl rfl rfl rfl rfl) rfl ?_)
  show AWp _ _ _ _ _ _ _
  exact aT (And.intro (.inr rfl) rfl)
def zT : Tm := ⟨0, []⟩
def zL : Lt := ⟨false, zT, zT⟩
def okP {α : Type} (q : Nat) : Except Nat (α × Nat) → Int
  | .ok (_, c) => ((q + c : Nat) : Int)
  | .error _ => 0
def okE {α : Type} : Except Nat (α × Nat) → Int
  | .ok _ => 0
  | .error e => (e : Int)
def okN : Except Nat (Nat × Nat) → Int
  | .ok (v, _) => (v : Int)
  | .error _ => 0
noncomputable def okT : Except Nat (Tm × Nat) → CV
  | .ok (x, _) => x.cw
  | .error _ => .row [.i 0, .lst []]
noncomputable def okG : Except Nat (Lt × Nat) → CV
  | .ok (x, _) => x.cw
  | .error _ => .row [.b false, .row [.i 0, .lst []], .row [.i 0, .lst []]]
noncomputable def okLT : Except Nat (List Tm × Nat) → List CV
  | .ok (x, _) => x.map Tm.cv
  | .error _ => []
noncomputable def okLG : Except Nat (List Lt × Nat) → List CV
  | .ok (x, _) => x.map Lt.cv
  | .error _ => []
noncomputable abbrev tupN (q : Nat) (r : Except Nat (Nat × Nat)) : List CV := [.sc (.int .u64 (okN r)), .i (okP q r), by8 (okE r)]
noncomputable abbrev tupT (q : Nat) (r : Except Nat (Tm × Nat)) : List CV := [okT r, .i (okP q r), by8 (okE r)]
noncomputable abbrev tupG (q : Nat) (r : Except Nat (Lt × Nat)) : List CV := [okG r, .i (okP q r), by8 (okE r)]
noncomputable abbrev tupLT (q : Nat) (r : Except Nat (List Tm × Nat)) : List CV := [.lst (okLT r), .i (okP q r), by8 (okE r)]
noncomputable abbrev tupLG (q : Nat) (r : Except Nat (List Lt × Nat)) : List CV := [.lst (okLG r), .i (okP q r), by8 (okE r)]
theorem gU_in {zs : List Int} {q : Nat} (hq : q ≤ zs.length) : gU zs q = match rdU (zs.drop q) with
    | (v, c, 0) => ((v : Int), ((q + c : Nat) : Int), 0)
    | (_, _, e + 1) => (0, 0, ((e + 1 : Nat) : Int)) := by
  unfold gU
  rw [if_neg (by omega)]
  show (match rdU (zs.drop q) with
    | (v, c, 0) => ((v : Int), ((q : Int) + c), 0)
    | (_, _, e + 1) => (0, 0, ((e + 1 : Nat) : Int))) = _
  split <;> simp
theorem gI_in {zs : List Int} {q : Nat} (hq : q ≤ zs.length) : gI zs q = match rdU (zs.drop q) with
    | (v, c, 0) => (unzz v, ((q + c : Nat) : Int), 0)
    | (_, _, e + 1) => (0, 0, ((e + 1 : Nat) : Int)) := by
  unfold gI
  rw [if_neg (by omega)]
  show (match rdU (zs.drop q) with
    | (v, c, 0) => (unzz v, ((q : Int) + c), 0)
    | (_, _, e + 1) => (0, 0, ((e + 1 : Nat) : Int))) = _
  split <;> simp
-- 
theorem cGetE_abs (W : World) (zs : List Int) (p : Int) (most : Nat) (e : Nat) (he : e ≠ 0) (h : ∀ w, AFun Tryz.prog w 124 [.lst (zs.map by8), .i p] (.tup [.sc (.int .u64 0), .i 0, by8 (e : Int)])) : AFun Tryz.prog W 94 [.lst (zs.map by8), .i p, .sc (.int .u64 (most : Int))] (.tup [.sc (.int .u64 0), .i 0, by8 (e : Int)]) := by
  have g1 : decide ((e : Int) = 0) = false := by rw [decide_eq_false_iff_not]; omega
  have g2 : decide ((e : Int) ≠ 0) = true := by rw [decide_eq_true_eq]; omega
  refine afun_of (rs := [.sc (.int .u64 0), .i 0, by8 (e : Int)]) Tryz.func94 Tryz.ntmps94 rfl rfl rfl rfl ?_
  intro w U hW
  refine aS (aR ?_)
  (refine nx (aA (gN rfl) rfl rfl rfl rfl rfl) rfl ?_)
  (refine nx (aA (gN rfl) rfl rfl rfl rfl rfl) rfl ?_)
  (refine nx (aA (gN rfl) rfl rfl rfl rfl rfl) rfl ?_)
  show AWp _ _ _ _ _ _ _
  refine aS (aR ?_)
  (refine nx (aM (gN rfl) rfl rfl rfl rfl rfl) rfl ?_)
  (refine nx (aM (gN rfl) rfl rfl rfl rfl rfl) rfl ?_)
  (refine nx (a_call (gN rfl) rfl rfl rfl rfl rfl (h w)) rfl ?_)
  (refine nx (aM (gN rfl) rfl rfl rfl rfl rfl) rfl ?_)
  (refine nx (aX (gN rfl) rfl rfl rfl rfl rfl rfl) rfl ?_)
  (refine nx (aX (gN rfl) rfl rfl rfl rfl rfl rfl) rfl ?_)
  (refine nx (aX (gN rfl) rfl rfl rfl rfl rfl rfl) rfl ?_)
  (refine nx (aA (gN rfl) rfl rfl rfl rfl rfl) rfl ?_)
  (refine nx (aA (gN rfl) rfl rfl rfl rfl rfl) rfl ?_)
  (refine nx (aA (gN rfl) rfl rfl rfl rfl rfl) rfl ?_)
  show AWp _ _ _ _ _ _ _
  refine aS (aS (aR ?_))
  (refine nx (aM (gN rfl) rfl rfl rfl rfl rfl) rfl ?_)
  (refine nx (a_eql (gN rfl) rfl rfl rfl rfl rfl rfl) rfl ?_)
  (refine nx (aM (gN rfl) rfl rfl rfl rfl rfl) rfl ?_)
  (refine ⟨_, _, _, a_off (go_off rfl rfl rfl rfl (by first | rfl | assumption | (simp; done) | (simp [*]; done))) rfl rfl rfl, rfl, ?_⟩)
  (refine ⟨_, _, _, a_off (go_off rfl rfl rfl rfl (by first | rfl | assumption | (simp; done) | (simp [*]; done))) rfl rfl rfl, rfl, ?_⟩)
  (refine ⟨_, _, _, a_off (go_off rfl rfl rfl rfl (by first | rfl | assumption | (simp; done) | (simp [*]; done))) rfl rfl rfl, rfl, ?_⟩)
  (refine ⟨_, _, _, aPf (gN rfl) rfl rfl rfl rfl rfl ?hb rfl, rfl, ?_⟩; case hb => (first | rfl | assumption | (simp; done)))
  show AWp _ _ _ _ _ _ _
  refine aC rfl (fun hc => by cases hc) (fun hc => aK ?_)
  show AWp _ _ _ _ _ _ _
  refine aS (aS (aR ?_))
  (refine nx (aM (gN rfl) rfl rfl rfl rfl rfl) rfl ?_)
  (refine nx (a_neq (gN rfl) rfl rfl rfl rfl rfl rfl) rfl ?_)
  show AWp _ _ _ _ _ _ _
  refine aC rfl (fun hc => ?_) (fun hc => Bool.noConfusion (g2.symm.trans hc))
  refine aS (aR ?_)
  (refine nx (aM (gN rfl) rfl rfl rfl rfl rfl) rfl ?_)
  (refine nx (aA (gN rfl) rfl rfl rfl rfl rfl) rfl ?_)
  (refine nx (aA (gN rfl) rfl rfl rfl rfl rfl) rfl ?_)
  (refine nx (aA (gN rfl) rfl rfl rfl rfl rfl) rfl ?_)
  show AWp _ _ _ _ _ _ _
  exact aT (And.intro (.inr rfl) rfl)
-- 
theorem cGetN_abs (W : World) (zs : List Int) (hw : wfB zs) (hl : zs.length ≤ 1000000) (q : Nat) (hq : q ≤ zs.length) (most : Nat) : AFun Tryz.prog W 94 [.lst (zs.map by8), .i (q : Int), .sc (.int .u64 (most : Int))] (.tup (tupN q (rN most (zs.drop q)))) := by
  have hu := fun w => cUint_abs w zs hw hl q
  rw [gU_in hq] at hu
  unfold rN
  obtain ⟨⟨v, c, e⟩, hr⟩ : ∃ r, rdU (zs.drop q) = r := ⟨_, rfl⟩
  rw [hr] at hu ⊢
  cases e with
  | succ e => exact cGetE_abs W zs q most (e + 1) (by omega) hu
  | zero =>
  simp only at hu ⊢
  by_cases hv : v > most
  · rw [if_pos hv]
    have g : decide ((v : Int) > (most : Int)) = true := by rw [decide_eq_true_eq]; omega
    refine afun_of (rs := [.sc (.int .u64 0), .i 0, by8 (7 : Int)]) Tryz.func94 Tryz.ntmps94 rfl rfl rfl rfl ?_
    intro w U hW
    refine aS (aR ?_)
    (refine nx (aA (gN rfl) rfl rfl rfl rfl rfl) rfl ?_)
    (refine nx (aA (gN rfl) rfl rfl rfl rfl rfl) rfl ?_)
    (refine nx (aA (gN rfl) rfl rfl rfl rfl rfl) rfl ?_)
    show AWp _ _ _ _ _ _ _
    refine aS (aR ?_)
    (refine nx (aM (gN rfl) rfl rfl rfl rfl rfl) rfl ?_)
    (refine nx (aM (gN rfl) rfl rfl rfl rfl rfl) rfl ?_)
    (refine nx (a_call (gN rfl) rfl rfl rfl rfl rfl (hu w)) rfl ?_)
    (refine nx (aM (gN rfl) rfl rfl rfl rfl rfl) rfl ?_)
    (refine nx (aX (gN rfl) rfl rfl rfl rfl rfl rfl) rfl ?_)
    (refine nx (aX (gN rfl) rfl rfl rfl rfl rfl rfl) rfl ?_)
    (refine nx (aX (gN rfl) rfl rfl rfl rfl rfl rfl) rfl ?_)
    (refine nx (aA (gN rfl) rfl rfl rfl rfl rfl) rfl ?_)
    (refine nx (aA (gN rfl) rfl rfl rfl rfl rfl) rfl ?_)
    (refine nx (aA (gN rfl) rfl rfl rfl rfl rfl) rfl ?_)
    show AWp _ _ _ _ _ _ _
    refine aS (aS (aR ?_))
    (refine nx (aM (gN rfl) rfl rfl rfl rfl rfl) rfl ?_)
    (refine nx (a_eql (gN rfl) rfl rfl rfl rfl rfl rfl) rfl ?_)
    (refine nx (aM (gN rfl) rfl rfl rfl rfl rfl) rfl ?_)
    (refine nx (aM (gd_on rfl rfl rfl rfl (by first | rfl | assumption | (simp; done))) rfl rfl rfl rfl rfl) rfl ?_)
    (refine nx (aM (gd_on rfl rfl rfl rfl (by first | rfl | assumption | (simp; done))) rfl rfl rfl rfl rfl) rfl ?_)
    (refine nx (a_gtr (gd_on rfl rfl rfl rfl (by first | rfl | assumption | (simp; done))) rfl rfl rfl rfl rfl rfl) rfl ?_)
    (refine ⟨_, _, _, aPt (gN rfl) rfl rfl rfl rfl rfl ?hb rfl, rfl, ?_⟩; case hb => (first | rfl | assumption | (simp; done)))
    show AWp _ _ _ _ _ _ _
    refine aC rfl (fun hc => ?_) (fun hc => by rw [g] at hc; cases hc)
    refine aR ?_
    (refine nx (aA (gN rfl) rfl rfl rfl rfl rfl) rfl ?_)
    show AWp _ _ _ _ _ _ _
    refine aS (aS (aR ?_))
    (refine nx (aM (gN rfl) rfl rfl rfl rfl rfl) rfl ?_)
    (refine nx (a_neq (gN rfl) rfl rfl rfl rfl rfl rfl) rfl ?_)
    show AWp _ _ _ _ _ _ _
    refine aC rfl (fun hc => ?_) (fun hc => by cases hc)
    refine aS (aR ?_)
    (refine nx (aM (gN rfl) rfl rfl rfl rfl rfl) rfl ?_)
    (refine nx (aA (gN rfl) rfl rfl rfl rfl rfl) rfl ?_)
    (refine nx (aA (gN rfl) rfl rfl rfl rfl rfl) rfl ?_)
    (refine nx (aA (gN rfl) rfl rfl rfl rfl rfl) rfl ?_)
    show AWp _ _ _ _ _ _ _
    exact aT (And.intro (.inr rfl) rfl)
  · rw [if_neg hv]
    have g : decide ((v : Int) > (most : Int)) = false := by rw [decide_eq_false_iff_not]; omega
    refine afun_of (rs := tupN q (.ok (v, c))) Tryz.func94 Tryz.ntmps94 rfl rfl rfl rfl ?_
    intro w U hW
    refine aS (aR ?_)
    (refine nx (aA (gN rfl) rfl rfl rfl rfl rfl) rfl ?_)
    (refine nx (aA (gN rfl) rfl rfl rfl rfl rfl) rfl ?_)
    (refine nx (aA (gN rfl) rfl rfl rfl rfl rfl) rfl ?_)
    show AWp _ _ _ _ _ _ _
    refine aS (aR ?_)
    (refine nx (aM (gN rfl) rfl rfl rfl rfl rfl) rfl ?_)
    (refine nx (aM (gN rfl) rfl rfl rfl rfl rfl) rfl ?_)
    (refine nx (a_call (gN rfl) rfl rfl rfl rfl rfl (hu w)) rfl ?_)
    (refine nx (aM (gN rfl) rfl rfl rfl rfl rfl) rfl ?_)
    (refine nx (aX (gN rfl) rfl rfl rfl rfl rfl rfl) rfl ?_)
    (refine nx (aX (gN rfl) rfl rfl rfl rfl rfl rfl) rfl ?_)
    (refine nx (aX (gN rfl) rfl rfl rfl rfl rfl rfl) rfl ?_)
    (refine nx (aA (gN rfl) rfl rfl rfl rfl rfl) rfl ?_)
    (refine nx (aA (gN rfl) rfl rfl rfl rfl rfl) rfl ?_)
    (refine nx (aA (gN rfl) rfl rfl rfl rfl rfl) rfl ?_)
    show AWp _ _ _ _ _ _ _
    refine aS (aS (aR ?_))
    (refine nx (aM (gN rfl) rfl rfl rfl rfl rfl) rfl ?_)
    (refine nx (a_eql (gN rfl) rfl rfl rfl rfl rfl rfl) rfl ?_)
    (refine nx (aM (gN rfl) rfl rfl rfl rfl rfl) rfl ?_)
    (refine nx (aM (gd_on rfl rfl rfl rfl (by first | rfl | assumption | (simp; done))) rfl rfl rfl rfl rfl) rfl ?_)
    (refine nx (aM (gd_on rfl rfl rfl rfl (by first | rfl | assumption | (simp; done))) rfl rfl rfl rfl rfl) rfl ?_)
    (refine nx (a_gtr (gd_on rfl rfl rfl rfl (by first | rfl | assumption | (simp; done))) rfl rfl rfl rfl rfl rfl) rfl ?_)
    (refine ⟨_, _, _, aPt (gN rfl) rfl rfl rfl rfl rfl ?hb rfl, rfl, ?_⟩; case hb => (first | rfl | assumption | (simp; done)))
    show AWp _ _ _ _ _ _ _
    refine aC rfl (fun hc => by rw [g] at hc; cases hc) (fun hc => aK ?_)
    show AWp _ _ _ _ _ _ _
    refine aS (aS (aR ?_))
    (refine nx (aM (gN rfl) rfl rfl rfl rfl rfl) rfl ?_)
    (refine nx (a_neq (gN rfl) rfl rfl rfl rfl rfl rfl) rfl ?_)
    show AWp _ _ _ _ _ _ _
    refine aC rfl (fun hc => by cases hc) (fun hc => aK ?_)
    show AWp _ _ _ _ _ _ _
    refine aS (aR ?_)
    (refine nx (aM (gN rfl) rfl rfl rfl rfl rfl) rfl ?_)
    (refine nx (aM (gN rfl) rfl rfl rfl rfl rfl) rfl ?_)
    (refine nx (aA (gN rfl) rfl rfl rfl rfl rfl) rfl ?_)
    (refine nx (aA (gN rfl) rfl rfl rfl rfl rfl) rfl ?_)
    (refine nx (aA (gN rfl) rfl rfl rfl rfl rfl) rfl ?_)
    show AWp _ _ _ _ _ _ _
    exact aT (And.intro (.inr rfl) rfl)
theorem wr32 (x : Int) (h1 : -9223372036854775808 ≤ x) (h2 : x ≤ 9223372036854775807) : IntKind.i64.wrap (IntKind.i32.wrap x) = x ↔ (-2147483648 ≤ x ∧ x ≤ 2147483647) := by
  rw [IntKind.wrap_i64, IntKind.wrap_i32]
  omega
theorem unzz_rng {v : Nat} (h : v < 2 ^ 64) : -9223372036854775808 ≤ unzz v ∧ unzz v ≤ 9223372036854775807 := by
  unfold unzz
  split <;> omega
def rHd (l : List Int) : Except Nat (Tm × Nat) := match rH l with
  | .error e => .error e
  | .ok (f, c) => .ok (⟨f, []⟩, c)
-- 
theorem cGetH_abs (W : World) (zs : List Int) (hw : wfB zs) (hl : zs.length ≤ 1000000) (q : Nat) (hq : q ≤ zs.length) : AFun Tryz.prog W 125 [.lst (zs.map by8), .i (q : Int)] (.tup (tupT q (rHd (zs.drop q)))) := by
  have hu := fun w => cInt_abs w zs hw hl q
  rw [gI_in hq] at hu
  unfold rHd rH
  obtain ⟨⟨v, c, e⟩, hr⟩ : ∃ r, rdU (zs.drop q) = r := ⟨_, rfl⟩
  rw [hr] at hu ⊢
  cases e with
  | succ e =>
    simp only at hu ⊢
    have g1 : decide (((e + 1 : Nat) : Int) = 0) = false := by rw [decide_eq_false_iff_not]; omega
    have g2 : decide (((e + 1 : Nat) : Int) ≠ 0) = true := by rw [decide_eq_true_eq]; omega
    refine afun_of (rs := tupT q (.error (e + 1))) Tryz.func125 Tryz.ntmps125 rfl rfl rfl rfl ?_
    intro w U hW
    refine aS (aR ?_)
    (refine nx (a_alloc (gN rfl) rfl rfl rfl rfl rfl rfl rfl rfl rfl rfl) rfl ?_)
    (refine nx (aA (gN rfl) rfl rfl rfl rfl rfl) rfl ?_)
    (refine nx (aA (gN rfl) rfl rfl rfl rfl rfl) rfl ?_)
    show AWp _ _ _ _ _ _ _
    refine aS (aR ?_)
    (refine nx (aM (gN rfl) rfl rfl rfl rfl rfl) rfl ?_)
    (refine nx (aM (gN rfl) rfl rfl rfl rfl rfl) rfl ?_)
    (refine nx (a_call (gN rfl) rfl rfl rfl rfl rfl (hu w)) rfl ?_)
    (refine nx (aM (gN rfl) rfl rfl rfl rfl rfl) rfl ?_)
    (refine nx (aX (gN rfl) rfl rfl rfl rfl rfl rfl) rfl ?_)
    (refine nx (aX (gN rfl) rfl rfl rfl rfl rfl rfl) rfl ?_)
    (refine nx (aX (gN rfl) rfl rfl rfl rfl rfl rfl) rfl ?_)
    (refine nx (aA (gN rfl) rfl rfl rfl rfl rfl) rfl ?_)
    (refine nx (aA (gN rfl) rfl rfl rfl rfl rfl) rfl ?_)
    (refine nx (aA (gN rfl) rfl rfl rfl rfl rfl) rfl ?_)
    show AWp _ _ _ _ _ _ _
    refine aS (aS (aR ?_))
    (refine nx (aM (gN rfl) rfl rfl rfl rfl rfl) rfl ?_)
    (refine nx (a_eql (gN rfl) rfl rfl rfl rfl rfl rfl) rfl ?_)
    (refine nx (aM (gN rfl) rfl rfl rfl rfl rfl) rfl ?_)
    (refine ⟨_, _, _, a_offt (go_off rfl rfl rfl rfl (by first | rfl | assumption | (simp; done) | (simp [*]; done))) rfl rfl rfl, rfl, ?_⟩)
    (refine ⟨_, _, _, a_offt (go_off rfl rfl rfl rfl (by first | rfl | assumption | (simp; done) | (simp [*]; done))) rfl rfl rfl, rfl, ?_⟩)
    (refine ⟨_, _, _, a_offt (go_off rfl rfl rfl rfl (by first | rfl | assumption | (simp; done) | (simp [*]; done))) rfl rfl rfl, rfl, ?_⟩)
    (refine ⟨_, _, _, a_offt (go_off rfl rfl rfl rfl (by first | rfl | assumption | (simp; done) | (simp [*]; done))) rfl rfl rfl, rfl, ?_⟩)
    (refine ⟨_, _, _, a_offt (go_off rfl rfl rfl rfl (by first | rfl | assumption | (simp; done) | (simp [*]; done))) rfl rfl rfl, rfl, ?_⟩)
    (refine ⟨_, _, _, aPf (gN rfl) rfl rfl rfl rfl rfl ?hb rfl, rfl, ?_⟩; case hb => (first | rfl | assumption | (simp; done)))
    show AWp _ _ _ _ _ _ _
    refine aC rfl (fun hc => by cases hc) (fun hc => aK ?_)
    show AWp _ _ _ _ _ _ _
    refine aS (aS (aR ?_))
    (refine nx (aM (gN rfl) rfl rfl rfl rfl rfl) rfl ?_)
    (refine nx (a_neq (gN rfl) rfl rfl rfl rfl rfl rfl) rfl ?_)
    show AWp _ _ _ _ _ _ _
    refine aC rfl (fun hc => ?_) (fun hc => Bool.noConfusion (g2.symm.trans hc))
    refine aS (aR ?_)
    (refine nx (a_build (gN rfl) rfl rfl rfl rfl rfl rfl rfl rfl rfl rfl rfl) rfl ?_)
    (refine nx (aM (gN rfl) rfl rfl rfl rfl rfl) rfl ?_)
    (refine nx (aSt (gN rfl) rfl rfl rfl rfl rfl rfl rfl rfl rfl rfl) rfl ?_)
    (refine nx (aA (gN rfl) rfl rfl rfl rfl rfl) rfl ?_)
    (refine nx (aA (gN rfl) rfl rfl rfl rfl rfl) rfl ?_)
    show AWp _ _ _ _ _ _ _
    exact aT (And.intro (.inr rfl) rfl)
  | zero =>
  simp only at hu ⊢
  have hv64 := (rdU_bounds (fun z hz => hw z (List.mem_of_mem_drop hz)) hr).1
  obtain ⟨b1, b2⟩ := unzz_rng hv64
  have hwr := wr32 (unzz v) b1 b2
  by_cases hv : -2147483648 ≤ unzz v ∧ unzz v ≤ 2147483647
  · rw [if_pos hv]
    have g : decide (IntKind.i64.wrap (IntKind.i32.wrap (unzz v)) ≠ unzz v) = false := by rw [decide_eq_false_iff_not, ne_eq, Decidable.not_not]; exact hwr.2 hv
    refine afun_of (rs := tupT q (.ok (⟨unzz v, []⟩, c))) Tryz.func125 Tryz.ntmps125 rfl rfl rfl rfl ?_
    intro w U hW
    refine aS (aR ?_)
    (refine nx (a_alloc (gN rfl) rfl rfl rfl rfl rfl rfl rfl rfl rfl rfl) rfl ?_)
    (refine nx (aA (gN rfl) rfl rfl rfl rfl rfl) rfl ?_)
    (refine nx (aA (gN rfl) rfl rfl rfl rfl rfl) rfl ?_)
    show AWp _ _ _ _ _ _ _
    refine aS (aR ?_)
    (refine nx (aM (gN rfl) rfl rfl rfl rfl rfl) rfl ?_)
    (refine nx (aM (gN rfl) rfl rfl rfl rfl rfl) rfl ?_)
    (refine nx (a_call (gN rfl) rfl rfl rfl rfl rfl (hu w)) rfl ?_)
    (refine nx (aM (gN rfl) rfl rfl rfl rfl rfl) rfl ?_)
    (refine nx (aX (gN rfl) rfl rfl rfl rfl rfl rfl) rfl ?_)
    (refine nx (aX (gN rfl) rfl rfl rfl rfl rfl rfl) rfl ?_)
    (refine nx (aX (gN rfl) rfl rfl rfl rfl rfl rfl) rfl ?_)
    (refine nx (aA (gN rfl) rfl rfl rfl rfl rfl) rfl ?_)
    (refine nx (aA (gN rfl) rfl rfl rfl rfl rfl) rfl ?_)
    (refine nx (aA (gN rfl) rfl rfl rfl rfl rfl) rfl ?_)
    show AWp _ _ _ _ _ _ _
    refine aS (aS (aR ?_))
    (refine nx (aM (gN rfl) rfl rfl rfl rfl rfl) rfl ?_)
    (refine nx (a_eql (gN rfl) rfl rfl rfl rfl rfl rfl) rfl ?_)
    (refine nx (aM (gN rfl) rfl rfl rfl rfl rfl) rfl ?_)
    (refine nx (aM (gd_on rfl rfl rfl rfl (by first | rfl | assumption | (simp; done))) rfl rfl rfl rfl rfl) rfl ?_)
    (refine nx (a_convW (gd_on rfl rfl rfl rfl (by first | rfl | assumption | (simp; done))) rfl rfl rfl rfl rfl rfl rfl) rfl ?_)
    (refine nx (a_convW (gd_on rfl rfl rfl rfl (by first | rfl | assumption | (simp; done))) rfl rfl rfl rfl rfl rfl rfl) rfl ?_)
    (refine nx (aM (gd_on rfl rfl rfl rfl (by first | rfl | assumption | (simp; done))) rfl rfl rfl rfl rfl) rfl ?_)
    (refine nx (a_neq (gd_on rfl rfl rfl rfl (by first | rfl | assumption | (simp; done))) rfl rfl rfl rfl rfl rfl) rfl ?_)
    (refine ⟨_, _, _, aPt (gN rfl) rfl rfl rfl rfl rfl ?hb rfl, rfl, ?_⟩; case hb => (first | rfl | assumption | (simp; done)))
    show AWp _ _ _ _ _ _ _
    refine aC rfl (fun hc => by rw [g] at hc; cases hc) (fun hc => aK ?_)
    show AWp _ _ _ _ _ _ _
    refine aS (aS (aR ?_))
    (refine nx (aM (gN rfl) rfl rfl rfl rfl rfl) rfl ?_)
    (refine nx (a_neq (gN rfl) rfl rfl rfl rfl rfl rfl) rfl ?_)
    show AWp _ _ _ _ _ _ _
    refine aC rfl (fun hc => by cases hc) (fun hc => aK ?_)
    show AWp _ _ _ _ _ _ _
    refine aS (aR ?_)
    (refine nx (aM (gN rfl) rfl rfl rfl rfl rfl) rfl ?_)
    (refine nx (a_build (gN rfl) rfl rfl rfl rfl rfl rfl rfl rfl rfl rfl rfl) rfl ?_)
    (refine nx (aM (gN rfl) rfl rfl rfl rfl rfl) rfl ?_)
    (refine nx (aSt (gN rfl) rfl rfl rfl rfl rfl rfl rfl rfl rfl rfl) rfl ?_)
    (refine nx (aA (gN rfl) rfl rfl rfl rfl rfl) rfl ?_)
    (refine nx (aA (gN rfl) rfl rfl rfl rfl rfl) rfl ?_)
    show AWp _ _ _ _ _ _ _
    exact aT (And.intro (.inr rfl) rfl)
  · rw [if_neg hv]
    have g : decide (IntKind.i64.wrap (IntKind.i32.wrap (unzz v)) ≠ unzz v) = true := by rw [decide_eq_true_eq]; exact fun h => hv (hwr.1 h)
    refine afun_of (rs := tupT q (.error 7)) Tryz.func125 Tryz.ntmps125 rfl rfl rfl rfl ?_
    intro w U hW
    refine aS (aR ?_)
    (refine nx (a_alloc (gN rfl) rfl rfl rfl rfl rfl rfl rfl rfl rfl rfl) rfl ?_)
    (refine nx (aA (gN rfl) rfl rfl rfl rfl rfl) rfl ?_)
    (refine nx (aA (gN rfl) rfl rfl rfl rfl rfl) rfl ?_)
    show AWp _ _ _ _ _ _ _
    refine aS (aR ?_)
    (refine nx (aM (gN rfl) rfl rfl rfl rfl rfl) rfl ?_)
    (refine nx (aM (gN rfl) rfl rfl rfl rfl rfl) rfl ?_)
    (refine nx (a_call (gN rfl) rfl rfl rfl rfl rfl (hu w)) rfl ?_)
    (refine nx (aM (gN rfl) rfl rfl rfl rfl rfl) rfl ?_)
    (refine nx (aX (gN rfl) rfl rfl rfl rfl rfl rfl) rfl ?_)
    (refine nx (aX (gN rfl) rfl rfl rfl rfl rfl rfl) rfl ?_)
    (refine nx (aX (gN rfl) rfl rfl rfl rfl rfl rfl) rfl ?_)
    (refine nx (aA (gN rfl) rfl rfl rfl rfl rfl) rfl ?_)
    (refine nx (aA (gN rfl) rfl rfl rfl rfl rfl) rfl ?_)
    (refine nx (aA (gN rfl) rfl rfl rfl rfl rfl) rfl ?_)
    show AWp _ _ _ _ _ _ _
    refine aS (aS (aR ?_))
    (refine nx (aM (gN rfl) rfl rfl rfl rfl rfl) rfl ?_)
    (refine nx (a_eql (gN rfl) rfl rfl rfl rfl rfl rfl) rfl ?_)
    (refine nx (aM (gN rfl) rfl rfl rfl rfl rfl) rfl ?_)
    (refine nx (aM (gd_on rfl rfl rfl rfl (by first | rfl | assumption | (simp; done))) rfl rfl rfl rfl rfl) rfl ?_)
    (refine nx (a_convW (gd_on rfl rfl rfl rfl (by first | rfl | assumption | (simp; done))) rfl rfl rfl rfl rfl rfl rfl) rfl ?_)
    (refine nx (a_convW (gd_on rfl rfl rfl rfl (by first | rfl | assumption | (simp; done))) rfl rfl rfl rfl rfl rfl rfl) rfl ?_)
    (refine nx (aM (gd_on rfl rfl rfl rfl (by first | rfl | assumption | (simp; done))) rfl rfl rfl rfl rfl) rfl ?_)
    (refine nx (a_neq (gd_on rfl rfl rfl rfl (by first | rfl | assumption | (simp; done))) rfl rfl rfl rfl rfl rfl) rfl ?_)
    (refine ⟨_, _, _, aPt (gN rfl) rfl rfl rfl rfl rfl ?hb rfl, rfl, ?_⟩; case hb => (first | rfl | assumption | (simp; done)))
    show AWp _ _ _ _ _ _ _
    refine aC rfl (fun hc => ?_) (fun hc => by rw [g] at hc; cases hc)
    refine aR ?_
    (refine nx (aA (gN rfl) rfl rfl rfl rfl rfl) rfl ?_)
    show AWp _ _ _ _ _ _ _
    refine aS (aS (aR ?_))
    (refine nx (aM (gN rfl) rfl rfl rfl rfl rfl) rfl ?_)
    (refine nx (a_neq (gN rfl) rfl rfl rfl rfl rfl rfl) rfl ?_)
    show AWp _ _ _ _ _ _ _
    refine aC rfl (fun hc => ?_) (fun hc => by cases hc)
    refine aS (aR ?_)
    (refine nx (a_build (gN rfl) rfl rfl rfl rfl rfl rfl rfl rfl rfl rfl rfl) rfl ?_)
    (refine nx (aM (gN rfl) rfl rfl rfl rfl rfl) rfl ?_)
    (refine nx (aSt (gN rfl) rfl rfl rfl rfl rfl rfl rfl rfl rfl rfl) rfl ?_)
    (refine nx (aA (gN rfl) rfl rfl rfl rfl rfl) rfl ?_)
    (refine nx (aA (gN rfl) rfl rfl rfl rfl rfl) rfl ?_)
    show AWp _ _ _ _ _ _ _
    exact aT (And.intro (.inr rfl) rfl)
def cmb {α : Type} (xs : List α) (q0 q : Nat) : Except Nat (List α × Nat) → Except Nat (List α × Nat)
  | .error e => .error e
  | .ok (ys, c) => .ok (xs ++ ys, q - q0 + c)
-- 
set_option maxHeartbeats 2000000 in
theorem cListT_abs (W : World) (zs : List Int) (hw : wfB zs) (hl : zs.length ≤ 1000000) (fc : CV) (g : List Int → Except Nat (Tm × Nat)) (hg : ∀ l x c, wfB l → g l = .ok (x, c) → c ≤ l.length) (her : ∀ l, Er (g l)) (hf : ∀ w (q : Nat), q ≤ zs.length → AFunV Tryz.prog w fc [.i (q : Int)] (.tup (tupT q (g (zs.drop q))))) (q : Nat) (hq : q ≤ zs.length) : AFun Tryz.prog W 127 [.lst (zs.map by8), .i (q : Int), fc] (.tup (tupLT q (rList g (zs.drop q)))) := by
  have hn := fun w => cGetN_abs w zs hw hl q hq 4096
  obtain ⟨R, hR⟩ : ∃ R, R = rList g (zs.drop q) := ⟨_, rfl⟩
  have hR' := hR
  unfold rList at hR'
  cases hrn : rN 4096 (zs.drop q) with
  | error e =>
    rw [hrn] at hn hR'
    simp only at hR'
    rw [← hR, hR']
    have he0 : e ≠ 0 := by rcases rN_er _ hrn with h | h <;> omega
    have g2 : decide ((e : Int) ≠ 0) = true := by rw [decide_eq_true_eq]; omega
    refine afun_of (rs := tupLT q (.error e)) Tryz.func127 Tryz.ntmps127 rfl rfl rfl rfl ?_
    intro w U hW
    refine aS (aR ?_)
    (refine nx (aA (gN rfl) rfl rfl rfl rfl rfl) rfl ?_)
    (refine nx (aA (gN rfl) rfl rfl rfl rfl rfl) rfl ?_)
    (refine nx (aA (gN rfl) rfl rfl rfl rfl rfl) rfl ?_)
    show AWp _ _ _ _ _ _ _
    refine aS (aR ?_)
    (refine nx (aM (gN rfl) rfl rfl rfl rfl rfl) rfl ?_)
    (refine nx (aM (gN rfl) rfl rfl rfl rfl rfl) rfl ?_)
    (refine nx (a_call (gN rfl) rfl rfl rfl rfl rfl (hn w)) rfl ?_)
    (refine nx (aM (gN rfl) rfl rfl rfl rfl rfl) rfl ?_)
    (refine nx (aX (gN rfl) rfl rfl rfl rfl rfl rfl) rfl ?_)
    (refine nx (aX (gN rfl) rfl rfl rfl rfl rfl rfl) rfl ?_)
    (refine nx (aX (gN rfl) rfl rfl rfl rfl rfl rfl) rfl ?_)
    (refine nx (aA (gN rfl) rfl rfl rfl rfl rfl) rfl ?_)
    (refine nx (aA (gN rfl) rfl rfl rfl rfl rfl) rfl ?_)
    (refine nx (aA (gN rfl) rfl rfl rfl rfl rfl) rfl ?_)
    show AWp _ _ _ _ _ _ _
    refine aS (aS (aR ?_))
    (refine nx (aM (gN rfl) rfl rfl rfl rfl rfl) rfl ?_)
    (refine nx (a_neq (gN rfl) rfl rfl rfl rfl rfl rfl) rfl ?_)
    show AWp _ _ _ _ _ _ _
    refine aC rfl (fun hc => ?_) (fun hc => Bool.noConfusion (g2.symm.trans hc))
    refine aS (aR ?_)
    (refine nx (aM (gN rfl) rfl rfl rfl rfl rfl) rfl ?_)
    (refine nx (aA (gN rfl) rfl rfl rfl rfl rfl) rfl ?_)
    (refine nx (aA (gN rfl) rfl rfl rfl rfl rfl) rfl ?_)
    (refine nx (aA (gN rfl) rfl rfl rfl rfl rfl) rfl ?_)
    show AWp _ _ _ _ _ _ _
    exact aT (And.intro (.inr rfl) rfl)
  | ok vc =>
  obtain ⟨n, c⟩ := vc
  rw [hrn] at hn hR'
  simp only at hR'
  obtain ⟨hcl, _⟩ := rN_back (hw.drop q) n c hrn
  rw [List.length_drop] at hcl
  have hn4 : n ≤ 4096 := by
    unfold rN at hrn
    split at hrn
    · split at hrn
      · cases hrn
      · cases hrn; omega
    · cases hrn
  rw [List.drop_drop] at hR'
  rw [← hR]
  refine afun_of (rs := tupLT q R) Tryz.func127 Tryz.ntmps127 rfl rfl rfl rfl ?_
  intro w U hW
  refine aS (aR ?_)
  (refine nx (aA (gN rfl) rfl rfl rfl rfl rfl) rfl ?_)
  (refine nx (aA (gN rfl) rfl rfl rfl rfl rfl) rfl ?_)
  (refine nx (aA (gN rfl) rfl rfl rfl rfl rfl) rfl ?_)
  show AWp _ _ _ _ _ _ _
  refine aS (aR ?_)
  (refine nx (aM (gN rfl) rfl rfl rfl rfl rfl) rfl ?_)
  (refine nx (aM (gN rfl) rfl rfl rfl rfl rfl) rfl ?_)
  (refine nx (a_call (gN rfl) rfl rfl rfl rfl rfl (hn w)) rfl ?_)
  (refine nx (aM (gN rfl) rfl rfl rfl rfl rfl) rfl ?_)
  (refine nx (aX (gN rfl) rfl rfl rfl rfl rfl rfl) rfl ?_)
  (refine nx (aX (gN rfl) rfl rfl rfl rfl rfl rfl) rfl ?_)
  (refine nx (aX (gN rfl) rfl rfl rfl rfl rfl rfl) rfl ?_)
  (refine nx (aA (gN rfl) rfl rfl rfl rfl rfl) rfl ?_)
  (refine nx (aA (gN rfl) rfl rfl rfl rfl rfl) rfl ?_)
  (refine nx (aA (gN rfl) rfl rfl rfl rfl rfl) rfl ?_)
  show AWp _ _ _ _ _ _ _
  refine aS (aS (aR ?_))
  (refine nx (aM (gN rfl) rfl rfl rfl rfl rfl) rfl ?_)
  (refine nx (a_neq (gN rfl) rfl rfl rfl rfl rfl rfl) rfl ?_)
  show AWp _ _ _ _ _ _ _
  refine aC rfl (fun hc => by cases hc) (fun hc => aK ?_)
  show AWp _ _ _ _ _ _ _
  refine aS (aR ?_)
  (refine nx (aA (gN rfl) rfl rfl rfl rfl rfl) rfl ?_)
  show AWp _ _ _ _ _ _ _
  refine aS (aS (aR ?_))
  (refine nx (aM (gN rfl) rfl rfl rfl rfl rfl) rfl ?_)
  (refine nx (aM (gN rfl) rfl rfl rfl rfl rfl) rfl ?_)
  show AWp _ _ _ _ _ _ _
  refine aB (awp_loop (fun m st => ∃ (xs : List Tm) (p : Nat), xs.length + m = n ∧ q ≤ p ∧ p ≤ zs.length ∧ R = cmb xs q p (rMany g m (zs.drop p)) ∧ st = [(1, AV.val (.i (p : Int))), (2, .val fc), (11, .own (.lst (xs.map Tm.cv)) 200039), (200039, .tok 61 2), (23, .val (.sc (.int .u64 (n : Int)))), (24, .val (.sc (.int .u64 (xs.length : Int))))]) (n := n) (s' := [(1, AV.val (.i ((q + c : Nat) : Int))), (2, .val fc), (11, .own (.lst (([] : List Tm).map Tm.cv)) 200039), (200039, .tok 61 2), (23, .val (.sc (.int .u64 (n : Int)))), (24, .val (.sc (.int .u64 ((([] : List Tm).length : Nat) : Int))))]) ((wk_nil 11 200039 61 2 rfl rfl rfl rfl rfl rfl rfl).trans (wk_sub ⟨rfl, rfl, rfl, rfl, rfl, rfl, trivial⟩)) ⟨[], q + c, by simp, by omega, by omega, ?_, rfl⟩ ?_)
  · rw [hR']
    unfold cmb
    cases rMany g n (zs.drop (q + c)) with
    | error e => rfl
    | ok yc => obtain ⟨ys, c'⟩ := yc; simp
  clear hR hR' hn hrn
  rintro m st ⟨xs, p, hxm, hqp, hpl, hR, rfl⟩
  refine aS (aR ?_)
  (refine nx (a_lss (gN rfl) rfl rfl rfl rfl rfl rfl) rfl ?_)
  show AWp _ _ _ _ _ _ _
  cases m with
  | zero =>
    refine aS (aC rfl (fun hlt => ?_) (fun hlt => ?_))
    · have := of_decide_eq_true hlt
      omega
    refine aE ?_
    show AWp _ _ _ _ _ _ _
    have hR2 : R = .ok (xs, p - q) := by rw [hR]; simp [rMany, cmb]
    rw [hR2]
    refine aS (aR ?_)
    (refine nx (aM (gN rfl) rfl rfl rfl rfl rfl) rfl ?_)
    (refine nx (aM (gN rfl) rfl rfl rfl rfl rfl) rfl ?_)
    (refine nx (aA (gN rfl) rfl rfl rfl rfl rfl) rfl ?_)
    (refine nx (aA (gN rfl) rfl rfl rfl rfl rfl) rfl ?_)
    (refine nx (aA (gN rfl) rfl rfl rfl rfl rfl) rfl ?_)
    show AWp _ _ _ _ _ _ _
    refine aT (And.intro (.inr rfl) ?_)
    show some [CV.lst (xs.map Tm.cv), .i (p : Int), by8 0] = some [CV.lst (xs.map Tm.cv), .i ((q + (p - q) : Nat) : Int), by8 0]
    rw [show q + (p - q) = p by omega]
  | succ m =>
    refine aS (aC rfl (fun hlt => ?_) (fun hlt => ?_))
    case refine_2 =>
      have := of_decide_eq_false hlt
      omega
    refine aK ?_
    show AWp _ _ _ _ _ _ _
    rw [rMany] at hR
    have hcall := hf w p hpl
    cases hgp : g (zs.drop p) with
    | error e =>
      rw [hgp] at hR hcall
      simp only [cmb] at hR
      have he0 : e ≠ 0 := by rcases her _ _ hgp with h | h <;> omega
      have g2 : decide ((e : Int) ≠ 0) = true := by rw [decide_eq_true_eq]; omega
      rw [hR]
      refine aS (aB (aS (aR ?_)))
      (refine nx (a_alloc (gN rfl) rfl rfl rfl rfl rfl rfl rfl rfl rfl rfl) rfl ?_)
      show AWp _ _ _ _ _ _ _
      refine aS (aR ?_)
      (refine nx (aM (gN rfl) rfl rfl rfl rfl rfl) rfl ?_)
      (refine nx (aM (gN rfl) rfl rfl rfl rfl rfl) rfl ?_)
      (refine nx (a_callv (gN rfl) rfl rfl rfl rfl rfl rfl (hcall)) rfl ?_)
      (refine nx (aM (gN rfl) rfl rfl rfl rfl rfl) rfl ?_)
      (refine nx (aX (gN rfl) rfl rfl rfl rfl rfl rfl) rfl ?_)
      (refine nx (aX (gN rfl) rfl rfl rfl rfl rfl rfl) rfl ?_)
      (refine nx (aX (gN rfl) rfl rfl rfl rfl rfl rfl) rfl ?_)
      (refine nx (aSt (gN rfl) rfl rfl rfl rfl rfl rfl rfl rfl rfl rfl) rfl ?_)
      (refine nx (aA (gN rfl) rfl rfl rfl rfl rfl) rfl ?_)
      (refine nx (aA (gN rfl) rfl rfl rfl rfl rfl) rfl ?_)
      show AWp _ _ _ _ _ _ _
      refine aS (aS (aR ?_))
      (refine nx (aM (gN rfl) rfl rfl rfl rfl rfl) rfl ?_)
      (refine nx (a_neq (gN rfl) rfl rfl rfl rfl rfl rfl) rfl ?_)
      show AWp _ _ _ _ _ _ _
      refine aC rfl (fun hc => ?_) (fun hc => Bool.noConfusion (g2.symm.trans hc))
      refine aS (aR ?_)
      (refine nx (aM (gN rfl) rfl rfl rfl rfl rfl) rfl ?_)
      (refine nx (aA (gN rfl) rfl rfl rfl rfl rfl) rfl ?_)
      (refine nx (aA (gN rfl) rfl rfl rfl rfl rfl) rfl ?_)
      (refine nx (aA (gN rfl) rfl rfl rfl rfl rfl) rfl ?_)
      show AWp _ _ _ _ _ _ _
      exact aT (And.intro (.inr rfl) rfl)
    | ok xc =>
      obtain ⟨x, c1⟩ := xc
      rw [hgp] at hR hcall
      simp only at hR
      have hc1 := hg _ x c1 (hw.drop p) hgp
      rw [List.length_drop] at hc1
      rw [List.drop_drop] at hR
      have hsx := Tm.size_all xs
      have hbx : (xs.map Tm.cv).length ≤ 4096 := by rw [List.length_map]; omega
      have hak : IntKind.u64.wrap ((xs.length : Int) + 1) = (xs.length : Int) + 1 := by rw [IntKind.wrap_u64]; omega
      refine aS (aB (aS (aR ?_)))
      (refine nx (a_alloc (gN rfl) rfl rfl rfl rfl rfl rfl rfl rfl rfl rfl) rfl ?_)
      show AWp _ _ _ _ _ _ _
      refine aS (aR ?_)
      (refine nx (aM (gN rfl) rfl rfl rfl rfl rfl) rfl ?_)
      (refine nx (aM (gN rfl) rfl rfl rfl rfl rfl) rfl ?_)
      (refine nx (a_callv (gN rfl) rfl rfl rfl rfl rfl rfl (hcall)) rfl ?_)
      (refine nx (aM (gN rfl) rfl rfl rfl rfl rfl) rfl ?_)
      (refine nx (aX (gN rfl) rfl rfl rfl rfl rfl rfl) rfl ?_)
      (refine nx (aX (gN rfl) rfl rfl rfl rfl rfl rfl) rfl ?_)
      (refine nx (aX (gN rfl) rfl rfl rfl rfl rfl rfl) rfl ?_)
      (refine nx (aSt (gN rfl) rfl rfl rfl rfl rfl rfl rfl rfl rfl rfl) rfl ?_)
      (refine nx (aA (gN rfl) rfl rfl rfl rfl rfl) rfl ?_)
      (refine nx (aA (gN rfl) rfl rfl rfl rfl rfl) rfl ?_)
      show AWp _ _ _ _ _ _ _
      refine aS (aS (aR ?_))
      (refine nx (aM (gN rfl) rfl rfl rfl rfl rfl) rfl ?_)
      (refine nx (a_neq (gN rfl) rfl rfl rfl rfl rfl rfl) rfl ?_)
      show AWp _ _ _ _ _ _ _
      refine aC rfl (fun hc => by cases hc) (fun hc => aK ?_)
      show AWp _ _ _ _ _ _ _
      refine aR ?_
      (refine nx (aM (gN rfl) rfl rfl rfl rfl rfl) rfl ?_)
      (refine nx (aL (gN rfl) rfl rfl rfl rfl rfl rfl rfl rfl rfl rfl rfl rfl) rfl ?_)
      (refine nx (a_bslice (gN rfl) rfl rfl rfl rfl rfl rfl rfl rfl rfl rfl rfl rfl rfl) rfl ?_)
      (refine nx (a_app (gN rfl) rfl rfl rfl rfl rfl rfl rfl rfl rfl rfl rfl rfl rfl rfl rfl (by first | assumption | exact sZ rfl | exact Tm.size_all _ | exact Bd.size_all _ | exact ints_size _ | exact bys_size _ | exact Lt.size_all _) (by first | assumption | exact sZ rfl | exact Tm.size_all _ | exact Bd.size_all _ | exact ints_size _ | exact bys_size _ | exact Lt.size_all _) (by first | omega | (simp only [List.length_map, List.length_append, List.length_cons, List.length_nil] <;> omega) | (simp <;> omega))) rfl ?_)
      (refine nx (aA (gN rfl) rfl rfl rfl rfl rfl) rfl ?_)
      show AWp _ _ _ _ _ _ _
      refine aR ?_
      (refine nx (a_addK (gN rfl) rfl rfl rfl rfl rfl rfl (hak)) rfl ?_)
      (refine nx (aM (gN rfl) rfl rfl rfl rfl rfl) rfl ?_)
      refine ⟨m, [(1, AV.val (.i ((p + c1 : Nat) : Int))), (2, .val fc), (11, .own (.lst ((xs ++ [x]).map Tm.cv)) 200039), (200039, .tok 61 2), (23, .val (.sc (.int .u64 (n : Int)))), (24, .val (.sc (.int .u64 ((xs ++ [x]).length : Int))))], by omega, ⟨xs ++ [x], p + c1, by rw [List.length_append, List.length_singleton]; omega, by omega, by omega, ?_, rfl⟩, ?_⟩
      · rw [hR]
        cases rMany g m (zs.drop (p + c1)) with
        | error e => rfl
        | ok yc =>
          obtain ⟨ys, c'⟩ := yc
          simp only [cmb, List.append_assoc, List.singleton_append]
          rw [show p - q + (c1 + c') = p + c1 - q + c' by omega]
      · refine Wk.trans (wk_sub (s' := [(1, AV.val (.i ((p + c1 : Nat) : Int))), (2, .val fc), (11, .own (.lst ((xs ++ [x]).map Tm.cv)) 300039), (300039, .tok 61 2), (23, .val (.sc (.int .u64 (n : Int)))), (24, .val (.sc (.int .u64 ((xs ++ [x]).length : Int))))]) ⟨rfl, rfl, ?_, rfl, rfl, ?_, trivial⟩) (wk_ren 300039 200039 rfl rfl rfl rfl)
        · rw [List.map_append]
          simp only [List.map_cons, List.map_nil, Tm.cv_eq]
          rfl
        · rw [List.length_append, List.length_singleton, Int.natCast_add]
          rfl
-- 
set_option maxHeartbeats 2000000 in
theorem cListG_abs (W : World) (zs : List Int) (hw : wfB zs) (hl : zs.length ≤ 1000000) (fc : CV) (g : List Int → Except Nat (Lt × Nat)) (hg : ∀ l x c, wfB l → g l = .ok (x, c) → c ≤ l.length) (her : ∀ l, Er (g l)) (hf : ∀ w (q : Nat), q ≤ zs.length → AFunV Tryz.prog w fc [.i (q : Int)] (.tup (tupG q (g (zs.drop q))))) (q : Nat) (hq : q ≤ zs.length) : AFun Tryz.prog W 60 [.lst (zs.map by8), .i (q : Int), fc] (.tup (tupLG q (rList g (zs.drop q)))) := by
  have hn := fun w => cGetN_abs w zs hw hl q hq 4096
  obtain ⟨R, hR⟩ : ∃ R, R = rList g (zs.drop q) := ⟨_, rfl⟩
  have hR' := hR
  unfold rList at hR'
  cases hrn : rN 4096 (zs.drop q) with
  | error e =>
    rw [hrn] at hn hR'
    simp only at hR'
    rw [← hR, hR']
    have he0 : e ≠ 0 := by rcases rN_er _ hrn with h | h <;> omega
    have g2 : decide ((e : Int) ≠ 0) = true := by rw [decide_eq_true_eq]; omega
    refine afun_of (rs := tupLG q (.error e)) Tryz.func60 Tryz.ntmps60 rfl rfl rfl rfl ?_
    intro w U hW
    refine aS (aR ?_)
    (refine nx (aA (gN rfl) rfl rfl rfl rfl rfl) rfl ?_)
    (refine nx (aA (gN rfl) rfl rfl rfl rfl rfl) rfl ?_)
    (refine nx (aA (gN rfl) rfl rfl rfl rfl rfl) rfl ?_)
    show AWp _ _ _ _ _ _ _
    refine aS (aR ?_)
    (refine nx (aM (gN rfl) rfl rfl rfl rfl rfl) rfl ?_)
    (refine nx (aM (gN rfl) rfl rfl rfl rfl rfl) rfl ?_)
    (refine nx (a_call (gN rfl) rfl rfl rfl rfl rfl (hn w)) rfl ?_)
    (refine nx (aM (gN rfl) rfl rfl rfl rfl rfl) rfl ?_)
    (refine nx (aX (gN rfl) rfl rfl rfl rfl rfl rfl) rfl ?_)
    (refine nx (aX (gN rfl) rfl rfl rfl rfl rfl rfl) rfl ?_)
    (refine nx (aX (gN rfl) rfl rfl rfl rfl rfl rfl) rfl ?_)
    (refine nx (aA (gN rfl) rfl rfl rfl rfl rfl) rfl ?_)
    (refine nx (aA (gN rfl) rfl rfl rfl rfl rfl) rfl ?_)
    (refine nx (aA (gN rfl) rfl rfl rfl rfl rfl) rfl ?_)
    show AWp _ _ _ _ _ _ _
    refine aS (aS (aR ?_))
    (refine nx (aM (gN rfl) rfl rfl rfl rfl rfl) rfl ?_)
    (refine nx (a_neq (gN rfl) rfl rfl rfl rfl rfl rfl) rfl ?_)
    show AWp _ _ _ _ _ _ _
    refine aC rfl (fun hc => ?_) (fun hc => Bool.noConfusion (g2.symm.trans hc))
    refine aS (aR ?_)
    (refine nx (aM (gN rfl) rfl rfl rfl rfl rfl) rfl ?_)
    (refine nx (aA (gN rfl) rfl rfl rfl rfl rfl) rfl ?_)
    (refine nx (aA (gN rfl) rfl rfl rfl rfl rfl) rfl ?_)
    (refine nx (aA (gN rfl) rfl rfl rfl rfl rfl) rfl ?_)
    show AWp _ _ _ _ _ _ _
    exact aT (And.intro (.inr rfl) rfl)
  | ok vc =>
  obtain ⟨n, c⟩ := vc
  rw [hrn] at hn hR'
  simp only at hR'
  obtain ⟨hcl, _⟩ := rN_back (hw.drop q) n c hrn
  rw [List.length_drop] at hcl
  have hn4 : n ≤ 4096 := by
    unfold rN at hrn
    split at hrn
    · split at hrn
      · cases hrn
      · cases hrn; omega
    · cases hrn
  rw [List.drop_drop] at hR'
  rw [← hR]
  refine afun_of (rs := tupLG q R) Tryz.func60 Tryz.ntmps60 rfl rfl rfl rfl ?_
  intro w U hW
  refine aS (aR ?_)
  (refine nx (aA (gN rfl) rfl rfl rfl rfl rfl) rfl ?_)
  (refine nx (aA (gN rfl) rfl rfl rfl rfl rfl) rfl ?_)
  (refine nx (aA (gN rfl) rfl rfl rfl rfl rfl) rfl ?_)
  show AWp _ _ _ _ _ _ _
  refine aS (aR ?_)
  (refine nx (aM (gN rfl) rfl rfl rfl rfl rfl) rfl ?_)
  (refine nx (aM (gN rfl) rfl rfl rfl rfl rfl) rfl ?_)
  (refine nx (a_call (gN rfl) rfl rfl rfl rfl rfl (hn w)) rfl ?_)
  (refine nx (aM (gN rfl) rfl rfl rfl rfl rfl) rfl ?_)
  (refine nx (aX (gN rfl) rfl rfl rfl rfl rfl rfl) rfl ?_)
  (refine nx (aX (gN rfl) rfl rfl rfl rfl rfl rfl) rfl ?_)
  (refine nx (aX (gN rfl) rfl rfl rfl rfl rfl rfl) rfl ?_)
  (refine nx (aA (gN rfl) rfl rfl rfl rfl rfl) rfl ?_)
  (refine nx (aA (gN rfl) rfl rfl rfl rfl rfl) rfl ?_)
  (refine nx (aA (gN rfl) rfl rfl rfl rfl rfl) rfl ?_)
  show AWp _ _ _ _ _ _ _
  refine aS (aS (aR ?_))
  (refine nx (aM (gN rfl) rfl rfl rfl rfl rfl) rfl ?_)
  (refine nx (a_neq (gN rfl) rfl rfl rfl rfl rfl rfl) rfl ?_)
  show AWp _ _ _ _ _ _ _
  refine aC rfl (fun hc => by cases hc) (fun hc => aK ?_)
  show AWp _ _ _ _ _ _ _
  refine aS (aR ?_)
  (refine nx (aA (gN rfl) rfl rfl rfl rfl rfl) rfl ?_)
  show AWp _ _ _ _ _ _ _
  refine aS (aS (aR ?_))
  (refine nx (aM (gN rfl) rfl rfl rfl rfl rfl) rfl ?_)
  (refine nx (aM (gN rfl) rfl rfl rfl rfl rfl) rfl ?_)
  show AWp _ _ _ _ _ _ _
  refine aB (awp_loop (fun m st => ∃ (xs : List Lt) (p : Nat), xs.length + m = n ∧ q ≤ p ∧ p ≤ zs.length ∧ R = cmb xs q p (rMany g m (zs.drop p)) ∧ st = [(1, AV.val (.i (p : Int))), (2, .val fc), (11, .own (.lst (xs.map Lt.cv)) 200039), (200039, .tok 63 5), (23, .val (.sc (.int .u64 (n : Int)))), (24, .val (.sc (.int .u64 (xs.length : Int))))]) (n := n) (s' := [(1, AV.val (.i ((q + c : Nat) : Int))), (2, .val fc), (11, .own (.lst (([] : List Lt).map Lt.cv)) 200039), (200039, .tok 63 5), (23, .val (.sc (.int .u64 (n : Int)))), (24, .val (.sc (.int .u64 ((([] : List Lt).length : Nat) : Int))))]) ((wk_nil 11 200039 63 5 rfl rfl rfl rfl rfl rfl rfl).trans (wk_sub ⟨rfl, rfl, rfl, rfl, rfl, rfl, trivial⟩)) ⟨[], q + c, by simp, by omega, by omega, ?_, rfl⟩ ?_)
  · rw [hR']
    unfold cmb
    cases rMany g n (zs.drop (q + c)) with
    | error e => rfl
    | ok yc => obtain ⟨ys, c'⟩ := yc; simp
  clear hR hR' hn hrn
  rintro m st ⟨xs, p, hxm, hqp, hpl, hR, rfl⟩
  refine aS (aR ?_)
  (refine nx (a_lss (gN rfl) rfl rfl rfl rfl rfl rfl) rfl ?_)
  show AWp _ _ _ _ _ _ _
  cases m with
  | zero =>
    refine aS (aC rfl (fun hlt => ?_) (fun hlt => ?_))
    · have := of_decide_eq_true hlt
      omega
    refine aE ?_
    show AWp _ _ _ _ _ _ _
    have hR2 : R = .ok (xs, p - q) := by rw [hR]; simp [rMany, cmb]
    rw [hR2]
    refine aS (aR ?_)
    (refine nx (aM (gN rfl) rfl rfl rfl rfl rfl) rfl ?_)
    (refine nx (aM (gN rfl) rfl rfl rfl rfl rfl) rfl ?_)
    (refine nx (aA (gN rfl) rfl rfl rfl rfl rfl) rfl ?_)
    (refine nx (aA (gN rfl) rfl rfl rfl rfl rfl) rfl ?_)
    (refine nx (aA (gN rfl) rfl rfl rfl rfl rfl) rfl ?_)
    show AWp _ _ _ _ _ _ _
    refine aT (And.intro (.inr rfl) ?_)
    show some [CV.lst (xs.map Lt.cv), .i (p : Int), by8 0] = some [CV.lst (xs.map Lt.cv), .i ((q + (p - q) : Nat) : Int), by8 0]
    rw [show q + (p - q) = p by omega]
  | succ m =>
    refine aS (aC rfl (fun hlt => ?_) (fun hlt => ?_))
    case refine_2 =>
      have := of_decide_eq_false hlt
      omega
    refine aK ?_
    show AWp _ _ _ _ _ _ _
    rw [rMany] at hR
    have hcall := hf w p hpl
    cases hgp : g (zs.drop p) with
    | error e =>
      rw [hgp] at hR hcall
      simp only [cmb] at hR
      have he0 : e ≠ 0 := by rcases her _ _ hgp with h | h <;> omega
      have g2 : decide ((e : Int) ≠ 0) = true := by rw [decide_eq_true_eq]; omega
      rw [hR]
      refine aS (aB (aS (aR ?_)))
      (refine nx (a_alloc (gN rfl) rfl rfl rfl rfl rfl rfl rfl rfl rfl rfl) rfl ?_)
      show AWp _ _ _ _ _ _ _
      refine aS (aR ?_)
      (refine nx (aM (gN rfl) rfl rfl rfl rfl rfl) rfl ?_)
      (refine nx (aM (gN rfl) rfl rfl rfl rfl rfl) rfl ?_)
      (refine nx (a_callv (gN rfl) rfl rfl rfl rfl rfl rfl (hcall)) rfl ?_)
      (refine nx (aM (gN rfl) rfl rfl rfl rfl rfl) rfl ?_)
      (refine nx (aX (gN rfl) rfl rfl rfl rfl rfl rfl) rfl ?_)
      (refine nx (aX (gN rfl) rfl rfl rfl rfl rfl rfl) rfl ?_)
      (refine nx (aX (gN rfl) rfl rfl rfl rfl rfl rfl) rfl ?_)
      (refine nx (aSt (gN rfl) rfl rfl rfl rfl rfl rfl rfl rfl rfl rfl) rfl ?_)
      (refine nx (aA (gN rfl) rfl rfl rfl rfl rfl) rfl ?_)
      (refine nx (aA (gN rfl) rfl rfl rfl rfl rfl) rfl ?_)
      show AWp _ _ _ _ _ _ _
      refine aS (aS (aR ?_))
      (refine nx (aM (gN rfl) rfl rfl rfl rfl rfl) rfl ?_)
      (refine nx (a_neq (gN rfl) rfl rfl rfl rfl rfl rfl) rfl ?_)
      show AWp _ _ _ _ _ _ _
      refine aC rfl (fun hc => ?_) (fun hc => Bool.noConfusion (g2.symm.trans hc))
      refine aS (aR ?_)
      (refine nx (aM (gN rfl) rfl rfl rfl rfl rfl) rfl ?_)
      (refine nx (aA (gN rfl) rfl rfl rfl rfl rfl) rfl ?_)
      (refine nx (aA (gN rfl) rfl rfl rfl rfl rfl) rfl ?_)
      (refine nx (aA (gN rfl) rfl rfl rfl rfl rfl) rfl ?_)
      show AWp _ _ _ _ _ _ _
      exact aT (And.intro (.inr rfl) rfl)
    | ok xc =>
      obtain ⟨x, c1⟩ := xc
      rw [hgp] at hR hcall
      simp only at hR
      have hc1 := hg _ x c1 (hw.drop p) hgp
      rw [List.length_drop] at hc1
      rw [List.drop_drop] at hR
      have hsx := Lt.size_all xs
      have hbx : (xs.map Lt.cv).length ≤ 4096 := by rw [List.length_map]; omega
      have hak : IntKind.u64.wrap ((xs.length : Int) + 1) = (xs.length : Int) + 1 := by rw [IntKind.wrap_u64]; omega
      refine aS (aB (aS (aR ?_)))
      (refine nx (a_alloc (gN rfl) rfl rfl rfl rfl rfl rfl rfl rfl rfl rfl) rfl ?_)
      show AWp _ _ _ _ _ _ _
      refine aS (aR ?_)
      (refine nx (aM (gN rfl) rfl rfl rfl rfl rfl) rfl ?_)
      (refine nx (aM (gN rfl) rfl rfl rfl rfl rfl) rfl ?_)
      (refine nx (a_callv (gN rfl) rfl rfl rfl rfl rfl rfl (hcall)) rfl ?_)
      (refine nx (aM (gN rfl) rfl rfl rfl rfl rfl) rfl ?_)
      (refine nx (aX (gN rfl) rfl rfl rfl rfl rfl rfl) rfl ?_)
      (refine nx (aX (gN rfl) rfl rfl rfl rfl rfl rfl) rfl ?_)
      (refine nx (aX (gN rfl) rfl rfl rfl rfl rfl rfl) rfl ?_)
      (refine nx (aSt (gN rfl) rfl rfl rfl rfl rfl rfl rfl rfl rfl rfl) rfl ?_)
      (refine nx (aA (gN rfl) rfl rfl rfl rfl rfl) rfl ?_)
      (refine nx (aA (gN rfl) rfl rfl rfl rfl rfl) rfl ?_)
      show AWp _ _ _ _ _ _ _
      refine aS (aS (aR ?_))
      (refine nx (aM (gN rfl) rfl rfl rfl rfl rfl) rfl ?_)
      (refine nx (a_neq (gN rfl) rfl rfl rfl rfl rfl rfl) rfl ?_)
      show AWp _ _ _ _ _ _ _
      refine aC rfl (fun hc => by cases hc) (fun hc => aK ?_)
      show AWp _ _ _ _ _ _ _
      refine aR ?_
      (refine nx (aM (gN rfl) rfl rfl rfl rfl rfl) rfl ?_)
      (refine nx (aL (gN rfl) rfl rfl rfl rfl rfl rfl rfl rfl rfl rfl rfl rfl) rfl ?_)
      (refine nx (a_bslice (gN rfl) rfl rfl rfl rfl rfl rfl rfl rfl rfl rfl rfl rfl rfl) rfl ?_)
      (refine nx (a_app (gN rfl) rfl rfl rfl rfl rfl rfl rfl rfl rfl rfl rfl rfl rfl rfl rfl (by first | assumption | exact sZ rfl | exact Tm.size_all _ | exact Bd.size_all _ | exact ints_size _ | exact bys_size _ | exact Lt.size_all _) (by first | assumption | exact sZ rfl | exact Tm.size_all _ | exact Bd.size_all _ | exact ints_size _ | exact bys_size _ | exact Lt.size_all _) (by first | omega | (simp only [List.length_map, List.length_append, List.length_cons, List.length_nil] <;> omega) | (simp <;> omega))) rfl ?_)
      (refine nx (aA (gN rfl) rfl rfl rfl rfl rfl) rfl ?_)
      show AWp _ _ _ _ _ _ _
      refine aR ?_
      (refine nx (a_addK (gN rfl) rfl rfl rfl rfl rfl rfl (hak)) rfl ?_)
      (refine nx (aM (gN rfl) rfl rfl rfl rfl rfl) rfl ?_)
      refine ⟨m, [(1, AV.val (.i ((p + c1 : Nat) : Int))), (2, .val fc), (11, .own (.lst ((xs ++ [x]).map Lt.cv)) 200039), (200039, .tok 63 5), (23, .val (.sc (.int .u64 (n : Int)))), (24, .val (.sc (.int .u64 ((xs ++ [x]).length : Int))))], by omega, ⟨xs ++ [x], p + c1, by rw [List.length_append, List.length_singleton]; omega, by omega, by omega, ?_, rfl⟩, ?_⟩
      · rw [hR]
        cases rMany g m (zs.drop (p + c1)) with
        | error e => rfl
        | ok yc =>
          obtain ⟨ys, c'⟩ := yc
          simp only [cmb, List.append_assoc, List.singleton_append]
          rw [show p - q + (c1 + c') = p + c1 - q + c' by omega]
      · refine Wk.trans (wk_sub (s' := [(1, AV.val (.i ((p + c1 : Nat) : Int))), (2, .val fc), (11, .own (.lst ((xs ++ [x]).map Lt.cv)) 300039), (300039, .tok 63 5), (23, .val (.sc (.int .u64 (n : Int)))), (24, .val (.sc (.int .u64 ((xs ++ [x]).length : Int))))]) ⟨rfl, rfl, ?_, rfl, rfl, ?_, trivial⟩) (wk_ren 300039 200039 rfl rfl rfl rfl)
        · rw [List.map_append]
          rfl
        · rw [List.length_append, List.length_singleton, Int.natCast_add]
          rfl
-- 
theorem cGetT1_abs (W : World) (zs : List Int) (d : Nat) (hd : d ≤ 256) (r : Nat → Except Nat (Tm × Nat)) (hr : ∀ w q, q ≤ zs.length → AFun Tryz.prog w 95 [.lst (zs.map by8), .i (q : Int), .i ((257 : Int) - d)] (.tup (tupT q (r q)))) (q : Nat) (hq : q ≤ zs.length) : AFun Tryz.prog W 128 [.i (q : Int), .ptr (.lst (zs.map by8)), .ptr (.i ((257 : Int) - (d + 1 : Nat)))] (.tup (tupT q (r q))) := by
  have hc := fun w => hr w q hq
  have e : (257 : Int) - ((d + 1 : Nat) : Int) + 1 = 257 - d := by omega
  refine afun_of (rs := tupT q (r q)) Tryz.func128 Tryz.ntmps128 rfl rfl rfl rfl ?_
  intro w U hW
  have hc := hc w
  cases hrq : r q with
  | error er =>
    rw [hrq] at hc
    refine aS (aR ?_)
    (refine nx (a_alloc (gN rfl) rfl rfl rfl rfl rfl rfl rfl rfl rfl rfl) rfl ?_)
    (refine nx (aA (gN rfl) rfl rfl rfl rfl rfl) rfl ?_)
    (refine nx (aA (gN rfl) rfl rfl rfl rfl rfl) rfl ?_)
    show AWp _ _ _ _ _ _ _
    refine aS (aR ?_)
    (refine nx (a_load_ptr (gN rfl) rfl rfl rfl rfl rfl rfl rfl rfl rfl) rfl ?_)
    (refine nx (aM (gN rfl) rfl rfl rfl rfl rfl) rfl ?_)
    (refine nx (a_load_ptr (gN rfl) rfl rfl rfl rfl rfl rfl rfl rfl rfl) rfl ?_)
    (refine nx (a_add (gN rfl) rfl rfl rfl rfl rfl rfl (by first | omega | (simp only [List.length_map, List.length_append, List.length_cons, List.length_nil] <;> omega) | (simp <;> omega))) rfl ?_)
    (refine nx (a_call (gN rfl) rfl rfl rfl rfl rfl ((by rw [e]; exact hc))) rfl ?_)
    (refine nx (aX (gN rfl) rfl rfl rfl rfl rfl rfl) rfl ?_)
    (refine nx (aX (gN rfl) rfl rfl rfl rfl rfl rfl) rfl ?_)
    (refine nx (aX (gN rfl) rfl rfl rfl rfl rfl rfl) rfl ?_)
    (refine nx (aSt (gN rfl) rfl rfl rfl rfl rfl rfl rfl rfl rfl rfl) rfl ?_)
    (refine nx (aA (gN rfl) rfl rfl rfl rfl rfl) rfl ?_)
    (refine nx (aA (gN rfl) rfl rfl rfl rfl rfl) rfl ?_)
    show AWp _ _ _ _ _ _ _
    exact aT (And.intro (.inr rfl) rfl)
  | ok xc =>
    obtain ⟨x, c⟩ := xc
    rw [hrq] at hc
    refine aS (aR ?_)
    (refine nx (a_alloc (gN rfl) rfl rfl rfl rfl rfl rfl rfl rfl rfl rfl) rfl ?_)
    (refine nx (aA (gN rfl) rfl rfl rfl rfl rfl) rfl ?_)
    (refine nx (aA (gN rfl) rfl rfl rfl rfl rfl) rfl ?_)
    show AWp _ _ _ _ _ _ _
    refine aS (aR ?_)
    (refine nx (a_load_ptr (gN rfl) rfl rfl rfl rfl rfl rfl rfl rfl rfl) rfl ?_)
    (refine nx (aM (gN rfl) rfl rfl rfl rfl rfl) rfl ?_)
    (refine nx (a_load_ptr (gN rfl) rfl rfl rfl rfl rfl rfl rfl rfl rfl) rfl ?_)
    (refine nx (a_add (gN rfl) rfl rfl rfl rfl rfl rfl (by first | omega | (simp only [List.length_map, List.length_append, List.length_cons, List.length_nil] <;> omega) | (simp <;> omega))) rfl ?_)
    (refine nx (a_call (gN rfl) rfl rfl rfl rfl rfl ((by rw [e]; exact hc))) rfl ?_)
    (refine nx (aX (gN rfl) rfl rfl rfl rfl rfl rfl) rfl ?_)
    (refine nx (aX (gN rfl) rfl rfl rfl rfl rfl rfl) rfl ?_)
    (refine nx (aX (gN rfl) rfl rfl rfl rfl rfl rfl) rfl ?_)
    (refine nx (aSt (gN rfl) rfl rfl rfl rfl rfl rfl rfl rfl rfl rfl) rfl ?_)
    (refine nx (aA (gN rfl) rfl rfl rfl rfl rfl) rfl ?_)
    (refine nx (aA (gN rfl) rfl rfl rfl rfl rfl) rfl ?_)
    show AWp _ _ _ _ _ _ _
    exact aT (And.intro (.inr rfl) rfl)
-- 
set_option maxHeartbeats 2000000 in
theorem cGetT_abs (zs : List Int) (hw : wfB zs) (hl : zs.length ≤ 1000000) : ∀ (d : Nat), d ≤ 257 → ∀ (W : World) (q : Nat), q ≤ zs.length → AFun Tryz.prog W 95 [.lst (zs.map by8), .i (q : Int), .i ((257 : Int) - d)] (.tup (tupT q (rT d (zs.drop q)))) := by
  intro d
  induction d with
  | zero =>
    intro _ W q hq
    refine afun_of (rs := tupT q (.error 7)) Tryz.func95 Tryz.ntmps95 rfl rfl rfl rfl ?_
    intro w U hW
    refine aS (aR ?_)
    (refine nx (a_box (gN rfl) rfl rfl rfl rfl rfl) rfl ?_)
    (refine nx (a_box (gN rfl) rfl rfl rfl rfl rfl) rfl ?_)
    (refine nx (a_alloc (gN rfl) rfl rfl rfl rfl rfl rfl rfl rfl rfl rfl) rfl ?_)
    (refine nx (aA (gN rfl) rfl rfl rfl rfl rfl) rfl ?_)
    (refine nx (aA (gN rfl) rfl rfl rfl rfl rfl) rfl ?_)
    show AWp _ _ _ _ _ _ _
    refine aS (aS (aR ?_))
    (refine nx (aL (gN rfl) rfl rfl rfl rfl rfl rfl rfl rfl rfl rfl rfl rfl) rfl ?_)
    (refine nx (a_gtr (gN rfl) rfl rfl rfl rfl rfl rfl) rfl ?_)
    show AWp _ _ _ _ _ _ _
    refine aC rfl (fun hc => ?_) (fun hc => by simp at hc)
    refine aS (aR ?_)
    (refine nx (a_build (gN rfl) rfl rfl rfl rfl rfl rfl rfl rfl rfl rfl rfl) rfl ?_)
    (refine nx (aSt (gN rfl) rfl rfl rfl rfl rfl rfl rfl rfl rfl rfl) rfl ?_)
    (refine nx (aA (gN rfl) rfl rfl rfl rfl rfl) rfl ?_)
    (refine nx (aA (gN rfl) rfl rfl rfl rfl rfl) rfl ?_)
    show AWp _ _ _ _ _ _ _
    exact aT (And.intro (.inr rfl) rfl)
  | succ d ih =>
    intro hd W q hq
    have hh := fun w => cGetH_abs w zs hw hl q hq
    obtain ⟨T, hT⟩ : ∃ T, T = rT (d + 1) (zs.drop q) := ⟨_, rfl⟩
    have hT' := hT
    rw [rT] at hT'
    rw [← hT]
    have go : decide ((257 : Int) - ((d + 1 : Nat) : Int) > 256) = false := by rw [decide_eq_false_iff_not]; omega
    unfold rHd at hh
    cases hrh : rH (zs.drop q) with
    | error e =>
      rw [hrh] at hh hT'
      simp only at hT' hh
      rw [hT']
      have he0 : e ≠ 0 := by rcases rH_er _ hrh with h | h <;> omega
      have g2 : decide ((e : Int) ≠ 0) = true := by rw [decide_eq_true_eq]; omega
      refine afun_of (rs := tupT q (.error e)) Tryz.func95 Tryz.ntmps95 rfl rfl rfl rfl ?_
      intro w U hW
      refine aS (aR ?_)
      (refine nx (a_box (gN rfl) rfl rfl rfl rfl rfl) rfl ?_)
      (refine nx (a_box (gN rfl) rfl rfl rfl rfl rfl) rfl ?_)
      (refine nx (a_alloc (gN rfl) rfl rfl rfl rfl rfl rfl rfl rfl rfl rfl) rfl ?_)
      (refine nx (aA (gN rfl) rfl rfl rfl rfl rfl) rfl ?_)
      (refine nx (aA (gN rfl) rfl rfl rfl rfl rfl) rfl ?_)
      show AWp _ _ _ _ _ _ _
      refine aS (aS (aR ?_))
      (refine nx (aL (gN rfl) rfl rfl rfl rfl rfl rfl rfl rfl rfl rfl rfl rfl) rfl ?_)
      (refine nx (a_gtr (gN rfl) rfl rfl rfl rfl rfl rfl) rfl ?_)
      show AWp _ _ _ _ _ _ _
      refine aC rfl (fun hc => by rw [go] at hc; cases hc) (fun hc => aK ?_)
      show AWp _ _ _ _ _ _ _
      refine aS (aR ?_)
      (refine nx (aL (gN rfl) rfl rfl rfl rfl rfl rfl rfl rfl rfl rfl rfl rfl) rfl ?_)
      (refine nx (aM (gN rfl) rfl rfl rfl rfl rfl) rfl ?_)
      (refine nx (a_call (gN rfl) rfl rfl rfl rfl rfl (hh w)) rfl ?_)
      (refine nx (aM (gN rfl) rfl rfl rfl rfl rfl) rfl ?_)
      (refine nx (aX (gN rfl) rfl rfl rfl rfl rfl rfl) rfl ?_)
      (refine nx (aX (gN rfl) rfl rfl rfl rfl rfl rfl) rfl ?_)
      (refine nx (aX (gN rfl) rfl rfl rfl rfl rfl rfl) rfl ?_)
      (refine nx (a_alloc (gN rfl) rfl rfl rfl rfl rfl rfl rfl rfl rfl rfl) rfl ?_)
      (refine nx (aSt (gN rfl) rfl rfl rfl rfl rfl rfl rfl rfl rfl rfl) rfl ?_)
      (refine nx (aA (gN rfl) rfl rfl rfl rfl rfl) rfl ?_)
      (refine nx (aA (gN rfl) rfl rfl rfl rfl rfl) rfl ?_)
      show AWp _ _ _ _ _ _ _
      refine aS (aS (aR ?_))
      (refine nx (aM (gN rfl) rfl rfl rfl rfl rfl) rfl ?_)
      (refine nx (a_neq (gN rfl) rfl rfl rfl rfl rfl rfl) rfl ?_)
      (refine nx (aM (gN rfl) rfl rfl rfl rfl rfl) rfl ?_)
      (refine ⟨_, _, _, a_off (go_off rfl rfl rfl rfl (by first | rfl | assumption | (simp; done) | (simp [*]; done))) rfl rfl rfl, rfl, ?_⟩)
      (refine ⟨_, _, _, a_off (go_off rfl rfl rfl rfl (by first | rfl | assumption | (simp; done) | (simp [*]; done))) rfl rfl rfl, rfl, ?_⟩)
      (refine ⟨_, _, _, aPt (gN rfl) rfl rfl rfl rfl rfl ?hb rfl, rfl, ?_⟩; case hb => (first | rfl | assumption | (simp; done)))
      show AWp _ _ _ _ _ _ _
      refine aC rfl (fun hc => ?_) (fun hc => by cases hc)
      refine aS (aR ?_)
      (refine nx (aL (gN rfl) rfl rfl rfl rfl rfl rfl rfl rfl rfl rfl rfl rfl) rfl ?_)
      (refine nx (aM (gN rfl) rfl rfl rfl rfl rfl) rfl ?_)
      (refine nx (aM (gN rfl) rfl rfl rfl rfl rfl) rfl ?_)
      (refine nx (aSt (gN rfl) rfl rfl rfl rfl rfl rfl rfl rfl rfl rfl) rfl ?_)
      (refine nx (aA (gN rfl) rfl rfl rfl rfl rfl) rfl ?_)
      (refine nx (aA (gN rfl) rfl rfl rfl rfl rfl) rfl ?_)
      show AWp _ _ _ _ _ _ _
      exact aT (And.intro (.inr rfl) rfl)
    | ok fc =>
      obtain ⟨f, c⟩ := fc
      rw [hrh] at hh hT'
      simp only at hT' hh
      obtain ⟨hcl, _⟩ := rH_back (hw.drop q) f c hrh
      rw [List.length_drop] at hcl
      by_cases hf : f < 0
      · rw [if_pos hf] at hT'
        rw [hT']
        have g1 : decide (f < 0) = true := by simpa using hf
        refine afun_of (rs := tupT q (.ok (⟨f, []⟩, c))) Tryz.func95 Tryz.ntmps95 rfl rfl rfl rfl ?_
        intro w U hW
        refine aS (aR ?_)
        (refine nx (a_box (gN rfl) rfl rfl rfl rfl rfl) rfl ?_)
        (refine nx (a_box (gN rfl) rfl rfl rfl rfl rfl) rfl ?_)
        (refine nx (a_alloc (gN rfl) rfl rfl rfl rfl rfl rfl rfl rfl rfl rfl) rfl ?_)
        (refine nx (aA (gN rfl) rfl rfl rfl rfl rfl) rfl ?_)
        (refine nx (aA (gN rfl) rfl rfl rfl rfl rfl) rfl ?_)
        show AWp _ _ _ _ _ _ _
        refine aS (aS (aR ?_))
        (refine nx (aL (gN rfl) rfl rfl rfl rfl rfl rfl rfl rfl rfl rfl rfl rfl) rfl ?_)
        (refine nx (a_gtr (gN rfl) rfl rfl rfl rfl rfl rfl) rfl ?_)
        show AWp _ _ _ _ _ _ _
        refine aC rfl (fun hc => by rw [go] at hc; cases hc) (fun hc => aK ?_)
        show AWp _ _ _ _ _ _ _
        refine aS (aR ?_)
        (refine nx (aL (gN rfl) rfl rfl rfl rfl rfl rfl rfl rfl rfl rfl rfl rfl) rfl ?_)
        (refine nx (aM (gN rfl) rfl rfl rfl rfl rfl) rfl ?_)
        (refine nx (a_call (gN rfl) rfl rfl rfl rfl rfl (hh w)) rfl ?_)
        (refine nx (aM (gN rfl) rfl rfl rfl rfl rfl) rfl ?_)
        (refine nx (aX (gN rfl) rfl rfl rfl rfl rfl rfl) rfl ?_)
        (refine nx (aX (gN rfl) rfl rfl rfl rfl rfl rfl) rfl ?_)
        (refine nx (aX (gN rfl) rfl rfl rfl rfl rfl rfl) rfl ?_)
        (refine nx (a_alloc (gN rfl) rfl rfl rfl rfl rfl rfl rfl rfl rfl rfl) rfl ?_)
        (refine nx (aSt (gN rfl) rfl rfl rfl rfl rfl rfl rfl rfl rfl rfl) rfl ?_)
        (refine nx (aA (gN rfl) rfl rfl rfl rfl rfl) rfl ?_)
        (refine nx (aA (gN rfl) rfl rfl rfl rfl rfl) rfl ?_)
        show AWp _ _ _ _ _ _ _
        refine aS (aS (aR ?_))
        (refine nx (aM (gN rfl) rfl rfl rfl rfl rfl) rfl ?_)
        (refine nx (a_neq (gN rfl) rfl rfl rfl rfl rfl rfl) rfl ?_)
        (refine nx (aM (gN rfl) rfl rfl rfl rfl rfl) rfl ?_)
        (refine nx (aL (gd_on rfl rfl rfl rfl (by first | rfl | assumption | (simp; done))) rfl rfl rfl rfl rfl rfl rfl rfl rfl rfl rfl rfl) rfl ?_)
        (refine nx (a_call (gd_on rfl rfl rfl rfl (by first | rfl | assumption | (simp; done))) rfl rfl rfl rfl rfl (cIsVar_abs w ⟨f, []⟩)) rfl ?_)
        (refine ⟨_, _, _, aPf (gN rfl) rfl rfl rfl rfl rfl ?hb rfl, rfl, ?_⟩; case hb => (first | rfl | assumption | (simp; done)))
        show AWp _ _ _ _ _ _ _
        refine aC rfl (fun hc => ?_) (fun hc => by rw [g1] at hc; cases hc)
        refine aS (aR ?_)
        (refine nx (aL (gN rfl) rfl rfl rfl rfl rfl rfl rfl rfl rfl rfl rfl rfl) rfl ?_)
        (refine nx (aM (gN rfl) rfl rfl rfl rfl rfl) rfl ?_)
        (refine nx (aM (gN rfl) rfl rfl rfl rfl rfl) rfl ?_)
        (refine nx (aSt (gN rfl) rfl rfl rfl rfl rfl rfl rfl rfl rfl rfl) rfl ?_)
        (refine nx (aA (gN rfl) rfl rfl rfl rfl rfl) rfl ?_)
        (refine nx (aA (gN rfl) rfl rfl rfl rfl rfl) rfl ?_)
        show AWp _ _ _ _ _ _ _
        exact aT (And.intro (.inr rfl) rfl)
      · rw [if_neg hf, List.drop_drop] at hT'
        have g1 : decide (f < 0) = false := by simpa using hf
        have hli := fun w => cListT_abs w zs hw hl (.fn 128 0 [.ptr (.lst (zs.map by8)), .ptr (.i ((257 : Int) - (d + 1 : Nat)))]) (rT d) (fun l x c hwl h => (rT_back d l hwl x c h).1) (rT_er d) (fun w q hq => ⟨_, _, _, rfl, cGetT1_abs w zs d (by omega) (fun q => rT d (zs.drop q)) (fun w q hq => ih (by omega) w q hq) q hq⟩) (q + c) (by omega)
        refine afun_of (rs := tupT q T) Tryz.func95 Tryz.ntmps95 rfl rfl rfl rfl ?_
        intro w U hW
        refine aS (aR ?_)
        (refine nx (a_box (gN rfl) rfl rfl rfl rfl rfl) rfl ?_)
        (refine nx (a_box (gN rfl) rfl rfl rfl rfl rfl) rfl ?_)
        (refine nx (a_alloc (gN rfl) rfl rfl rfl rfl rfl rfl rfl rfl rfl rfl) rfl ?_)
        (refine nx (aA (gN rfl) rfl rfl rfl rfl rfl) rfl ?_)
        (refine nx (aA (gN rfl) rfl rfl rfl rfl rfl) rfl ?_)
        show AWp _ _ _ _ _ _ _
        refine aS (aS (aR ?_))
        (refine nx (aL (gN rfl) rfl rfl rfl rfl rfl rfl rfl rfl rfl rfl rfl rfl) rfl ?_)
        (refine nx (a_gtr (gN rfl) rfl rfl rfl rfl rfl rfl) rfl ?_)
        show AWp _ _ _ _ _ _ _
        refine aC rfl (fun hc => by rw [go] at hc; cases hc) (fun hc => aK ?_)
        show AWp _ _ _ _ _ _ _
        refine aS (aR ?_)
        (refine nx (aL (gN rfl) rfl rfl rfl rfl rfl rfl rfl rfl rfl rfl rfl rfl) rfl ?_)
        (refine nx (aM (gN rfl) rfl rfl rfl rfl rfl) rfl ?_)
        (refine nx (a_call (gN rfl) rfl rfl rfl rfl rfl (hh w)) rfl ?_)
        (refine nx (aM (gN rfl) rfl rfl rfl rfl rfl) rfl ?_)
        (refine nx (aX (gN rfl) rfl rfl rfl rfl rfl rfl) rfl ?_)
        (refine nx (aX (gN rfl) rfl rfl rfl rfl rfl rfl) rfl ?_)
        (refine nx (aX (gN rfl) rfl rfl rfl rfl rfl rfl) rfl ?_)
        (refine nx (a_alloc (gN rfl) rfl rfl rfl rfl rfl rfl rfl rfl rfl rfl) rfl ?_)
        (refine nx (aSt (gN rfl) rfl rfl rfl rfl rfl rfl rfl rfl rfl rfl) rfl ?_)
        (refine nx (aA (gN rfl) rfl rfl rfl rfl rfl) rfl ?_)
        (refine nx (aA (gN rfl) rfl rfl rfl rfl rfl) rfl ?_)
        show AWp _ _ _ _ _ _ _
        refine aS (aS (aR ?_))
        (refine nx (aM (gN rfl) rfl rfl rfl rfl rfl) rfl ?_)
        (refine nx (a_neq (gN rfl) rfl rfl rfl rfl rfl rfl) rfl ?_)
        (refine nx (aM (gN rfl) rfl rfl rfl rfl rfl) rfl ?_)
        (refine nx (aL (gd_on rfl rfl rfl rfl (by first | rfl | assumption | (simp; done))) rfl rfl rfl rfl rfl rfl rfl rfl rfl rfl rfl rfl) rfl ?_)
        (refine nx (a_call (gd_on rfl rfl rfl rfl (by first | rfl | assumption | (simp; done))) rfl rfl rfl rfl rfl (cIsVar_abs w ⟨f, []⟩)) rfl ?_)
        (refine ⟨_, _, _, aPf (gN rfl) rfl rfl rfl rfl rfl ?hb rfl, rfl, ?_⟩; case hb => (first | rfl | assumption | (simp; done)))
        show AWp _ _ _ _ _ _ _
        refine aC rfl (fun hc => by rw [g1] at hc; cases hc) (fun hc => aK ?_)
        show AWp _ _ _ _ _ _ _
        refine AWp.wk ((wk_freeze 3 rfl rfl rfl (s' := [(1, .val (.i ((q + c : Nat) : Int))), (5, .bp 5 0 []), (100005, .bx (.i ((257 : Int) - (d + 1 : Nat)))), (6, .bp 6 0 []), (100006, ⟨5, .row [.i 0, .lst []], 1, 0, [1]⟩), (9, .bp 9 0 []), (100009, .bx (.row [.i f, .lst []]))]) ⟨rfl, rfl, rfl, rfl, rfl, rfl, rfl, trivial⟩ rfl rfl rfl).trans (wk_freeze 5 rfl rfl rfl (s' := [(3, .val (.ptr (.lst (zs.map by8)))), (1, .val (.i ((q + c : Nat) : Int))), (6, .bp 6 0 []), (100006, ⟨5, .row [.i 0, .lst []], 1, 0, [1]⟩), (9, .bp 9 0 []), (100009, .bx (.row [.i f, .lst []]))]) ⟨rfl, rfl, rfl, rfl, rfl, rfl, trivial⟩ rfl rfl rfl)) ?_
        have hli := hli w
        cases hrl : rList (rT d) (zs.drop (q + c)) with
        | error e =>
          rw [hrl] at hli hT'
          simp only at hT'
          rw [hT']
          have he0 : e ≠ 0 := by rcases rList_er (rT_er d) _ _ hrl with h | h <;> omega
          have g2 : decide ((e : Int) ≠ 0) = true := by rw [decide_eq_true_eq]; omega
          refine aS (aR ?_)
          (refine nx (a_load_ptr (gN rfl) rfl rfl rfl rfl rfl rfl rfl rfl rfl) rfl ?_)
          (refine nx (aM (gN rfl) rfl rfl rfl rfl rfl) rfl ?_)
          (refine nx (a_mkfunc (gN rfl) rfl rfl rfl rfl rfl rfl) rfl ?_)
          (refine nx (a_call (gN rfl) rfl rfl rfl rfl rfl (hli)) rfl ?_)
          (refine nx (aM (gN rfl) rfl rfl rfl rfl rfl) rfl ?_)
          (refine nx (aX (gN rfl) rfl rfl rfl rfl rfl rfl) rfl ?_)
          (refine nx (aX (gN rfl) rfl rfl rfl rfl rfl rfl) rfl ?_)
          (refine nx (aX (gN rfl) rfl rfl rfl rfl rfl rfl) rfl ?_)
          (refine nx (aF (gN rfl) rfl rfl rfl rfl rfl rfl rfl rfl rfl) rfl ?_)
          (refine nx (a_store (gN rfl) rfl rfl rfl rfl rfl rfl rfl rfl rfl rfl) rfl ?_)
          (refine nx (aA (gN rfl) rfl rfl rfl rfl rfl) rfl ?_)
          (refine nx (aA (gN rfl) rfl rfl rfl rfl rfl) rfl ?_)
          show AWp _ _ _ _ _ _ _
          refine aS (aS (aR ?_))
          (refine nx (aM (gN rfl) rfl rfl rfl rfl rfl) rfl ?_)
          (refine nx (a_neq (gN rfl) rfl rfl rfl rfl rfl rfl) rfl ?_)
          show AWp _ _ _ _ _ _ _
          refine aC rfl (fun hc => ?_) (fun hc => Bool.noConfusion (g2.symm.trans hc))
          refine aS (aR ?_)
          (refine nx (a_build (gN rfl) rfl rfl rfl rfl rfl rfl rfl rfl rfl rfl rfl) rfl ?_)
          (refine nx (aM (gN rfl) rfl rfl rfl rfl rfl) rfl ?_)
          (refine nx (aSt (gN rfl) rfl rfl rfl rfl rfl rfl rfl rfl rfl rfl) rfl ?_)
          (refine nx (aA (gN rfl) rfl rfl rfl rfl rfl) rfl ?_)
          (refine nx (aA (gN rfl) rfl rfl rfl rfl rfl) rfl ?_)
          show AWp _ _ _ _ _ _ _
          exact aT (And.intro (.inr rfl) rfl)
        | ok xc =>
          obtain ⟨xs, c'⟩ := xc
          rw [hrl] at hli hT'
          simp only at hT'
          rw [hT']
          refine aS (aR ?_)
          (refine nx (a_load_ptr (gN rfl) rfl rfl rfl rfl rfl rfl rfl rfl rfl) rfl ?_)
          (refine nx (aM (gN rfl) rfl rfl rfl rfl rfl) rfl ?_)
          (refine nx (a_mkfunc (gN rfl) rfl rfl rfl rfl rfl rfl) rfl ?_)
          (refine nx (a_call (gN rfl) rfl rfl rfl rfl rfl (hli)) rfl ?_)
          (refine nx (aM (gN rfl) rfl rfl rfl rfl rfl) rfl ?_)
          (refine nx (aX (gN rfl) rfl rfl rfl rfl rfl rfl) rfl ?_)
          (refine nx (aX (gN rfl) rfl rfl rfl rfl rfl rfl) rfl ?_)
          (refine nx (aX (gN rfl) rfl rfl rfl rfl rfl rfl) rfl ?_)
          (refine nx (aF (gN rfl) rfl rfl rfl rfl rfl rfl rfl rfl rfl) rfl ?_)
          (refine nx (a_store (gN rfl) rfl rfl rfl rfl rfl rfl rfl rfl rfl rfl) rfl ?_)
          (refine nx (aA (gN rfl) rfl rfl rfl rfl rfl) rfl ?_)
          (refine nx (aA (gN rfl) rfl rfl rfl rfl rfl) rfl ?_)
          show AWp _ _ _ _ _ _ _
          refine aS (aS (aR ?_))
          (refine nx (aM (gN rfl) rfl rfl rfl rfl rfl) rfl ?_)
          (refine nx (a_neq (gN rfl) rfl rfl rfl rfl rfl rfl) rfl ?_)
          show AWp _ _ _ _ _ _ _
          refine aC rfl (fun hc => by cases hc) (fun hc => aK ?_)
          show AWp _ _ _ _ _ _ _
          refine aS (aR ?_)
          (refine nx (aL (gN rfl) rfl rfl rfl rfl rfl rfl rfl rfl rfl rfl rfl rfl) rfl ?_)
          (refine nx (aM (gN rfl) rfl rfl rfl rfl rfl) rfl ?_)
          (refine nx (aSt (gN rfl) rfl rfl rfl rfl rfl rfl rfl rfl rfl rfl) rfl ?_)
          (refine nx (aA (gN rfl) rfl rfl rfl rfl rfl) rfl ?_)
          (refine nx (aA (gN rfl) rfl rfl rfl rfl rfl) rfl ?_)
          show AWp _ _ _ _ _ _ _
          refine aT (And.intro (.inr rfl) ?_)
          show some [CV.row [.i f, .lst (xs.map Tm.cv)], .i ((q + c + c' : Nat) : Int), by8 0] = some [CV.row [.i f, .lst (xs.map Tm.cv)], .i ((q + (c + c') : Nat) : Int), by8 0]
          rw [Nat.add_assoc]
-- 
set_option maxHeartbeats 2000000 in
theorem cGetL_abs (W : World) (zs : List Int) (hw : wfB zs) (hl : zs.length ≤ 1000000) (q : Nat) (hq : q ≤ zs.length) : AFun Tryz.prog W 62 [.lst (zs.map by8), .i (q : Int)] (.tup (tupG q (rL (zs.drop q)))) := by
  have hn := fun w => cGetN_abs w zs hw hl q hq 1
  obtain ⟨R, hR⟩ : ∃ R, R = rL (zs.drop q) := ⟨_, rfl⟩
  rw [← hR]
  unfold rL at hR
  refine afun_of (rs := tupG q R) Tryz.func62 Tryz.ntmps62 rfl rfl rfl rfl ?_
  intro w U hW
  have hn := hn w
  refine aS (aR ?_)
  (refine nx (a_alloc (gN rfl) rfl rfl rfl rfl rfl rfl rfl rfl rfl rfl) rfl ?_)
  (refine nx (aA (gN rfl) rfl rfl rfl rfl rfl) rfl ?_)
  (refine nx (aA (gN rfl) rfl rfl rfl rfl rfl) rfl ?_)
  show AWp _ _ _ _ _ _ _
  cases hrn : rN 1 (zs.drop q) with
  | error e =>
    rw [hrn] at hn hR
    simp only at hR
    rw [hR]
    have he0 : e ≠ 0 := by rcases rN_er _ hrn with h | h <;> omega
    have g2 : decide ((e : Int) ≠ 0) = true := by rw [decide_eq_true_eq]; omega
    refine aS (aR ?_)
    (refine nx (aM (gN rfl) rfl rfl rfl rfl rfl) rfl ?_)
    (refine nx (aM (gN rfl) rfl rfl rfl rfl rfl) rfl ?_)
    (refine nx (a_call (gN rfl) rfl rfl rfl rfl rfl (hn)) rfl ?_)
    (refine nx (aM (gN rfl) rfl rfl rfl rfl rfl) rfl ?_)
    (refine nx (aX (gN rfl) rfl rfl rfl rfl rfl rfl) rfl ?_)
    (refine nx (aX (gN rfl) rfl rfl rfl rfl rfl rfl) rfl ?_)
    (refine nx (aX (gN rfl) rfl rfl rfl rfl rfl rfl) rfl ?_)
    (refine nx (aA (gN rfl) rfl rfl rfl rfl rfl) rfl ?_)
    (refine nx (aA (gN rfl) rfl rfl rfl rfl rfl) rfl ?_)
    (refine nx (aA (gN rfl) rfl rfl rfl rfl rfl) rfl ?_)
    show AWp _ _ _ _ _ _ _
    refine aS (aS (aR ?_))
    (refine nx (aM (gN rfl) rfl rfl rfl rfl rfl) rfl ?_)
    (refine nx (a_neq (gN rfl) rfl rfl rfl rfl rfl rfl) rfl ?_)
    show AWp _ _ _ _ _ _ _
    refine aC rfl (fun hc => ?_) (fun hc => Bool.noConfusion (g2.symm.trans hc))
    refine aS (aR ?_)
    (refine nx (a_build (gN rfl) rfl rfl rfl rfl rfl rfl rfl rfl rfl rfl rfl) rfl ?_)
    (refine nx (aM (gN rfl) rfl rfl rfl rfl rfl) rfl ?_)
    (refine nx (aSt (gN rfl) rfl rfl rfl rfl rfl rfl rfl rfl rfl rfl) rfl ?_)
    (refine nx (aA (gN rfl) rfl rfl rfl rfl rfl) rfl ?_)
    (refine nx (aA (gN rfl) rfl rfl rfl rfl rfl) rfl ?_)
    show AWp _ _ _ _ _ _ _
    exact aT (And.intro (.inr rfl) rfl)
  | ok vc =>
  obtain ⟨n, c⟩ := vc
  rw [hrn] at hn hR
  simp only at hR
  obtain ⟨hcl, _⟩ := rN_back (hw.drop q) n c hrn
  rw [List.length_drop] at hcl
  rw [List.drop_drop] at hR
  have hta := cGetT_abs zs hw hl 257 (Nat.le_refl _) w (q + c) (by omega)
  rw [show (257 : Int) - (257 : Nat) = 0 from rfl] at hta
  refine aS (aR ?_)
  (refine nx (aM (gN rfl) rfl rfl rfl rfl rfl) rfl ?_)
  (refine nx (aM (gN rfl) rfl rfl rfl rfl rfl) rfl ?_)
  (refine nx (a_call (gN rfl) rfl rfl rfl rfl rfl (hn)) rfl ?_)
  (refine nx (aM (gN rfl) rfl rfl rfl rfl rfl) rfl ?_)
  (refine nx (aX (gN rfl) rfl rfl rfl rfl rfl rfl) rfl ?_)
  (refine nx (aX (gN rfl) rfl rfl rfl rfl rfl rfl) rfl ?_)
  (refine nx (aX (gN rfl) rfl rfl rfl rfl rfl rfl) rfl ?_)
  (refine nx (aA (gN rfl) rfl rfl rfl rfl rfl) rfl ?_)
  (refine nx (aA (gN rfl) rfl rfl rfl rfl rfl) rfl ?_)
  (refine nx (aA (gN rfl) rfl rfl rfl rfl rfl) rfl ?_)
  show AWp _ _ _ _ _ _ _
  refine aS (aS (aR ?_))
  (refine nx (aM (gN rfl) rfl rfl rfl rfl rfl) rfl ?_)
  (refine nx (a_neq (gN rfl) rfl rfl rfl rfl rfl rfl) rfl ?_)
  show AWp _ _ _ _ _ _ _
  refine aC rfl (fun hc => by cases hc) (fun hc => aK ?_)
  show AWp _ _ _ _ _ _ _
  cases hra : rT 257 (zs.drop (q + c)) with
  | error e =>
    rw [hra] at hta hR
    simp only at hR
    rw [hR]
    have he0 : e ≠ 0 := by rcases rT_er _ _ _ hra with h | h <;> omega
    have g2 : decide ((e : Int) ≠ 0) = true := by rw [decide_eq_true_eq]; omega
    refine aS (aR ?_)
    (refine nx (aM (gN rfl) rfl rfl rfl rfl rfl) rfl ?_)
    (refine nx (aM (gN rfl) rfl rfl rfl rfl rfl) rfl ?_)
    (refine nx (a_call (gN rfl) rfl rfl rfl rfl rfl (hta)) rfl ?_)
    (refine nx (aM (gN rfl) rfl rfl rfl rfl rfl) rfl ?_)
    (refine nx (aX (gN rfl) rfl rfl rfl rfl rfl rfl) rfl ?_)
    (refine nx (aX (gN rfl) rfl rfl rfl rfl rfl rfl) rfl ?_)
    (refine nx (aX (gN rfl) rfl rfl rfl rfl rfl rfl) rfl ?_)
    (refine nx (a_alloc (gN rfl) rfl rfl rfl rfl rfl rfl rfl rfl rfl rfl) rfl ?_)
    (refine nx (aSt (gN rfl) rfl rfl rfl rfl rfl rfl rfl rfl rfl rfl) rfl ?_)
    (refine nx (aA (gN rfl) rfl rfl rfl rfl rfl) rfl ?_)
    (refine nx (aA (gN rfl) rfl rfl rfl rfl rfl) rfl ?_)
    show AWp _ _ _ _ _ _ _
    refine aS (aS (aR ?_))
    (refine nx (aM (gN rfl) rfl rfl rfl rfl rfl) rfl ?_)
    (refine nx (a_neq (gN rfl) rfl rfl rfl rfl rfl rfl) rfl ?_)
    show AWp _ _ _ _ _ _ _
    refine aC rfl (fun hc => ?_) (fun hc => Bool.noConfusion (g2.symm.trans hc))
    refine aS (aR ?_)
    (refine nx (a_build (gN rfl) rfl rfl rfl rfl rfl rfl rfl rfl rfl rfl rfl) rfl ?_)
    (refine nx (aM (gN rfl) rfl rfl rfl rfl rfl) rfl ?_)
    (refine nx (aSt (gN rfl) rfl rfl rfl rfl rfl rfl rfl rfl rfl rfl) rfl ?_)
    (refine nx (aA (gN rfl) rfl rfl rfl rfl rfl) rfl ?_)
    (refine nx (aA (gN rfl) rfl rfl rfl rfl rfl) rfl ?_)
    show AWp _ _ _ _ _ _ _
    exact aT (And.intro (.inr rfl) rfl)
  | ok ac =>
  obtain ⟨a, c1⟩ := ac
  rw [hra] at hta hR
  simp only at hR
  obtain ⟨hc1, _⟩ := rT_back 257 (zs.drop (q + c)) (hw.drop _) a c1 hra
  rw [List.length_drop] at hc1
  rw [List.drop_drop, show q + (c + c1) = q + c + c1 by omega] at hR
  have htb := cGetT_abs zs hw hl 257 (Nat.le_refl _) w (q + c + c1) (by omega)
  rw [show (257 : Int) - (257 : Nat) = 0 from rfl] at htb
  refine aS (aR ?_)
  (refine nx (aM (gN rfl) rfl rfl rfl rfl rfl) rfl ?_)
  (refine nx (aM (gN rfl) rfl rfl rfl rfl rfl) rfl ?_)
  (refine nx (a_call (gN rfl) rfl rfl rfl rfl rfl (hta)) rfl ?_)
  (refine nx (aM (gN rfl) rfl rfl rfl rfl rfl) rfl ?_)
  (refine nx (aX (gN rfl) rfl rfl rfl rfl rfl rfl) rfl ?_)
  (refine nx (aX (gN rfl) rfl rfl rfl rfl rfl rfl) rfl ?_)
  (refine nx (aX (gN rfl) rfl rfl rfl rfl rfl rfl) rfl ?_)
  (refine nx (a_alloc (gN rfl) rfl rfl rfl rfl rfl rfl rfl rfl rfl rfl) rfl ?_)
  (refine nx (aSt (gN rfl) rfl rfl rfl rfl rfl rfl rfl rfl rfl rfl) rfl ?_)
  (refine nx (aA (gN rfl) rfl rfl rfl rfl rfl) rfl ?_)
  (refine nx (aA (gN rfl) rfl rfl rfl rfl rfl) rfl ?_)
  show AWp _ _ _ _ _ _ _
  refine aS (aS (aR ?_))
  (refine nx (aM (gN rfl) rfl rfl rfl rfl rfl) rfl ?_)
  (refine nx (a_neq (gN rfl) rfl rfl rfl rfl rfl rfl) rfl ?_)
  show AWp _ _ _ _ _ _ _
  refine aC rfl (fun hc => by cases hc) (fun hc => aK ?_)
  show AWp _ _ _ _ _ _ _
  cases hrb : rT 257 (zs.drop (q + c + c1)) with
  | error e =>
    rw [hrb] at htb hR
    simp only at hR
    rw [hR]
    have he0 : e ≠ 0 := by rcases rT_er _ _ _ hrb with h | h <;> omega
    have g2 : decide ((e : Int) ≠ 0) = true := by rw [decide_eq_true_eq]; omega
    refine aS (aR ?_)
    (refine nx (aM (gN rfl) rfl rfl rfl rfl rfl) rfl ?_)
    (refine nx (aM (gN rfl) rfl rfl rfl rfl rfl) rfl ?_)
    (refine nx (a_call (gN rfl) rfl rfl rfl rfl rfl (htb)) rfl ?_)
    (refine nx (aM (gN rfl) rfl rfl rfl rfl rfl) rfl ?_)
    (refine nx (aX (gN rfl) rfl rfl rfl rfl rfl rfl) rfl ?_)
    (refine nx (aX (gN rfl) rfl rfl rfl rfl rfl rfl) rfl ?_)
    (refine nx (aX (gN rfl) rfl rfl rfl rfl rfl rfl) rfl ?_)
    (refine nx (a_alloc (gN rfl) rfl rfl rfl rfl rfl rfl rfl rfl rfl rfl) rfl ?_)
    (refine nx (aSt (gN rfl) rfl rfl rfl rfl rfl rfl rfl rfl rfl rfl) rfl ?_)
    (refine nx (aA (gN rfl) rfl rfl rfl rfl rfl) rfl ?_)
    (refine nx (aA (gN rfl) rfl rfl rfl rfl rfl) rfl ?_)
    show AWp _ _ _ _ _ _ _
    refine aS (aS (aR ?_))
    (refine nx (aM (gN rfl) rfl rfl rfl rfl rfl) rfl ?_)
    (refine nx (a_neq (gN rfl) rfl rfl rfl rfl rfl rfl) rfl ?_)
    show AWp _ _ _ _ _ _ _
    refine aC rfl (fun hc => ?_) (fun hc => Bool.noConfusion (g2.symm.trans hc))
    refine aS (aR ?_)
    (refine nx (a_build (gN rfl) rfl rfl rfl rfl rfl rfl rfl rfl rfl rfl rfl) rfl ?_)
    (refine nx (aM (gN rfl) rfl rfl rfl rfl rfl) rfl ?_)
    (refine nx (aSt (gN rfl) rfl rfl rfl rfl rfl rfl rfl rfl rfl rfl) rfl ?_)
    (refine nx (aA (gN rfl) rfl rfl rfl rfl rfl) rfl ?_)
    (refine nx (aA (gN rfl) rfl rfl rfl rfl rfl) rfl ?_)
    show AWp _ _ _ _ _ _ _
    exact aT (And.intro (.inr rfl) rfl)
  | ok bc =>
  obtain ⟨b, c2⟩ := bc
  rw [hrb] at htb hR
  simp only at hR
  rw [hR]
  refine aS (aR ?_)
  (refine nx (aM (gN rfl) rfl rfl rfl rfl rfl) rfl ?_)
  (refine nx (aM (gN rfl) rfl rfl rfl rfl rfl) rfl ?_)
  (refine nx (a_call (gN rfl) rfl rfl rfl rfl rfl (htb)) rfl ?_)
  (refine nx (aM (gN rfl) rfl rfl rfl rfl rfl) rfl ?_)
  (refine nx (aX (gN rfl) rfl rfl rfl rfl rfl rfl) rfl ?_)
  (refine nx (aX (gN rfl) rfl rfl rfl rfl rfl rfl) rfl ?_)
  (refine nx (aX (gN rfl) rfl rfl rfl rfl rfl rfl) rfl ?_)
  (refine nx (a_alloc (gN rfl) rfl rfl rfl rfl rfl rfl rfl rfl rfl rfl) rfl ?_)
  (refine nx (aSt (gN rfl) rfl rfl rfl rfl rfl rfl rfl rfl rfl rfl) rfl ?_)
  (refine nx (aA (gN rfl) rfl rfl rfl rfl rfl) rfl ?_)
  (refine nx (aA (gN rfl) rfl rfl rfl rfl rfl) rfl ?_)
  show AWp _ _ _ _ _ _ _
  refine aS (aS (aR ?_))
  (refine nx (aM (gN rfl) rfl rfl rfl rfl rfl) rfl ?_)
  (refine nx (a_neq (gN rfl) rfl rfl rfl rfl rfl rfl) rfl ?_)
  show AWp _ _ _ _ _ _ _
  refine aC rfl (fun hc => by cases hc) (fun hc => aK ?_)
  show AWp _ _ _ _ _ _ _
  refine aS (aR ?_)
  (refine nx (aM (gN rfl) rfl rfl rfl rfl rfl) rfl ?_)
  (refine nx (a_eql (gN rfl) rfl rfl rfl rfl rfl rfl) rfl ?_)
  (refine nx (aL (gN rfl) rfl rfl rfl rfl rfl rfl rfl rfl rfl rfl rfl rfl) rfl ?_)
  (refine nx (aL (gN rfl) rfl rfl rfl rfl rfl rfl rfl rfl rfl rfl rfl rfl) rfl ?_)
  (refine nx (a_build (gN rfl) rfl rfl rfl rfl rfl rfl rfl rfl rfl rfl rfl) rfl ?_)
  (refine nx (aM (gN rfl) rfl rfl rfl rfl rfl) rfl ?_)
  (refine nx (aSt (gN rfl) rfl rfl rfl rfl rfl rfl rfl rfl rfl rfl) rfl ?_)
  (refine nx (aA (gN rfl) rfl rfl rfl rfl rfl) rfl ?_)
  (refine nx (aA (gN rfl) rfl rfl rfl rfl rfl) rfl ?_)
  show AWp _ _ _ _ _ _ _
  refine aT (And.intro (.inr rfl) ?_)
  show some [CV.row [.b (decide ((n : Int) = 1)), a.cw, b.cw], .i ((q + c + c1 + c2 : Nat) : Int), by8 0] = some [CV.row [.b (decide (n = 1)), a.cw, b.cw], .i ((q + (c + c1 + c2) : Nat) : Int), by8 0]
  rw [show q + (c + c1 + c2) = q + c + c1 + c2 by omega, show decide ((n : Int) = 1) = decide (n = 1) from decide_eq_decide.2 (by omega)]
-- 
theorem cGet1_abs (W : World) (zs : List Int) (hw : wfB zs) (hl : zs.length ≤ 1000000) (q : Nat) (hq : q ≤ zs.length) : AFun Tryz.prog W 61 [.i (q : Int), .ptr (.lst (zs.map by8))] (.tup (tupG q (rL (zs.drop q)))) := by
  have hc := fun w => cGetL_abs w zs hw hl q hq
  refine afun_of (rs := tupG q (rL (zs.drop q))) Tryz.func61 Tryz.ntmps61 rfl rfl rfl rfl ?_
  intro w U hW
  have hc := hc w
  cases hrq : rL (zs.drop q) with
  | error er =>
    rw [hrq] at hc
    refine aS (aR ?_)
    (refine nx (a_alloc (gN rfl) rfl rfl rfl rfl rfl rfl rfl rfl rfl rfl) rfl ?_)
    (refine nx (aA (gN rfl) rfl rfl rfl rfl rfl) rfl ?_)
    (refine nx (aA (gN rfl) rfl rfl rfl rfl rfl) rfl ?_)
    show AWp _ _ _ _ _ _ _
    refine aS (aR ?_)
    (refine nx (a_load_ptr (gN rfl) rfl rfl rfl rfl rfl rfl rfl rfl rfl) rfl ?_)
    (refine nx (aM (gN rfl) rfl rfl rfl rfl rfl) rfl ?_)
    (refine nx (a_call (gN rfl) rfl rfl rfl rfl rfl (hc)) rfl ?_)
    (refine nx (aX (gN rfl) rfl rfl rfl rfl rfl rfl) rfl ?_)
    (refine nx (aX (gN rfl) rfl rfl rfl rfl rfl rfl) rfl ?_)
    (refine nx (aX (gN rfl) rfl rfl rfl rfl rfl rfl) rfl ?_)
    (refine nx (aSt (gN rfl) rfl rfl rfl rfl rfl rfl rfl rfl rfl rfl) rfl ?_)
    (refine nx (aA (gN rfl) rfl rfl rfl rfl rfl) rfl ?_)
    (refine nx (aA (gN rfl) rfl rfl rfl rfl rfl) rfl ?_)
    show AWp _ _ _ _ _ _ _
    exact aT (And.intro (.inr rfl) rfl)
  | ok xc =>
    obtain ⟨x, c⟩ := xc
    rw [hrq] at hc
    refine aS (aR ?_)
    (refine nx (a_alloc (gN rfl) rfl rfl rfl rfl rfl rfl rfl rfl rfl rfl) rfl ?_)
    (refine nx (aA (gN rfl) rfl rfl rfl rfl rfl) rfl ?_)
    (refine nx (aA (gN rfl) rfl rfl rfl rfl rfl) rfl ?_)
    show AWp _ _ _ _ _ _ _
    refine aS (aR ?_)
    (refine nx (a_load_ptr (gN rfl) rfl rfl rfl rfl rfl rfl rfl rfl rfl) rfl ?_)
    (refine nx (aM (gN rfl) rfl rfl rfl rfl rfl) rfl ?_)
    (refine nx (a_call (gN rfl) rfl rfl rfl rfl rfl (hc)) rfl ?_)
    (refine nx (aX (gN rfl) rfl rfl rfl rfl rfl rfl) rfl ?_)
    (refine nx (aX (gN rfl) rfl rfl rfl rfl rfl rfl) rfl ?_)
    (refine nx (aX (gN rfl) rfl rfl rfl rfl rfl rfl) rfl ?_)
    (refine nx (aSt (gN rfl) rfl rfl rfl rfl rfl rfl rfl rfl rfl rfl) rfl ?_)
    (refine nx (aA (gN rfl) rfl rfl rfl rfl rfl) rfl ?_)
    (refine nx (aA (gN rfl) rfl rfl rfl rfl rfl) rfl ?_)
    show AWp _ _ _ _ _ _ _
    exact aT (And.intro (.inr rfl) rfl)
-- 
theorem cListE_abs (W : World) (zs : List Int) (hl : zs.length ≤ 1000000) (fc : CV) (p : Int) (h : p < 0 ∨ p > zs.length) : AFun Tryz.prog W 60 [.lst (zs.map by8), .i p, fc] (.tup [.lst [], .i 0, by8 1]) := by
  have hn := fun w => cGetE_abs w zs p 4096 1 (by decide) (fun w => cUintA_abs w zs hl p h)
  refine afun_of (rs := [.lst [], .i 0, by8 1]) Tryz.func60 Tryz.ntmps60 rfl rfl rfl rfl ?_
  intro w U hW
  refine aS (aR ?_)
  (refine nx (aA (gN rfl) rfl rfl rfl rfl rfl) rfl ?_)
  (refine nx (aA (gN rfl) rfl rfl rfl rfl rfl) rfl ?_)
  (refine nx (aA (gN rfl) rfl rfl rfl rfl rfl) rfl ?_)
  show AWp _ _ _ _ _ _ _
  refine aS (aR ?_)
  (refine nx (aM (gN rfl) rfl rfl rfl rfl rfl) rfl ?_)
  (refine nx (aM (gN rfl) rfl rfl rfl rfl rfl) rfl ?_)
  (refine nx (a_call (gN rfl) rfl rfl rfl rfl rfl (hn w)) rfl ?_)
  (refine nx (aM (gN rfl) rfl rfl rfl rfl rfl) rfl ?_)
  (refine nx (aX (gN rfl) rfl rfl rfl rfl rfl rfl) rfl ?_)
  (refine nx (aX (gN rfl) rfl rfl rfl rfl rfl rfl) rfl ?_)
  (refine nx (aX (gN rfl) rfl rfl rfl rfl rfl rfl) rfl ?_)
  (refine nx (aA (gN rfl) rfl rfl rfl rfl rfl) rfl ?_)
  (refine nx (aA (gN rfl) rfl rfl rfl rfl rfl) rfl ?_)
  (refine nx (aA (gN rfl) rfl rfl rfl rfl rfl) rfl ?_)
  show AWp _ _ _ _ _ _ _
  refine aS (aS (aR ?_))
  (refine nx (aM (gN rfl) rfl rfl rfl rfl rfl) rfl ?_)
  (refine nx (a_neq (gN rfl) rfl rfl rfl rfl rfl rfl) rfl ?_)
  show AWp _ _ _ _ _ _ _
  refine aC rfl (fun hc => ?_) (fun hc => by cases hc)
  refine aS (aR ?_)
  (refine nx (aM (gN rfl) rfl rfl rfl rfl rfl) rfl ?_)
  (refine nx (aA (gN rfl) rfl rfl rfl rfl rfl) rfl ?_)
  (refine nx (aA (gN rfl) rfl rfl rfl rfl rfl) rfl ?_)
  (refine nx (aA (gN rfl) rfl rfl rfl rfl rfl) rfl ?_)
  show AWp _ _ _ _ _ _ _
  exact aT (And.intro (.inr rfl) rfl)
def gC (zs : List Int) (p : Int) : Except Nat (List Lt × Nat) := if p < 0 ∨ p > zs.length then .error 1 else rC (zs.drop p.toNat)
-- 
theorem cGet_abs (W : World) (zs : List Int) (hw : wfB zs) (hl : zs.length ≤ 1000000) (p : Int) : AFun Tryz.prog W 31 [.lst (zs.map by8), .i p] (.tup (tupLG p.toNat (gC zs p))) := by
  have hc : ∀ w, AFun Tryz.prog w 60 [.lst (zs.map by8), .i p, .fn 61 0 [.ptr (.lst (zs.map by8))]] (.tup (tupLG p.toNat (gC zs p))) := fun w => by
    unfold gC
    by_cases hp : p < 0 ∨ p > zs.length
    · rw [if_pos hp]
      exact cListE_abs w zs hl _ p hp
    · rw [if_neg hp]
      obtain ⟨q, rfl⟩ : ∃ q : Nat, p = q := ⟨p.toNat, by omega⟩
      exact cListG_abs w zs hw hl _ rL (fun l x c hwl h => (rL_back l hwl x c h).1) rL_er (fun w q hq => ⟨_, _, _, rfl, cGet1_abs w zs hw hl q hq⟩) q (by omega)
  obtain ⟨R, hR⟩ : ∃ R, R = gC zs p := ⟨_, rfl⟩
  rw [← hR] at hc ⊢
  refine afun_of (rs := tupLG p.toNat R) Tryz.func31 Tryz.ntmps31 rfl rfl rfl rfl ?_
  intro w U hW
  refine aS (aR ?_)
  (refine nx (a_box (gN rfl) rfl rfl rfl rfl rfl) rfl ?_)
  (refine nx (aA (gN rfl) rfl rfl rfl rfl rfl) rfl ?_)
  (refine nx (aA (gN rfl) rfl rfl rfl rfl rfl) rfl ?_)
  (refine nx (aA (gN rfl) rfl rfl rfl rfl rfl) rfl ?_)
  show AWp _ _ _ _ _ _ _
  refine AWp.wk (wk_freeze 2 rfl rfl rfl (s' := [(1, .val (.i p))]) ⟨rfl, trivial⟩ rfl rfl rfl) ?_
  refine aS (aR ?_)
  (refine nx (a_load_ptr (gN rfl) rfl rfl rfl rfl rfl rfl rfl rfl rfl) rfl ?_)
  (refine nx (aM (gN rfl) rfl rfl rfl rfl rfl) rfl ?_)
  (refine nx (a_mkfunc (gN rfl) rfl rfl rfl rfl rfl rfl) rfl ?_)
  (refine nx (a_call (gN rfl) rfl rfl rfl rfl rfl (hc w)) rfl ?_)
  (refine nx (aX (gN rfl) rfl rfl rfl rfl rfl rfl) rfl ?_)
  (refine nx (aX (gN rfl) rfl rfl rfl rfl rfl rfl) rfl ?_)
  (refine nx (aX (gN rfl) rfl rfl rfl rfl rfl rfl) rfl ?_)
  (refine nx (aA (gN rfl) rfl rfl rfl rfl rfl) rfl ?_)
  (refine nx (aA (gN rfl) rfl rfl rfl rfl rfl) rfl ?_)
  (refine nx (aA (gN rfl) rfl rfl rfl rfl rfl) rfl ?_)
  show AWp _ _ _ _ _ _ _
  exact aT (And.intro (.inr rfl) rfl)
end Go.Proofs.YtmeegdomncadpaaGreat
