/-
  OrFns3 AbMapT AbQ SbQ AbBackB SbImg SbApM ClSides ClWith SrtGen ClNmM AbKind CodeMath CodeLen CodePut CodePutMore RefSame CodeRef CodeAlive CodeReadMath CodeRead CodeUint CodeText CodeBackMath ClBy ClCode ClPut ClGet ClGet2 ClA ClB ClNmN EqMath EqWays EqConcat ClSort AbZero ClNmW
-/
import Derived.Test.YteegmcfobgpemaaGreatMg9
import Derived.Test.YteegmcfobgpemaaGreatMg3
import Derived.Test.YteegmcfobgpemaaGreatMg8
import Derived.Test.YteegmcfobgpemaaGreatMg4
import Derived.Test.YteegmcfobgpemaaGreatMg2
import Derived.WalkKit
import Derived.Test.YteegmcfobgpemaaGreatChecked
import Derived.WalkLawsBesides
import Derived.WalkSpells
import Derived.Test.YteegmcfobgpemaaGreatMg1
import Derived.Laws.BitsAllLaws
import Derived.Deep.QuietTactic
import Derived.BigQuiet
import Derived.Laws.BytesArg
import Derived.Test.YteegmcfobgpemaaGreatMg5
namespace Go.Proofs.YteegmcfobgpemaaGreat
open Go.RowKit
set_option linter.unusedVariables false
set_option linter.unusedSimpArgs false
set_option maxRecDepth 100000
def Lt.fit (l : Lt) : Prop := l.a.fit ∧ l.b.fit
def wtL (l : Lt) : Int := (l.a.size : Int) + (l.b.size : Int)
-- 
theorem oWt_abs (W : World) (l : Lt) (h : l.fit) : AFun Tryz.prog W 83 [l.cw] (.val (.i (wtL l))) := by
  have h1 := h.1.2.2
  have h2 := h.2.2.2
  refine afun_of (rs := [.i (wtL l)]) Tryz.func83 Tryz.ntmps83 rfl rfl rfl rfl ?_
  intro w U hW
  refine aS (aR ?_)
  (refine nx (a_box (gN rfl) rfl rfl rfl rfl rfl) rfl ?_)
  (refine nx (aA (gN rfl) rfl rfl rfl rfl rfl) rfl ?_)
  show AWp _ _ _ _ _ _ _
  refine aS (aD (by kernel_rfl) (by kernel_rfl) ?_)
  (refine nx (aF (gN rfl) rfl rfl rfl rfl rfl rfl rfl rfl rfl) rfl ?_)
  (refine nx (aLb (gN rfl) rfl rfl rfl rfl rfl rfl rfl rfl rfl rfl rfl rfl) rfl ?_)
  (refine nx (a_call (gN rfl) rfl rfl rfl rfl rfl (size_abs w h.1.1 (by omega))) rfl ?_)
  (refine nx (aF (gN rfl) rfl rfl rfl rfl rfl rfl rfl rfl rfl) rfl ?_)
  (refine nx (aLb (gN rfl) rfl rfl rfl rfl rfl rfl rfl rfl rfl rfl rfl rfl) rfl ?_)
  (refine nx (a_call (gN rfl) rfl rfl rfl rfl rfl (size_abs w h.2.1 (by omega))) rfl ?_)
  (refine nx (a_add (gN rfl) rfl rfl rfl rfl rfl rfl (by first | omega | (simp only [List.length_map, List.length_append, List.length_cons, List.length_nil] <;> omega) | (simp <;> omega))) rfl ?_)
  (refine nx (aA (gN rfl) rfl rfl rfl rfl rfl) rfl ?_)
  refine ⟨by kernel_rfl, ?_⟩
  show AWp _ _ _ _ _ _ _
  exact aT (And.intro (.inr rfl) rfl)
def hvK (c : List Lt) : Nat → Int × Int
  | 0 => (-1, 0)
  | k + 1 => match c[k]? with
    | none => hvK c k
    | some l => if l.neg = true ∧ (hvK c k).2 < wtL l then ((k : Int), wtL l) else hvK c k
-- 
theorem oHv_abs (W : World) (c : List Lt) (hn : c.length ≤ 100000) (hc : ∀ l ∈ c, l.fit) : AFun Tryz.prog W 60 [.lst (c.map Lt.cv)] (.val (.i (hvK c c.length).1)) := by
  have hsz := Lt.size_all c
  refine afun_of (rs := [.i (hvK c c.length).1]) Tryz.func60 Tryz.ntmps60 rfl rfl rfl rfl ?_
  intro w U hW
  refine aS (aR ?_)
  (refine nx (aA (gN rfl) rfl rfl rfl rfl rfl) rfl ?_)
  show AWp _ _ _ _ _ _ _
  refine aS (aR ?_)
  (refine nx (aA (gN rfl) rfl rfl rfl rfl rfl) rfl ?_)
  (refine nx (aA (gN rfl) rfl rfl rfl rfl rfl) rfl ?_)
  show AWp _ _ _ _ _ _ _
  refine aS (aS (aR ?_))
  (refine nx (aM (gN rfl) rfl rfl rfl rfl rfl) rfl ?_)
  (refine nx (a_len (gN rfl) rfl rfl rfl rfl rfl rfl rfl) rfl ?_)
  (refine nx (aM (gN rfl) rfl rfl rfl rfl rfl) rfl ?_)
  show AWp _ _ _ _ _ _ _
  let st : Nat → AS := fun k => [(3, .val (.i (hvK c k).1)), (4, .val (.i (hvK c k).2)), (8, .val (.lst (c.map Lt.cv))), (9, .val (.i (c.map Lt.cv).length)), (10, .val (.i k))]
  refine aB (awp_count c.length st (wk_sub ⟨rfl, rfl, rfl, rfl, rfl, trivial⟩) ?_)
  intro k hk
  refine aS (aR ?_)
  (refine nx (a_lss (gN rfl) rfl rfl rfl rfl rfl rfl) rfl ?_)
  show AWp _ _ _ _ _ _ _
  refine aS (aC rfl (fun hlt => ?_) (fun hlt => ?_))
  · have hkl : k < c.length := by simpa using hlt
    obtain ⟨x, hx⟩ : ∃ x, c[k]? = some x := ⟨c[k], List.getElem?_eq_getElem hkl⟩
    have hx' := Lt.map_at hx
    have hxf := hc x (List.mem_of_getElem? hx)
    have hK : hvK c (k + 1) = if x.neg = true ∧ (hvK c k).2 < wtL x then ((k : Int), wtL x) else hvK c k := by conv => lhs; unfold hvK; rw [hx]
    refine aK ?_
    show AWp _ _ _ _ _ _ _
    refine aS (aB (aS (aR ?_)))
    (refine nx (aM (gN rfl) rfl rfl rfl rfl rfl) rfl ?_)
    (refine nx (a_index (j := k) (gN rfl) rfl rfl rfl rfl rfl rfl rfl rfl rfl (hx') rfl (hsz)) rfl ?_)
    (refine nx (a_load_ad (gN rfl) rfl rfl rfl rfl rfl rfl rfl rfl rfl) rfl ?_)
    (refine nx (a_alloc (gN rfl) rfl rfl rfl rfl rfl rfl rfl rfl rfl rfl) rfl ?_)
    (refine nx (aA (gN rfl) rfl rfl rfl rfl rfl) rfl ?_)
    (refine nx (aSt (gN rfl) rfl rfl rfl rfl rfl rfl rfl rfl rfl rfl) rfl ?_)
    show AWp _ _ _ _ _ _ _
    refine AWp.wk (wk_sub (s' := [(3, .val (.i (hvK c k).1)), (4, .val (.i (hvK c k).2)), (5, .val (.i k)), (6, .bp 6 0 []), (100006, .bx x.cw), (8, .val (.lst (c.map Lt.cv))), (9, .val (.i (c.map Lt.cv).length)), (10, .val (.i k))]) ⟨rfl, rfl, rfl, rfl, rfl, rfl, rfl, rfl, trivial⟩) ?_
    refine aS (aS (aR ?_))
    (refine nx (aF (gN rfl) rfl rfl rfl rfl rfl rfl rfl rfl rfl) rfl ?_)
    (refine nx (aLb (gN rfl) rfl rfl rfl rfl rfl rfl rfl rfl rfl rfl rfl rfl) rfl ?_)
    (refine nx (a_not (gN rfl) rfl rfl rfl rfl rfl) rfl ?_)
    show AWp _ _ _ _ _ _ _
    refine aC rfl (fun hb => ?_) (fun hb => ?_)
    · have hb : (!x.neg) = true := hb
      have hng : x.neg = false := by simpa using hb
      have e : hvK c (k + 1) = hvK c k := by rw [hK, if_neg (by rw [hng]; simp)]
      refine aE ?_
      show AWp _ _ _ _ _ _ _
      refine aR ?_
      (refine nx (a_add (gN rfl) rfl rfl rfl rfl rfl rfl (by first | omega | (simp only [List.length_map, List.length_append, List.length_cons, List.length_nil] <;> omega) | (simp <;> omega))) rfl ?_)
      (refine nx (aM (gN rfl) rfl rfl rfl rfl rfl) rfl ?_)
      refine ⟨hkl, wk_sub ⟨?_, ?_, rfl, rfl, rfl, trivial⟩⟩
      · rw [e]; rfl
      · rw [e]; rfl
    · have hb : (!x.neg) = false := hb
      have hng : x.neg = true := by simpa using hb
      refine aK ?_
      show AWp _ _ _ _ _ _ _
      refine aS (aR ?_)
      (refine nx (aL (gN rfl) rfl rfl rfl rfl rfl rfl rfl rfl rfl rfl rfl rfl) rfl ?_)
      (refine nx (a_call (gN rfl) rfl rfl rfl rfl rfl (oWt_abs w x hxf)) rfl ?_)
      (refine nx (aA (gN rfl) rfl rfl rfl rfl rfl) rfl ?_)
      show AWp _ _ _ _ _ _ _
      refine aS (aR ?_)
      (refine nx (aM (gN rfl) rfl rfl rfl rfl rfl) rfl ?_)
      (refine nx (aM (gN rfl) rfl rfl rfl rfl rfl) rfl ?_)
      (refine nx (a_gtr (gN rfl) rfl rfl rfl rfl rfl rfl) rfl ?_)
      show AWp _ _ _ _ _ _ _
      refine aC rfl (fun hg => ?_) (fun hg => ?_)
      · have hg : decide (wtL x > (hvK c k).2) = true := hg
        have hg := of_decide_eq_true hg
        have e : hvK c (k + 1) = ((k : Int), wtL x) := by rw [hK, if_pos ⟨hng, by omega⟩]
        refine aR ?_
        (refine nx (aM (gN rfl) rfl rfl rfl rfl rfl) rfl ?_)
        (refine nx (aM (gN rfl) rfl rfl rfl rfl rfl) rfl ?_)
        (refine nx (aA (gN rfl) rfl rfl rfl rfl rfl) rfl ?_)
        (refine nx (aA (gN rfl) rfl rfl rfl rfl rfl) rfl ?_)
        show AWp _ _ _ _ _ _ _
        refine aR ?_
        (refine nx (a_add (gN rfl) rfl rfl rfl rfl rfl rfl (by first | omega | (simp only [List.length_map, List.length_append, List.length_cons, List.length_nil] <;> omega) | (simp <;> omega))) rfl ?_)
        (refine nx (aM (gN rfl) rfl rfl rfl rfl rfl) rfl ?_)
        refine ⟨hkl, wk_sub ⟨?_, ?_, rfl, rfl, rfl, trivial⟩⟩
        · rw [e]; rfl
        · rw [e]; rfl
      · have hg : decide (wtL x > (hvK c k).2) = false := hg
        have hg := of_decide_eq_false hg
        have e : hvK c (k + 1) = hvK c k := by rw [hK, if_neg (fun h => by have := h.2; omega)]
        refine aK ?_
        show AWp _ _ _ _ _ _ _
        refine aR ?_
        (refine nx (a_add (gN rfl) rfl rfl rfl rfl rfl rfl (by first | omega | (simp only [List.length_map, List.length_append, List.length_cons, List.length_nil] <;> omega) | (simp <;> omega))) rfl ?_)
        (refine nx (aM (gN rfl) rfl rfl rfl rfl rfl) rfl ?_)
        refine ⟨hkl, wk_sub ⟨?_, ?_, rfl, rfl, rfl, trivial⟩⟩
        · rw [e]; rfl
        · rw [e]; rfl
  · have hkl : k = c.length := by
      have : ¬ k < c.length := by simpa using hlt
      omega
    subst hkl
    refine aE ?_
    show AWp _ _ _ _ _ _ _
    refine aS (aR ?_)
    (refine nx (aM (gN rfl) rfl rfl rfl rfl rfl) rfl ?_)
    (refine nx (aA (gN rfl) rfl rfl rfl rfl rfl) rfl ?_)
    show AWp _ _ _ _ _ _ _
    exact aT (And.intro (.inr rfl) rfl)
noncomputable def gstL (c : List Lt) (x : Lt) : Bool := !(c.any fun l => mulB (tmsL l) (tmsL x))
noncomputable def gstI (c : List Lt) (i : Int) : Bool := if 0 ≤ i then (match c[i.toNat]? with | some x => gstL c x | none => false) else false
-- 
theorem oGstF_abs (W : World) (c : List Lt) (k : Nat) (x l : Lt) (hx : c[k]? = some x) (hxf : x.fit) (hl : l.fit) : AFun Tryz.prog W 85 [l.cw, .ptr (.lst (c.map Lt.cv)), .ptr (.i (k : Int))] (.val (.b (mulB (tmsL l) (tmsL x)))) := by
  have hsz := Lt.size_all c
  have hx' := Lt.map_at hx
  refine afun_of (rs := [.b (mulB (tmsL l) (tmsL x))]) Tryz.func85 Tryz.ntmps85 rfl rfl rfl rfl ?_
  intro w U hW
  refine aS (aR ?_)
  (refine nx (a_box (gN rfl) rfl rfl rfl rfl rfl) rfl ?_)
  (refine nx (aA (gN rfl) rfl rfl rfl rfl rfl) rfl ?_)
  show AWp _ _ _ _ _ _ _
  refine aS (aD (by kernel_rfl) (by kernel_rfl) ?_)
  (refine nx (aL (gN rfl) rfl rfl rfl rfl rfl rfl rfl rfl rfl rfl rfl rfl) rfl ?_)
  (refine nx (a_load_ptr (gN rfl) rfl rfl rfl rfl rfl rfl rfl rfl rfl) rfl ?_)
  (refine nx (a_load_ptr (gN rfl) rfl rfl rfl rfl rfl rfl rfl rfl rfl) rfl ?_)
  (refine nx (a_index (j := k) (gN rfl) rfl rfl rfl rfl rfl rfl rfl rfl rfl (hx') rfl (hsz)) rfl ?_)
  (refine nx (a_load_ad (gN rfl) rfl rfl rfl rfl rfl rfl rfl rfl rfl) rfl ?_)
  (refine nx (a_call (gN rfl) rfl rfl rfl rfl rfl (oGr_abs w l x hl hxf)) rfl ?_)
  (refine nx (aA (gN rfl) rfl rfl rfl rfl rfl) rfl ?_)
  refine ⟨by kernel_rfl, ?_⟩
  show AWp _ _ _ _ _ _ _
  exact aT (And.intro (.inr rfl) rfl)
-- 
theorem oGst_abs (W : World) (c : List Lt) (i : Int) (hn : c.length ≤ 100000) (hc : ∀ l ∈ c, l.fit) : AFun Tryz.prog W 61 [.lst (c.map Lt.cv), .i i] (.val (.b (gstI c i))) := by
  refine afun_of (rs := [.b (gstI c i)]) Tryz.func61 Tryz.ntmps61 rfl rfl rfl rfl ?_
  intro w U hW
  refine aS (aR ?_)
  (refine nx (a_box (gN rfl) rfl rfl rfl rfl rfl) rfl ?_)
  (refine nx (a_box (gN rfl) rfl rfl rfl rfl rfl) rfl ?_)
  (refine nx (aA (gN rfl) rfl rfl rfl rfl rfl) rfl ?_)
  show AWp _ _ _ _ _ _ _
  by_cases hi : i < 0
  · have g : decide (i < 0) = true := decide_eq_true hi
    have e : gstI c i = false := by unfold gstI; rw [if_neg (by omega)]
    rw [e]
    refine aS (aS (aR ?_))
    (refine nx (aL (gN rfl) rfl rfl rfl rfl rfl rfl rfl rfl rfl rfl rfl rfl) rfl ?_)
    (refine nx (a_lss (gN rfl) rfl rfl rfl rfl rfl rfl) rfl ?_)
    (refine nx (aM (gN rfl) rfl rfl rfl rfl rfl) rfl ?_)
    (refine ⟨_, _, _, a_off (go_off rfl rfl rfl rfl (by first | rfl | assumption | (simp; done) | (simp [*]; done))) rfl rfl rfl, rfl, ?_⟩)
    (refine ⟨_, _, _, a_off (go_off rfl rfl rfl rfl (by first | rfl | assumption | (simp; done) | (simp [*]; done))) rfl rfl rfl, rfl, ?_⟩)
    (refine ⟨_, _, _, a_off (go_off rfl rfl rfl rfl (by first | rfl | assumption | (simp; done) | (simp [*]; done))) rfl rfl rfl, rfl, ?_⟩)
    (refine ⟨_, _, _, a_off (go_off rfl rfl rfl rfl (by first | rfl | assumption | (simp; done) | (simp [*]; done))) rfl rfl rfl, rfl, ?_⟩)
    (refine ⟨_, _, _, aPt (gN rfl) rfl rfl rfl rfl rfl ?hb rfl, rfl, ?_⟩; case hb => (first | rfl | assumption | (simp; done)))
    show AWp _ _ _ _ _ _ _
    refine aC rfl (fun _ => ?_) (fun h => by cases h)
    refine aS (aR ?_)
    (refine nx (aA (gN rfl) rfl rfl rfl rfl rfl) rfl ?_)
    show AWp _ _ _ _ _ _ _
    exact aT (And.intro (.inr rfl) rfl)
  · have g : decide (i < 0) = false := decide_eq_false hi
    refine aS (aS (aR ?_))
    (refine nx (aL (gN rfl) rfl rfl rfl rfl rfl rfl rfl rfl rfl rfl rfl rfl) rfl ?_)
    (refine nx (a_lss (gN rfl) rfl rfl rfl rfl rfl rfl) rfl ?_)
    (refine nx (aM (gN rfl) rfl rfl rfl rfl rfl) rfl ?_)
    (refine nx (aL (gd_on rfl rfl rfl rfl (by first | rfl | assumption | (simp; done))) rfl rfl rfl rfl rfl rfl rfl rfl rfl rfl rfl rfl) rfl ?_)
    (refine nx (aL (gd_on rfl rfl rfl rfl (by first | rfl | assumption | (simp; done))) rfl rfl rfl rfl rfl rfl rfl rfl rfl rfl rfl rfl) rfl ?_)
    (refine nx (a_len (gd_on rfl rfl rfl rfl (by first | rfl | assumption | (simp; done))) rfl rfl rfl rfl rfl rfl rfl) rfl ?_)
    (refine nx (a_geq (gd_on rfl rfl rfl rfl (by first | rfl | assumption | (simp; done))) rfl rfl rfl rfl rfl rfl) rfl ?_)
    (refine ⟨_, _, _, aPf (gN rfl) rfl rfl rfl rfl rfl ?hb rfl, rfl, ?_⟩; case hb => (first | rfl | assumption | (simp; done)))
    show AWp _ _ _ _ _ _ _
    refine aC rfl (fun h => ?_) (fun h => ?_)
    · have h : decide (i ≥ ((c.map Lt.cv).length : Int)) = true := h
      have h := of_decide_eq_true h
      rw [List.length_map] at h
      have e : gstI c i = false := by unfold gstI; rw [if_pos (by omega), List.getElem?_eq_none (by omega)]
      rw [e]
      refine aS (aR ?_)
      (refine nx (aA (gN rfl) rfl rfl rfl rfl rfl) rfl ?_)
      show AWp _ _ _ _ _ _ _
      exact aT (And.intro (.inr rfl) rfl)
    · have h : decide (i ≥ ((c.map Lt.cv).length : Int)) = false := h
      have h := of_decide_eq_false h
      rw [List.length_map] at h
      obtain ⟨k, rfl⟩ : ∃ k : Nat, i = (k : Int) := ⟨i.toNat, by omega⟩
      have hkl : k < c.length := by omega
      obtain ⟨x, hx⟩ : ∃ x, c[k]? = some x := ⟨c[k], List.getElem?_eq_getElem hkl⟩
      have hxf := hc x (List.mem_of_getElem? hx)
      have e : gstI c (k : Int) = !(c.any fun l => mulB (tmsL l) (tmsL x)) := by unfold gstI; rw [if_pos (by omega), Int.toNat_natCast, hx]; rfl
      rw [e]
      refine aK ?_
      show AWp _ _ _ _ _ _ _
      refine AWp.wk ((wk_freeze 2 rfl rfl rfl (s' := [(3, .bp 3 0 []), (100003, .bx (.i (k : Int)))]) ⟨rfl, rfl, trivial⟩ rfl rfl rfl).trans (wk_freeze 3 rfl rfl rfl (s' := [(2, .val (.ptr (.lst (c.map Lt.cv))))]) ⟨rfl, trivial⟩ rfl rfl rfl)) ?_
      refine aS (aR ?_)
      (refine nx (a_load_ptr (gN rfl) rfl rfl rfl rfl rfl rfl rfl rfl rfl) rfl ?_)
      (refine nx (a_mkfunc (gN rfl) rfl rfl rfl rfl rfl rfl) rfl ?_)
      (refine nx (a_call (gN rfl) rfl rfl rfl rfl rfl (conL_abs w (fun l => mulB (tmsL l) (tmsL x)) (.fn 85 0 [.ptr (.lst (c.map Lt.cv)), .ptr (.i (k : Int))]) c (by omega) (fun w l hl => .inl ⟨_, _, _, rfl, oGstF_abs w c k x l hx hxf (hc l hl)⟩))) rfl ?_)
      (refine nx (a_not (gN rfl) rfl rfl rfl rfl rfl) rfl ?_)
      (refine nx (aA (gN rfl) rfl rfl rfl rfl rfl) rfl ?_)
      show AWp _ _ _ _ _ _ _
      exact aT (And.intro (.inr rfl) rfl)
noncomputable def gsK (c : List Lt) (k : Nat) : List Int := ((List.range k).filter fun i : Nat => gstI c (i : Int)).map fun i : Nat => (i : Int)
theorem gsK_len (c : List Lt) (k : Nat) : (gsK c k).length ≤ k := by
  unfold gsK
  rw [List.length_map]
  exact Nat.le_trans (List.length_filter_le _ _) (by rw [List.length_range]; exact Nat.le_refl _)
theorem gsK_succ (c : List Lt) (k : Nat) : gsK c (k + 1) = gsK c k ++ (if gstI c (k : Int) = true then [(k : Int)] else []) := by
  unfold gsK
  rw [List.range_succ, List.filter_append, List.map_append]
  congr 1
  by_cases h : gstI c (k : Int) = true
  · rw [if_pos h, List.filter_cons_of_pos (by exact h)]; rfl
  · rw [if_neg h, List.filter_cons_of_neg (by exact h)]; rfl
noncomputable def lokL (c : List Lt) : List Int := if (hvK c c.length).1 ≥ 0 then [(hvK c c.length).1] else gsK c c.length
-- 
theorem oLook_abs (W : World) (c : List Lt) (hn : c.length ≤ 100000) (hc : ∀ l ∈ c, l.fit) : AFun Tryz.prog W 37 [.lst (c.map Lt.cv)] (.val (.lst ((lokL c).map CV.i))) := by
  refine afun_of (rs := [.lst ((lokL c).map CV.i)]) Tryz.func37 Tryz.ntmps37 rfl rfl rfl rfl ?_
  intro w U hW
  obtain ⟨hvv, hhv⟩ : ∃ z, z = (hvK c c.length).1 := ⟨_, rfl⟩
  have hlk : lokL c = if hvv ≥ 0 then [hvv] else gsK c c.length := by unfold lokL; rw [hhv]
  have hH := oHv_abs w c hn hc
  rw [← hhv] at hH
  refine aS (aR ?_)
  (refine nx (aA (gN rfl) rfl rfl rfl rfl rfl) rfl ?_)
  show AWp _ _ _ _ _ _ _
  refine aS (aS (aR ?_))
  (refine nx (aM (gN rfl) rfl rfl rfl rfl rfl) rfl ?_)
  (refine nx (a_call (gN rfl) rfl rfl rfl rfl rfl (hH)) rfl ?_)
  (refine nx (aA (gN rfl) rfl rfl rfl rfl rfl) rfl ?_)
  show AWp _ _ _ _ _ _ _
  refine aS (aR ?_)
  (refine nx (aM (gN rfl) rfl rfl rfl rfl rfl) rfl ?_)
  (refine nx (a_geq (gN rfl) rfl rfl rfl rfl rfl rfl) rfl ?_)
  show AWp _ _ _ _ _ _ _
  refine aC rfl (fun h => ?_) (fun h => ?_)
  · have h : decide (hvv ≥ 0) = true := h
    rw [hlk, if_pos (of_decide_eq_true h)]
    refine aS (aR ?_)
    (refine nx (aM (gN rfl) rfl rfl rfl rfl rfl) rfl ?_)
    (refine nx (a_bslice (gN rfl) rfl rfl rfl rfl rfl rfl rfl rfl rfl rfl rfl rfl rfl) rfl ?_)
    (refine nx (aA (gN rfl) rfl rfl rfl rfl rfl) rfl ?_)
    show AWp _ _ _ _ _ _ _
    exact aT (And.intro (.inr rfl) rfl)
  · have h : decide (hvv ≥ 0) = false := h
    rw [hlk, if_neg (of_decide_eq_false h)]
    refine aK ?_
    show AWp _ _ _ _ _ _ _
    refine aS (aR ?_)
    (refine nx (aA (gN rfl) rfl rfl rfl rfl rfl) rfl ?_)
    show AWp _ _ _ _ _ _ _
    refine aS (aS (aR ?_))
    (refine nx (aM (gN rfl) rfl rfl rfl rfl rfl) rfl ?_)
    (refine nx (a_len (gN rfl) rfl rfl rfl rfl rfl rfl rfl) rfl ?_)
    (refine nx (aM (gN rfl) rfl rfl rfl rfl rfl) rfl ?_)
    show AWp _ _ _ _ _ _ _
    let st : Nat → AS := fun k => [(0, .val (.lst (c.map Lt.cv))), (4, .own (.lst ((gsK c k).map CV.i)) 200023), (200023, .tok 3 1), (13, .val (.i (c.map Lt.cv).length)), (14, .val (.i k))]
    refine aB (awp_count c.length st ((wk_nil 4 200023 3 1 rfl rfl rfl rfl rfl rfl rfl).trans (wk_sub ⟨rfl, rfl, rfl, rfl, rfl, trivial⟩)) ?_)
    intro k hk
    refine aS (aR ?_)
    (refine nx (a_lss (gN rfl) rfl rfl rfl rfl rfl rfl) rfl ?_)
    show AWp _ _ _ _ _ _ _
    refine aS (aC rfl (fun hlt => ?_) (fun hlt => ?_))
    · have hkl : k < c.length := by simpa using hlt
      have hl3 : ((gsK c k).map CV.i).length ≤ k := by rw [List.length_map]; exact gsK_len c k
      have hl4 := gsK_len c k
      have hsz3 : ∀ x ∈ (gsK c k).map CV.i, x.size = 1 := ints_size _
      refine aK ?_
      show AWp _ _ _ _ _ _ _
      refine aS (aB (aS (aR ?_)))
      (refine nx (aM (gN rfl) rfl rfl rfl rfl rfl) rfl ?_)
      (refine nx (aA (gN rfl) rfl rfl rfl rfl rfl) rfl ?_)
      show AWp _ _ _ _ _ _ _
      refine aS (aR ?_)
      (refine nx (aM (gN rfl) rfl rfl rfl rfl rfl) rfl ?_)
      (refine nx (aM (gN rfl) rfl rfl rfl rfl rfl) rfl ?_)
      (refine nx (a_call (gN rfl) rfl rfl rfl rfl rfl (oGst_abs w c k hn hc)) rfl ?_)
      show AWp _ _ _ _ _ _ _
      refine aC rfl (fun hg => ?_) (fun hg => ?_)
      · have hg : gstI c (k : Int) = true := hg
        refine aR ?_
        (refine nx (aM (gN rfl) rfl rfl rfl rfl rfl) rfl ?_)
        (refine nx (aM (gN rfl) rfl rfl rfl rfl rfl) rfl ?_)
        (refine nx (a_bslice (gN rfl) rfl rfl rfl rfl rfl rfl rfl rfl rfl rfl rfl rfl rfl) rfl ?_)
        (refine nx (a_app (gN rfl) rfl rfl rfl rfl rfl rfl rfl rfl rfl rfl rfl rfl rfl rfl rfl (by first | assumption | exact sZ rfl | exact Tm.size_all _ | exact Bd.size_all _ | exact ints_size _ | exact bys_size _ | exact Lt.size_all _) (by first | assumption | exact sZ rfl | exact Tm.size_all _ | exact Bd.size_all _ | exact ints_size _ | exact bys_size _ | exact Lt.size_all _) (by first | omega | (simp only [List.length_map, List.length_append, List.length_cons, List.length_nil] <;> omega) | (simp <;> omega))) rfl ?_)
        (refine nx (aA (gN rfl) rfl rfl rfl rfl rfl) rfl ?_)
        show AWp _ _ _ _ _ _ _
        refine AWp.wk ((wk_sub (s' := [(0, .val (.lst (c.map Lt.cv))), (4, .own (.lst ((gsK c k).map CV.i ++ [CV.i (k : Int)])) 300023), (300023, .tok 3 1), (13, .val (.i (c.map Lt.cv).length)), (14, .val (.i k))]) ⟨rfl, rfl, rfl, rfl, rfl, trivial⟩).trans (wk_ren 300023 200023 rfl rfl rfl rfl)) ?_
        refine aR ?_
        (refine nx (a_add (gN rfl) rfl rfl rfl rfl rfl rfl (by first | omega | (simp only [List.length_map, List.length_append, List.length_cons, List.length_nil] <;> omega) | (simp <;> omega))) rfl ?_)
        (refine nx (aM (gN rfl) rfl rfl rfl rfl rfl) rfl ?_)
        refine ⟨hkl, wk_sub ⟨rfl, ?_, rfl, rfl, rfl, trivial⟩⟩
        show some (AV.own (.lst _) _) = some (AV.own (.lst _) _)
        rw [gsK_succ, if_pos hg, List.map_append]
        rfl
      · have hg : gstI c (k : Int) = false := hg
        refine aK ?_
        show AWp _ _ _ _ _ _ _
        refine aR ?_
        (refine nx (a_add (gN rfl) rfl rfl rfl rfl rfl rfl (by first | omega | (simp only [List.length_map, List.length_append, List.length_cons, List.length_nil] <;> omega) | (simp <;> omega))) rfl ?_)
        (refine nx (aM (gN rfl) rfl rfl rfl rfl rfl) rfl ?_)
        refine ⟨hkl, wk_sub ⟨rfl, ?_, rfl, rfl, rfl, trivial⟩⟩
        show some (AV.own (.lst _) _) = some (AV.own (.lst _) _)
        rw [gsK_succ, if_neg (by rw [hg]; decide), List.append_nil]
    · have hkl : k = c.length := by
        have : ¬ k < c.length := by simpa using hlt
        omega
      subst hkl
      refine aE ?_
      show AWp _ _ _ _ _ _ _
      refine aS (aR ?_)
      (refine nx (aM (gN rfl) rfl rfl rfl rfl rfl) rfl ?_)
      (refine nx (aA (gN rfl) rfl rfl rfl rfl rfl) rfl ?_)
      show AWp _ _ _ _ _ _ _
      exact aT (And.intro (.inr rfl) rfl)
end Go.Proofs.YteegmcfobgpemaaGreat
namespace Go.Proofs.YteegmcfobgpemaaGreat
open Go.RowKit Go.MapKept
set_option linter.unusedVariables false
set_option linter.unusedSimpArgs false
set_option maxRecDepth 100000
section
variable {P : Program} {w0 : World} {U0 : UX} {nt : Nat} {ops : Array Oper} {o : Oper} {S : Nat → Option AV} {gs : List Nat} {d : Nat} {s : AS} {a : Act} {w : World} {D : Nat → Nat → Prop} {hv : Nat → Value}
theorem vrep_zT {U : Nat → Nat → Prop} {w : World} {v : Value} {et : TypeId} (hz2 : (P.info? et).map (·.zero) = some (some (.agg #[.int .i64 0, .slice none 0 0]))) (hr : Rep U w (.row [.i 0, .lst []]) v.cells.toList) (hh : ∃ it, P.info? et = some it ∧ it.zero = some v) : VRep U w (.row [.i 0, .lst []]) v := by
  obtain ⟨it, h1, h2⟩ := hh
  rw [h1, Option.map_some, h2] at hz2
  injection hz2 with hz2
  injection hz2 with hz2
  subst hz2
  exact ⟨_, rfl, hr⟩
end
end Go.Proofs.YteegmcfobgpemaaGreat
namespace Go.Proofs.YteegmcfobgpemaaGreat
open Go.RowKit Go.MapKept
set_option linter.unusedVariables false
set_option linter.unusedSimpArgs false
def QUp (q : (Nat → Nat → Prop) → World → Prop) : Prop := ∀ (U V : Nat → Nat → Prop) (w w' : World), q U w → Below w.heap.size w w' → (∀ b o, b < w.heap.size → U b o → V b o) → q V w'
def AFunQ (P : Program) (q : (Nat → Nat → Prop) → World → Prop) (f : FuncId) (args : List CV) (r : AV) : Prop :=
  EntF P f ∧ (r.t = 0 ∨ r.t = 4) ∧ r.n = 0 ∧ ∀ (U : Nat → Nat → Prop) (w : World) (vs : List Value), q U w → VReps U w args vs →
    Calls P f vs.toArray w fun e w' => ∃ v, e = .returned v ∧ RR (fun b o => U b o ∨ w.heap.size ≤ b) w' r v ∧ Below w.heap.size w w'
def AFunVQ (P : Program) (q : (Nat → Nat → Prop) → World → Prop) (fc : CV) (args : List CV) (r : AV) : Prop := ∃ f n l, fc = .fn f n l ∧ AFunQ P q f (l.take n ++ (args ++ l.drop n)) r

section
variable {P : Program} {w0 : World} {U0 : UX} {nt : Nat} {ops : Array Oper} {o : Oper} {S : Nat → Option AV} {gs : List Nat} {d : Nat} {s : AS} {a : Act} {w : World} {D : Nat → Nat → Prop} {hv : Nat → Value} {q : (Nat → Nat → Prop) → World → Prop}

theorem SimG.atQ {W : World} (h : SimG w0 U0 nt s a w D hv) (hQ : QUp q) (hW : Hw W w0 U0) (hq : q U0.m w0) : q (Us w0 U0 D) w :=
  hQ _ _ _ _ hq (h.below.below hW.2) fun b o hb hu => .inl ⟨hb, hu, hW.2 b⟩

theorem a_callQ {W : World} (hQ : QUp q) (hW : Hw W w0 U0) (hq : q U0.m w0) {f : FuncId} {xs : Array Operand} {ts : Array TypeId} {cs : List CV} {r : AV} (hg : Gd w0 U0 nt ops o gs S) (hd : o.dst = some d) (hn : Nat.blt d nt = true) (h5 : Nat.blt d 100000 = true)
    (ho : o.op = .call { callee := .value (.func f), args := xs, argTypes := ts }) (hx : evsO S xs.toList = some cs) (hc : AFunQ P q f cs r) : AOp P w0 U0 nt ops o (gs ++ rdl xs.toList) [] S [(d, r)] := by
  intro s hs _ a w ⟨D, hv, h⟩ Q K hK
  rw [if_pos (hg s (fun k hk => hs k (List.mem_append_left _ hk)) a w D hv h)]
  have hargs := evsO_rep h (fun k hk => hs k (List.mem_append_right _ hk)) hx
  obtain ⟨h1, h2, h3, h4⟩ := hc
  have hcall := h4 _ w _ (h.atQ hQ hW hq) hargs
  have he : (execOp a.eval o).run P w = .ok (.enter f (xs.toList.map a.eval).toArray) w := by
    have hf : a.eval (.func f) = .func (.func f) #[] #[] := rfl
    have hen := h1 (xs.map a.eval) w
    have harr : (xs.toList.map a.eval).toArray = xs.map a.eval := by apply Array.ext'; simp
    rw [harr]
    generalize a.eval = ρ at hf hen ⊢
    simp [execOp, ho, resolve, invoke, Deferred.ofValue, hf, hen]
  unfold Oper.wp
  rw [he, Oper.upon_enter]
  refine hcall.mono ?_
  rintro e w' ⟨v, rfl, h6, h7⟩
  rw [hd]
  refine hK _ _ ⟨Dn D w w', hv, (h.growN h7).put (bL hn) (bL h5) (avrep_rr h2 h3 (us_of_rr rfl h7.size h.below.size h6))⟩

theorem a_callvQ {W : World} (hQ : QUp q) (hW : Hw W w0 U0) (hq : q U0.m w0) {x : Operand} {xs : Array Operand} {ts : Array TypeId} {fc : CV} {cs : List CV} {r : AV} {n q' p} (hg : Gd w0 U0 nt ops o gs S) (hd : o.dst = some d) (hn : Nat.blt d nt = true) (h5 : Nat.blt d 100000 = true)
    (ho : o.op = .call { callee := .value x, args := xs, argTypes := ts }) (hf : ev S x = some ⟨0, fc, n, q', p⟩) (hx : evsO S xs.toList = some cs) (hc : AFunVQ P q fc cs r) : AOp P w0 U0 nt ops o (gs ++ (rd x ++ rdl xs.toList)) [] S [(d, r)] := by
  intro s hs _ a w ⟨D, hv, h⟩ Q K hK
  rw [if_pos (hg s (fun k hk => hs k (List.mem_append_left _ hk)) a w D hv h)]
  have hargs := evsO_rep h (fun k hk => hs k (List.mem_append_right _ (List.mem_append_right _ hk))) hx
  have hfv := ev_val h (fun k hk => hs k (List.mem_append_right _ (List.mem_append_left _ hk))) hf
  obtain ⟨f, m, l, rfl, h1, h2, h3, h4⟩ := hc
  obtain ⟨ys, zs, e1, e2, e3, e4⟩ := vrep_fn.1 hfv
  obtain ⟨s1, s2⟩ := VReps.split (sq_vreps e4 e3)
  rw [e2] at s1 s2
  have hcall := h4 _ w _ (h.atQ hQ hW hq) (s1.append (hargs.append s2))
  have he : (execOp a.eval o).run P w = .ok (.enter f (ys ++ (xs.toList.map a.eval ++ zs)).toArray) w := by
    have hen := h1 (ys.toArray ++ (xs.map a.eval ++ zs.toArray)) w
    have harr : (ys ++ (xs.toList.map a.eval ++ zs)).toArray = ys.toArray ++ (xs.map a.eval ++ zs.toArray) := by apply Array.ext'; simp
    rw [harr]
    generalize a.eval = ρ at e1 hen ⊢
    simp [execOp, ho, resolve, invoke, Deferred.ofValue, e1, hen]
  unfold Oper.wp
  rw [he, Oper.upon_enter]
  refine hcall.mono ?_
  rintro e w' ⟨v, rfl, h6, h7⟩
  rw [hd]
  refine hK _ _ ⟨Dn D w w', hv, (h.growN h7).put (bL hn) (bL h5) (avrep_rr h2 h3 (us_of_rr rfl h7.size h.below.size h6))⟩

def MapQ (b g : Nat) (l : List CV) (U : Nat → Nat → Prop) (w : World) : Prop :=
  w.cell? ⟨b, 0, none⟩ = some (.map (some g)) ∧ ∃ es clock, w.heap[g]? = some (.map es clock) ∧ Ents U w l es.toList
theorem mapQ_up (b g : Nat) (l : List CV) : QUp (MapQ b g l) := by
  rintro U V w w' ⟨h1, es, clock, h2, h3⟩ hb hU
  have hcell : ∀ (b o : Nat) (v : Value), w.cell? ⟨b, o, none⟩ = some v → b < w.heap.size ∧ w'.cell? ⟨b, o, none⟩ = some v := fun b o v hc => by
    have hlt := World.block_lt_of_cell? w _ hc
    refine ⟨hlt, ?_⟩
    have := hb.block b hlt
    simp only [World.cell?] at hc ⊢
    rw [this]
    exact hc
  have hg : g < w.heap.size := by
    rcases Nat.lt_or_ge g w.heap.size with h | h
    · exact h
    · rw [Array.getElem?_eq_none h] at h2; cases h2
  exact ⟨(hcell _ _ _ h1).2, es, clock, by rw [hb.block g hg]; exact h2, h3.keep fun b o v hu hc => ⟨hU b o (hcell b o v hc).1 hu, (hcell b o v hc).2⟩⟩

theorem a_loadQ {W : World} {b g : Nat} {l : List CV} (hW : Hw W w0 U0) (hq : MapQ b g l U0.m w0) (hg : Gd w0 U0 nt ops o gs S) (hd : o.dst = some d) (hn : Nat.blt d nt = true) (h5 : Nat.blt d 100000 = true) {x : Operand} {ty : TypeId} {ds : TypeDesc} {n q p} (ho : o.op = .load ty x) (hu : P.underlying ty = some ds) (hi : (P.info? ty).map (·.size) = some 1) (hx : ev S x = some ⟨0, .sc (.pointer (some ⟨b, 0, none⟩)), n, q, p⟩) (hk : aggB ds = false) : AOp P w0 U0 nt ops o (gs ++ rd x) [] S [(d, .val (.sc (.map (some g))))] :=
  aop_val hg hd hn h5 (fun k hk => List.mem_append_left _ hk) fun s hs a w D hv hm => by
    have h1 := ev_sc hm (fun k hk => hs k (List.mem_append_right _ hk)) hx
    obtain ⟨h2, _⟩ := hm.atQ (mapQ_up b g l) hW hq
    obtain ⟨v, h4, h6, _⟩ := run_loadTree (c := .sc (.map (some g))) (U := Us w0 U0 D) (w := w) (b := b) (off := 0) (xs := [.map (some g)]) hu hi hk rfl (rep_sc.2 ⟨rfl, rfl⟩) (fun i hi => by
      have : i = 0 := by simp at hi; omega
      subst this
      exact h2)
    refine ⟨v, ?_, avrep_val h6⟩
    generalize a.eval = ρ at h1 ⊢
    simp [execOp, ho, Instr.loadAt, Instr.sureAddr, h1, h4]

theorem a_lookupQ {W : World} {b g : Nat} {l : List CV} (hW : Hw W w0 U0) (hq : MapQ b g l U0.m w0) (hg : Gd w0 U0 nt ops o gs S) (hd : o.dst = some d) (hn : Nat.blt d nt = true) (h5 : Nat.blt d 100000 = true) {x y : Operand} {t kt et : TypeId} {k : IntKind} {i : Int} {n0 q0 p0 n' q' p'} (ho : o.op = .lookup t x y true) (hu : P.underlying t = some (.map kt et)) (huk : P.underlying kt = some (.int k)) (hz2 : (P.info? et).map (·.zero) = some (some (.agg #[.int .i64 0, .slice none 0 0]))) (hzc : zeroT P et = some (.row [.i 0, .lst []])) (hx : ev S x = some ⟨0, .sc (.map (some g)), n0, q0, p0⟩) (hy : ev S y = some ⟨0, .sc (.int k i), n', q', p'⟩) (hik : IntKeys k l) {r : Option CV} (hlr : lookR k i l = r) : AOp P w0 U0 nt ops o (gs ++ (rd x ++ rd y)) [] S [(d, .tup [r.getD (.row [.i 0, .lst []]), .b r.isSome])] :=
  aop_val hg hd hn h5 (fun k hk => List.mem_append_left _ hk) fun s hs a w D hv hm => by
    have h1 := ev_sc hm (fun k hk => hs k (List.mem_append_right _ (List.mem_append_left _ hk))) hx
    have e2 := ev_sc hm (fun k hk => hs k (List.mem_append_right _ (List.mem_append_right _ hk))) hy
    subst hlr
    obtain ⟨_, es, clock, g2, g3⟩ := hm.atQ (mapQ_up b g l) hW hq
    obtain ⟨it, zv, i1, i2, i3⟩ := zeroT_spec hzc
    have hck := run_checkKey (P := P) (w := w) huk (k := .int k i) rfl es.isEmpty 9999
    have hge := Go.MapKept.run_getObj_map (P := P) g2
    rcases find_spec 0 g3 hik (i := i) with ⟨f1, f2⟩ | ⟨j, e, c, f1, f2, f3, f4, f5, f6⟩
    · have hfk := run_findKey (P := P) (w := w) huk f1
      have hzv : (zeroValue et).run P w = .ok zv w := by simp [zeroValue, typeInfo, i1, i2]
      refine ⟨.tuple #[zv, .bool false], ?_, ?_⟩
      · generalize a.eval = ρ at h1 e2 ⊢
        simp [execOp, ho, Instr.lookup, run_underlying hu, h1, e2, hge, hck, hfk, hzv]
      · rw [f2]
        have hr := i3 (Us w0 U0 D) w
        exact ⟨[zv, .bool false], rfl, zv, [.bool false], rfl, vrep_zT hz2 hr ⟨it, i1, i2⟩, .bool false, [], rfl, vrep_sc.2 ⟨rfl, rfl⟩, rfl⟩
    · have hfk := run_findKey (P := P) (w := w) huk f1
      refine ⟨.tuple #[e.val, .bool true], ?_, ?_⟩
      · generalize a.eval = ρ at h1 e2 ⊢
        simp [execOp, ho, Instr.lookup, run_underlying hu, h1, e2, hge, hck, hfk]
      · rw [f6]
        exact ⟨[e.val, .bool true], rfl, e.val, [.bool true], rfl, f4, .bool true, [], rfl, vrep_sc.2 ⟨rfl, rfl⟩, rfl⟩

theorem afunQ_of {f : FuncId} {fn : Func} {c : Code} {args rs : List CV} (hf : P.funcs[f]? = some fn) (hn : fn.ntmps = nt) (hname : (fn.name == "runtime.NumGoroutine") = false) (hb : fn.body = some c) (hl : Nat.ble args.length nt = true) (hnt : Nat.blt nt 100000 = true)
    (h : ∀ (w : World) (U : UX), Hw w w U → q U.m w → AWp P w U nt c (fun e s' => (e = .normal ∨ e = .ret) ∧ resO P s' fn.results.toList = some rs) (argS args 0)) : AFunQ P q f args (resAV rs) := by
  have hr2 : ((resAV rs).t = 0 ∨ (resAV rs).t = 4) ∧ (resAV rs).n = 0 := by
    unfold resAV
    split
    · exact ⟨.inl rfl, rfl⟩
    · exact ⟨.inr rfl, rfl⟩
  refine ⟨ent_of hf hname (by rw [hb]; rfl), hr2.1, hr2.2, fun U w vs hq hargs => ?_⟩
  have hlen := hargs.len
  refine calls_of_wp hf hb ?_
  have hle := Nat.le_of_ble_eq_true hl
  have hnt := bL hnt
  have hno : ∀ {k av}, 100000 ≤ k → look (argS args 0) k = some av → False := fun {k av} h1 h2 => by rw [argS_none (by omega)] at h2; cases h2
  obtain ⟨V, hV⟩ : ∃ V : UX, V = ⟨U, fun _ => False, fun _ => none, fun _ _ h => by cases h⟩ := ⟨_, rfl⟩
  have hs : Sim w V nt (argS args 0) { tmps := vs.toArray ++ Array.replicate (fn.ntmps - vs.toArray.size) undef, defers := [] } w := by
    refine ⟨fun _ _ => False, fun _ => .slice none 0 0, BelowX.refl _ _, rfl, by simp [hn]; omega, fun d av h1 h2 => ?_, fun n o av h1 => (hno (by unfold fKey; omega) h1).elim, fun n o o' av av' h1 => (hno (by unfold fKey; omega) h1).elim, fun k av h1 h2 => (hno h2.1 h1).elim, fun k av g h1 h2 => (hno h2.1 h1).elim, fun k k' av av' g h1 h2 h3 => (hno h3.1 h1).elim, fun n g h1 => (by rw [hV] at h1; cases h1), fun b o hd => hd.elim⟩
    obtain ⟨_, c', h3, rfl⟩ := look_argS h1
    rw [Nat.sub_zero] at h3
    obtain ⟨v, h4, h5⟩ := hargs.at h3
    have hdl : d < vs.length := by
      rcases Nat.lt_or_ge d vs.length with h | h
      · exact h
      · rw [List.getElem?_eq_none h] at h4; cases h4
    refine ⟨v, ?_, avrep_val (h5.keep fun b o v hu hc => ⟨.inl ⟨World.block_lt_of_cell? w _ hc, by rw [hV]; exact ⟨hu, fun h => h⟩⟩, hc⟩)⟩
    rw [Array.getElem?_append_left (by simpa using hdl)]
    simpa using h4
  refine wp_mono ((h w V (by rw [hV]; exact ⟨fun _ => rfl, fun _ h => h⟩) (by rw [hV]; exact hq) ⟨none, []⟩ _ w hs).wp rfl (fun e a w ⟨s, _, h⟩ => h.df)) ?_
  rintro e a' w' ⟨s', ⟨h1, h2⟩, D, hv, h3⟩
  obtain ⟨v, h4, h5⟩ := res_run h3 h2
  have hR : RR (fun b o => U b o ∨ w.heap.size ≤ b) w' (resAV rs) v := by
    have hk : ∀ b o u, Us w V D b o → w'.cell? ⟨b, o, none⟩ = some u → (U b o ∨ w.heap.size ≤ b) ∧ w'.cell? ⟨b, o, none⟩ = some u := fun b o u hu hc => ⟨hu.imp (fun h => by rw [hV] at h; exact h.2.1) fun h => h.1, hc⟩
    unfold RR at h5 ⊢
    split
    · rename_i ht
      rw [if_pos ht] at h5
      obtain ⟨vs, h6, h7⟩ := h5
      exact ⟨vs, h6, h7.keep hk⟩
    · rename_i ht
      rw [if_neg ht] at h5
      exact h5.keep hk
  have hbw : Below w.heap.size w w' := h3.below.below (by rw [hV]; exact fun _ h => h)
  rcases h1 with rfl | rfl
  · exact ⟨h3.dfr, v, h4, v, rfl, hR, hbw⟩
  · exact ⟨h3.dfr, v, h4, v, rfl, hR, hbw⟩
end
end Go.Proofs.YteegmcfobgpemaaGreat
namespace Go.Proofs.YteegmcfobgpemaaGreat
open Go.RowKit
set_option linter.unusedVariables false
set_option linter.unusedSimpArgs false
set_option maxRecDepth 100000
noncomputable def imR (b : Bd) : CV := .row [.sc (.int .i64 b.v), b.t.cw]
theorem imR_keys (L : List Bd) : IntKeys .i64 (L.map imR) := fun r hr => by
  obtain ⟨b, _, rfl⟩ := List.mem_map.1 hr
  exact ⟨_, _, rfl⟩
theorem imR_look (v : Int) : ∀ L : List Bd, lookR .i64 v (L.map imR) = (findB L v).map Tm.cw
  | [] => rfl
  | b :: L => by
    rw [List.map_cons]
    unfold imR
    rw [lookR_row, findB]
    by_cases h : b.v = v
    · rw [if_pos h, if_pos h]; rfl
    · rw [if_neg h, if_neg h]; exact imR_look v L

-- 
theorem imgQ_abs (b g : Nat) (L : List Bd) (v : Int) (h1 : 0 ≤ v) (h2 : v ≤ 9223372036854775807) : AFunQ Tryz.prog (MapQ b g (L.map imR)) 128 [.i v, .sc (.pointer (some ⟨b, 0, none⟩))] (.val (imgB L v).cw) := by
  refine afunQ_of (rs := [(imgB L v).cw]) Tryz.func128 Tryz.ntmps128 rfl rfl rfl rfl ?_
  intro w U hW hq
  have hQ := mapQ_up b g (L.map imR)
  have hlk := imR_look v L
  refine aS (aR ?_)
  (refine nx (a_alloc (gN rfl) rfl rfl rfl rfl rfl rfl rfl rfl rfl rfl) rfl ?_)
  show AWp _ _ _ _ _ _ _
  unfold imgB
  cases hf : findB L v with
  | none =>
    rw [hf] at hlk
    refine aS (aS (aR ?_))
    (refine nx (a_loadQ hW hq (gN rfl) rfl rfl rfl rfl rfl rfl rfl rfl) rfl ?_)
    (refine nx (aM (gN rfl) rfl rfl rfl rfl rfl) rfl ?_)
    (refine nx (a_lookupQ hW hq (gN rfl) rfl rfl rfl rfl rfl rfl rfl rfl rfl rfl (imR_keys _) (hlk)) rfl ?_)
    (refine nx (aM (gN rfl) rfl rfl rfl rfl rfl) rfl ?_)
    (refine nx (aX (gN rfl) rfl rfl rfl rfl rfl rfl) rfl ?_)
    (refine nx (aX (gN rfl) rfl rfl rfl rfl rfl rfl) rfl ?_)
    (refine nx (a_alloc (gN rfl) rfl rfl rfl rfl rfl rfl rfl rfl rfl rfl) rfl ?_)
    (refine nx (aSt (gN rfl) rfl rfl rfl rfl rfl rfl rfl rfl rfl rfl) rfl ?_)
    (refine nx (aA (gN rfl) rfl rfl rfl rfl rfl) rfl ?_)
    show AWp _ _ _ _ _ _ _
    refine aS (aR ?_)
    (refine nx (aM (gN rfl) rfl rfl rfl rfl rfl) rfl ?_)
    show AWp _ _ _ _ _ _ _
    refine aC rfl (fun hc => ?_) (fun hc => ?_)
    · cases hc
    · refine aK ?_
      show AWp _ _ _ _ _ _ _
      refine aS (aR ?_)
      (refine nx (aM (gN rfl) rfl rfl rfl rfl rfl) rfl ?_)
      (refine nx (a_call (gN rfl) rfl rfl rfl rfl rfl (sVariable_abs w v h1 h2)) rfl ?_)
      (refine nx (aSt (gN rfl) rfl rfl rfl rfl rfl rfl rfl rfl rfl rfl) rfl ?_)
      show AWp _ _ _ _ _ _ _
      exact aT (And.intro (.inr rfl) rfl)
  | some t =>
    rw [hf] at hlk
    refine aS (aS (aR ?_))
    (refine nx (a_loadQ hW hq (gN rfl) rfl rfl rfl rfl rfl rfl rfl rfl) rfl ?_)
    (refine nx (aM (gN rfl) rfl rfl rfl rfl rfl) rfl ?_)
    (refine nx (a_lookupQ hW hq (gN rfl) rfl rfl rfl rfl rfl rfl rfl rfl rfl rfl (imR_keys _) (hlk)) rfl ?_)
    (refine nx (aM (gN rfl) rfl rfl rfl rfl rfl) rfl ?_)
    (refine nx (aX (gN rfl) rfl rfl rfl rfl rfl rfl) rfl ?_)
    (refine nx (aX (gN rfl) rfl rfl rfl rfl rfl rfl) rfl ?_)
    (refine nx (a_alloc (gN rfl) rfl rfl rfl rfl rfl rfl rfl rfl rfl rfl) rfl ?_)
    (refine nx (aSt (gN rfl) rfl rfl rfl rfl rfl rfl rfl rfl rfl rfl) rfl ?_)
    (refine nx (aA (gN rfl) rfl rfl rfl rfl rfl) rfl ?_)
    show AWp _ _ _ _ _ _ _
    refine aS (aR ?_)
    (refine nx (aM (gN rfl) rfl rfl rfl rfl rfl) rfl ?_)
    show AWp _ _ _ _ _ _ _
    refine aC rfl (fun hc => ?_) (fun hc => ?_)
    · refine aS (aR ?_)
      (refine nx (aL (gN rfl) rfl rfl rfl rfl rfl rfl rfl rfl rfl rfl rfl rfl) rfl ?_)
      (refine nx (aSt (gN rfl) rfl rfl rfl rfl rfl rfl rfl rfl rfl rfl) rfl ?_)
      show AWp _ _ _ _ _ _ _
      exact aT (And.intro (.inr rfl) rfl)
    · cases hc

-- 
theorem replaceQ_abs {q : (Nat → Nat → Prop) → World → Prop} (hQ : QUp q) (fc : CV) (img : Int → Tm) (hI : ∀ v, 0 ≤ v → v ≤ 9223372036854775807 → AFunVQ Tryz.prog q fc [.i v] (.val (img v).cw) ∧ (img v).rng ∧ (img v).size ≤ 90000000000) : ∀ t : Tm, t.rng → t.ok → AFunQ Tryz.prog q 71 [t.cw, fc] (.val (repT img t).cw) := by
  intro t
  induction t using Tm.ind with
  | h f l ih =>
  intro hr hok
  have hok := (Tm.ok_iff _).1 hok
  have hr := (Tm.rng_iff _).1 hr
  simp only at hok hr
  have hsz := Tm.size_all l
  refine afunQ_of (rs := [(repT img ⟨f, l⟩).cw]) Tryz.func71 Tryz.ntmps71 rfl rfl rfl rfl ?_
  intro w U hW hq
  refine aS (aR ?_)
  (refine nx (a_box (gN rfl) rfl rfl rfl rfl rfl) rfl ?_)
  (refine nx (a_alloc (gN rfl) rfl rfl rfl rfl rfl rfl rfl rfl rfl rfl) rfl ?_)
  show AWp _ _ _ _ _ _ _
  refine aS (aS (aR ?_))
  (refine nx (aL (gN rfl) rfl rfl rfl rfl rfl rfl rfl rfl rfl rfl rfl rfl) rfl ?_)
  (refine nx (a_call (gN rfl) rfl rfl rfl rfl rfl (sIsVar_abs w ⟨f, l⟩)) rfl ?_)
  show AWp _ _ _ _ _ _ _
  refine aC rfl (fun hc => ?_) (fun hc => ?_)
  · have hf : f < 0 := by simpa using hc
    rw [repT_var hf]
    obtain ⟨i1, i2, i3⟩ := hI (-1 - f) (by omega) (by omega)
    refine aS (aR ?_)
    (refine nx (aM (gN rfl) rfl rfl rfl rfl rfl) rfl ?_)
    (refine nx (aL (gN rfl) rfl rfl rfl rfl rfl rfl rfl rfl rfl rfl rfl rfl) rfl ?_)
    (refine nx (a_call (gN rfl) rfl rfl rfl rfl rfl (sNumber_abs w ⟨f, l⟩ hr.1.1 hf)) rfl ?_)
    (refine nx (a_callvQ hQ hW hq (gN rfl) rfl rfl rfl rfl rfl rfl (i1)) rfl ?_)
    (refine nx (a_call (gN rfl) rfl rfl rfl rfl rfl (clone_abs w i2 i3)) rfl ?_)
    (refine nx (aSt (gN rfl) rfl rfl rfl rfl rfl rfl rfl rfl rfl rfl) rfl ?_)
    show AWp _ _ _ _ _ _ _
    exact aT (And.intro (.inr rfl) rfl)
  · have hf : ¬ f < 0 := by simpa using hc
    rw [repT_sym hf]
    refine aK ?_
    show AWp _ _ _ _ _ _ _
    refine aS (aR ?_)
    (refine nx (aA (gN rfl) rfl rfl rfl rfl rfl) rfl ?_)
    show AWp _ _ _ _ _ _ _
    refine aS (aS (aR ?_))
    (refine nx (aF (gN rfl) rfl rfl rfl rfl rfl rfl rfl rfl rfl) rfl ?_)
    (refine nx (aLb (gN rfl) rfl rfl rfl rfl rfl rfl rfl rfl rfl rfl rfl rfl) rfl ?_)
    (refine nx (a_len (gN rfl) rfl rfl rfl rfl rfl rfl rfl) rfl ?_)
    (refine nx (aM (gN rfl) rfl rfl rfl rfl rfl) rfl ?_)
    show AWp _ _ _ _ _ _ _
    refine aB (awp_count l.length (fun k => [(1, .val fc), (2, .bp 2 0 []), (100002, .bx (Tm.cw ⟨f, l⟩)), (4, .bp 4 0 []), (100004, ⟨5, .row [.i 0, .lst []], 1, 0, [1]⟩), (5, .own (.lst ((l.take k).map fun t => (repT img t).cv)) 200027), (200027, .tok 41 2), (16, .val (.lst (l.map Tm.cv))), (17, .val (.i (l.map Tm.cv).length)), (18, .val (.i k))])
      ((wk_nil 5 200027 41 2 rfl rfl rfl rfl rfl rfl rfl).trans (wk_sub ⟨rfl, rfl, rfl, rfl, rfl, rfl, rfl, rfl, rfl, rfl, trivial⟩)) ?_)
    intro k hk
    refine aS (aR ?_)
    (refine nx (a_lss (gN rfl) rfl rfl rfl rfl rfl rfl) rfl ?_)
    show AWp _ _ _ _ _ _ _
    refine aS (aC rfl (fun hc => ?_) (fun hc => ?_))
    · have hkl : k < l.length := by
        simp only [List.length_map, decide_eq_true_eq] at hc
        omega
      obtain ⟨t, ht⟩ : ∃ t, l[k]? = some t := ⟨l[k], List.getElem?_eq_getElem hkl⟩
      have ht' := Tm.map_at ht
      have htm := List.mem_of_getElem? ht
      have hsz2 : ∀ c ∈ (l.take k).map fun t => (repT img t).cv, c.size = 2 := by
        intro c hc
        obtain ⟨t, _, rfl⟩ := List.mem_map.1 hc
        exact Tm.size_cv _
      refine aK ?_
      show AWp _ _ _ _ _ _ _
      refine aS (aB (aS (aR ?_)))
      (refine nx (a_index (gN rfl) rfl rfl rfl rfl rfl rfl rfl rfl rfl (by assumption) rfl (by first | assumption | exact sZ rfl | exact Tm.size_all _ | exact Bd.size_all _ | exact ints_size _ | exact bys_size _ | exact Lt.size_all _)) rfl ?_)
      (refine nx (a_load_ad (gN rfl) rfl rfl rfl rfl rfl rfl rfl rfl rfl) rfl ?_)
      (refine nx (a_alloc (gN rfl) rfl rfl rfl rfl rfl rfl rfl rfl rfl rfl) rfl ?_)
      (refine nx (aSt (gN rfl) rfl rfl rfl rfl rfl rfl rfl rfl rfl rfl) rfl ?_)
      show AWp _ _ _ _ _ _ _
      refine aR ?_
      (refine nx (aM (gN rfl) rfl rfl rfl rfl rfl) rfl ?_)
      (refine nx (aL (gN rfl) rfl rfl rfl rfl rfl rfl rfl rfl rfl rfl rfl rfl) rfl ?_)
      (refine nx (aM (gN rfl) rfl rfl rfl rfl rfl) rfl ?_)
      (refine nx (a_callQ hQ hW hq (gN rfl) rfl rfl rfl rfl rfl (ih t htm (hr.2 t htm) (hok.2 t htm))) rfl ?_)
      (refine nx (a_bslice (gN rfl) rfl rfl rfl rfl rfl rfl rfl rfl rfl rfl rfl rfl rfl) rfl ?_)
      (refine nx (a_app (gN rfl) rfl rfl rfl rfl rfl rfl rfl rfl rfl rfl rfl rfl rfl rfl rfl (by first | assumption | exact sZ rfl | exact Tm.size_all _ | exact Bd.size_all _ | exact ints_size _ | exact bys_size _ | exact Lt.size_all _) (by first | assumption | exact sZ rfl | exact Tm.size_all _ | exact Bd.size_all _ | exact ints_size _ | exact bys_size _ | exact Lt.size_all _) (by first | omega | (simp only [List.length_map, List.length_append, List.length_cons, List.length_nil] <;> omega) | (simp <;> omega))) rfl ?_)
      (refine nx (aA (gN rfl) rfl rfl rfl rfl rfl) rfl ?_)
      show AWp _ _ _ _ _ _ _
      refine aR ?_
      (refine nx (a_add (gN rfl) rfl rfl rfl rfl rfl rfl (by first | omega | (simp only [List.length_map, List.length_append, List.length_cons, List.length_nil] <;> omega) | (simp <;> omega))) rfl ?_)
      (refine nx (aM (gN rfl) rfl rfl rfl rfl rfl) rfl ?_)
      refine ⟨hkl, Wk.trans (wk_sub (s' := [(1, .val fc), (2, .bp 2 0 []), (100002, .bx (Tm.cw ⟨f, l⟩)), (4, .bp 4 0 []), (100004, ⟨5, .row [.i 0, .lst []], 1, 0, [1]⟩), (5, .own (.lst ((l.take (k + 1)).map fun t => (repT img t).cv)) 300027), (300027, .tok 41 2), (16, .val (.lst (l.map Tm.cv))), (17, .val (.i (l.map Tm.cv).length)), (18, .val (.i ((k + 1 : Nat) : Int)))]) ⟨rfl, rfl, rfl, rfl, rfl, ?_, rfl, rfl, rfl, rfl, trivial⟩) (wk_ren 300027 200027 rfl rfl rfl rfl)⟩
      rw [List.take_add_one, ht, List.map_append]
      simp only [Option.toList_some, List.map_cons, List.map_nil, Tm.cv_eq]
      rfl
    · have hkl : k = l.length := by
        simp only [List.length_map, decide_eq_false_iff_not] at hc
        omega
      subst hkl
      rw [List.take_length]
      refine aE ?_
      show AWp _ _ _ _ _ _ _
      refine aS (aR ?_)
      (refine nx (aF (gN rfl) rfl rfl rfl rfl rfl rfl rfl rfl rfl) rfl ?_)
      (refine nx (aLb (gN rfl) rfl rfl rfl rfl rfl rfl rfl rfl rfl rfl rfl rfl) rfl ?_)
      (refine nx (aM (gN rfl) rfl rfl rfl rfl rfl) rfl ?_)
      (refine nx (a_build (gN rfl) rfl rfl rfl rfl rfl rfl rfl rfl rfl rfl rfl) rfl ?_)
      (refine nx (aSt (gN rfl) rfl rfl rfl rfl rfl rfl rfl rfl rfl rfl) rfl ?_)
      show AWp _ _ _ _ _ _ _
      refine aT (And.intro (.inr rfl) ?_)
      unfold Tm.cw
      rw [List.map_map]
      rfl
end Go.Proofs.YteegmcfobgpemaaGreat
namespace Go.Proofs.YteegmcfobgpemaaGreat
open Go.RowKit Go.MapKept Go.Shelf
set_option linter.unusedVariables false
set_option linter.unusedSimpArgs false
attribute [local go_sem] Oper.semAt_some

set_option maxRecDepth 100000 in
set_option maxHeartbeats 2000000 in
theorem backB_in (l Bb ob n : Nat) (c0 c1 c2 : Nat → Value) (R : Nat → Nat → Prop) (w : World) (ao : Option Addr) (cap : Nat) (hbox : w.cell? ⟨Bb, ob, none⟩ = some (.slice ao n cap)) (hRb : R Bb ob) (hat : ∀ i, i < n → ∃ b off, ao = some ⟨b, off, none⟩ ∧ (R b (off + i * 3) ∧ w.cell? ⟨b, off + i * 3, none⟩ = some (c0 i)) ∧ (R b (off + i * 3 + 1) ∧ w.cell? ⟨b, off + i * 3 + 1, none⟩ = some (c1 i)) ∧ (R b (off + i * 3 + 2) ∧ w.cell? ⟨b, off + i * 3 + 2, none⟩ = some (c2 i))) (hl : n ≤ 1000000000)
    (J : List Nat → World → Prop) (hJ : ∀ pre A B, J pre A → Below A.heap.size A B → J pre B)
    (hY : ∀ pre (x : Nat) V, J pre V → x = pre.length ∧ x < n → YieldAt Fence.wide 1 Tryz.prog l #[.int .i64 ((n : Int) - 1 - x), .agg #[c0 (n - 1 - x), c1 (n - 1 - x), c2 (n - 1 - x)]] V fun e V' => e = .returned (.bool true) ∧ J (pre ++ [x]) V' ∧ KpX w.heap.size (fun b => ¬ ∃ o, R b o) V V')
    (W : World) (hW : Below w.heap.size w W) (h0 : J [] W) :
    CallsIn Fence.wide 2 Tryz.prog 162 #[.func (.yield l) #[] #[], .pointer (some ⟨Bb, ob, none⟩)] W fun e W' => (∃ v, e = .returned v) ∧ ∃ ys, ys = List.range n ∧ J ys W' := by
  have hcs : ∀ {V : World}, KpX w.heap.size (fun b => ¬ ∃ o, R b o) w V → V.cell? ⟨Bb, ob, none⟩ = some (.slice ao n cap) ∧ ∀ i, i < n → ∃ b off, ao = some ⟨b, off, none⟩ ∧ V.cell? ⟨b, off + i * 3, none⟩ = some (c0 i) ∧ V.cell? ⟨b, off + i * 3 + 1, none⟩ = some (c1 i) ∧ V.cell? ⟨b, off + i * 3 + 2, none⟩ = some (c2 i) := fun {V} hV => by
    have hkeep : ∀ b o u, R b o → w.cell? ⟨b, o, none⟩ = some u → V.cell? ⟨b, o, none⟩ = some u := fun b o u hr hc => by
      have hb : b < w.heap.size := World.block_lt_of_cell? w _ hc
      rw [World.cell?_of_block (w := w) (hV b hb (fun hn => hn ⟨o, hr⟩))]
      exact hc
    refine ⟨hkeep _ _ _ hRb hbox, fun i hi => ?_⟩
    obtain ⟨b, off, h1, ⟨g1, g2⟩, ⟨g3, g4⟩, g5, g6⟩ := hat i hi
    exact ⟨b, off, h1, hkeep _ _ _ g1 g2, hkeep _ _ _ g3 g4, hkeep _ _ _ g5 g6⟩
  have hW0 : KpX w.heap.size (fun b => ¬ ∃ o, R b o) w W := fun b hb _ => hW.block b hb
  have HC : Hid (∀ {V : World}, KpX w.heap.size (fun b => ¬ ∃ o, R b o) w V → V.cell? ⟨Bb, ob, none⟩ = some (.slice ao n cap) ∧ ∀ i, i < n → ∃ b off, ao = some ⟨b, off, none⟩ ∧ V.cell? ⟨b, off + i * 3, none⟩ = some (c0 i) ∧ V.cell? ⟨b, off + i * 3 + 1, none⟩ = some (c1 i) ∧ V.cell? ⟨b, off + i * 3 + 2, none⟩ = some (c2 i)) := fun {V} h => hcs h
  clear hcs hbox hat hRb
  obtain ⟨hb0, _⟩ := HC.out hW0
  refine callsIn_of_wp Tryz.func162 rfl trivial ?_ rfl
  simp only [Tryz.ntmps162, List.size_toArray, List.length_cons, List.length_nil, Nat.reduceAdd, Nat.reduceSub, Array.replicate_succ, Array.replicate_zero, List.push_toArray, List.append_toArray, List.nil_append, List.cons_append]
  gi_wp2
  gi_loopw [3] (fun iv wr => ∃ (z : Int) (k : Nat), iv = .int .i64 z ∧ z = (n : Int) - 1 - k ∧ k ≤ n ∧ J (List.range k) wr ∧ KpX w.heap.size (fun b => ¬ ∃ o, R b o) w wr) (fun iv wr => (intOf iv + 1).toNat)
  case atStart => exact ⟨_, 0, rfl, by omega, by omega, by simpa using h0, hW0⟩
  case round =>
    obtain ⟨z, k, rfl, hz, hk, hJr, hKr⟩ := hrel
    clear hb0 h0 hW0
    obtain ⟨hb1, hc1⟩ := HC.out hKr
    by_cases hkn : k = n
    · have hz1 : z = -1 := by omega
      subst hz1
      gi_wp2
      go_end0
      refine ⟨⟨_, rfl⟩, _, rfl, ?_⟩
      rw [hkn] at hJr
      exact hJr
    · obtain ⟨j, hj⟩ : ∃ j : Nat, j = n - 1 - k := ⟨_, rfl⟩
      have hzj : z = (j : Int) := by omega
      have hjn : j < n := by omega
      subst hzj
      obtain ⟨b, off, rfl, hc2, hc3, hc4⟩ := hc1 j hjn
      obtain ⟨fn, tmps, assign, body, hy, hR⟩ := hY (List.range k) k _ hJr ⟨by simp, by omega⟩
      rw [show (n : Int) - 1 - k = (j : Int) by omega, show n - 1 - k = j from hj.symm] at hy
      obtain ⟨v0, hv0⟩ : ∃ v, v = c0 j := ⟨_, rfl⟩
      obtain ⟨v1, hv1⟩ : ∃ v, v = c1 j := ⟨_, rfl⟩
      obtain ⟨v2, hv2⟩ : ∃ v, v = c2 j := ⟨_, rfl⟩
      rw [← hv0] at hc2 hy
      rw [← hv1] at hc3 hy
      rw [← hv2] at hc4 hy
      clear hc1 hv0 hv1 hv2
      have hy : Sem.run Tryz.prog (Instr.yield l #[.int .i64 (j : Int), .agg #[v0, v1, v2]]) wr = .ok (.round l fn tmps assign body) wr := hy
      have HJ : Hid (j = n - 1 - k ∧ k < n) := ⟨hj, by omega⟩
      clear hj hz hkn hk
      gi_wp2
      refine hR.mono ?_
      rintro e V3 ⟨rfl, hJ3, hk3⟩
      gi_wp2
      go_roundw
      case rel => exact ⟨_, k + 1, rfl, by have := HJ.out; omega, by have := HJ.out; omega, by rw [List.range_succ]; exact hJ3, fun b' hb' hx' => (hk3 b' hb' hx').trans (hKr b' hb' hx')⟩
      case measure => simp [intOf]

theorem sq3 {R : Nat → Nat → Prop} {w : World} : ∀ {L : List Bd} {ys : List Value}, Sq ((L.map Bd.cv).map fun c => Rep R w c) ys → ys.length = 3 * L.length ∧ ∀ i b, L[i]? = some b → Rep R w b.cw [ys.getD (i * 3) undef, ys.getD (i * 3 + 1) undef, ys.getD (i * 3 + 2) undef]
  | [], ys, h => by
    have h : ys = [] := h
    subst h
    exact ⟨rfl, fun i b h => by simp at h⟩
  | x :: L, ys, ⟨us, bs, e, h1, h2⟩ => by
    obtain ⟨ih1, ih2⟩ := sq3 (L := L) h2
    have hlen : us.length = 3 := h1.len
    obtain ⟨u0, u1, u2, rfl⟩ : ∃ u0 u1 u2, us = [u0, u1, u2] := by
      match us, hlen with
      | [u0, u1, u2], _ => exact ⟨u0, u1, u2, rfl⟩
    subst e
    refine ⟨by simp; omega, fun i b hi => ?_⟩
    cases i with
    | zero =>
      simp at hi
      subst hi
      exact h1
    | succ i =>
      have := ih2 i b (by simpa using hi)
      have hg : ∀ k, ([u0, u1, u2] ++ bs).getD (k + 3) undef = bs.getD k undef := fun k => by simp [List.getD_eq_getElem?_getD]
      rw [show (i + 1) * 3 = i * 3 + 3 by omega, show i * 3 + 3 + 1 = i * 3 + 1 + 3 by omega, show i * 3 + 3 + 2 = i * 3 + 2 + 3 by omega, hg, hg, hg]
      exact this

theorem backB_gives {R : Nat → Nat → Prop} {w : World} {L : List Bd} {Bb ob : Nat} {ao : Option Addr} {cap : Nat} (hl : L.length ≤ 1000000000) (hbox : w.cell? ⟨Bb, ob, none⟩ = some (.slice ao L.length cap)) (hRb : R Bb ob) (hv : VRep R w (.lst (L.map Bd.cv)) (.slice ao L.length cap)) :
    ∃ c0 c1 c2 : Nat → Value, (∀ i b, L[i]? = some b → VRep R w b.cw (.agg #[c0 i, c1 i, c2 i])) ∧
      Gives Tryz.prog 162 #[.pointer (some ⟨Bb, ob, none⟩)] (fun x : Nat => #[.int .i64 ((L.length : Int) - 1 - x), .agg #[c0 (L.length - 1 - x), c1 (L.length - 1 - x), c2 (L.length - 1 - x)]]) (fun pre x _ => x = pre.length ∧ x < L.length) (KpX w.heap.size fun b => ¬ ∃ o, R b o) (fun ys => ys = List.range L.length) w := by
  obtain ⟨a', n', c', e0, e1, e2, e3, e4, ys, e5, e6⟩ := vrep_lst.1 hv
  injection e0 with e0 _ _
  subst e0
  obtain ⟨s1, s2⟩ := sq3 e6
  refine ⟨fun i => ys.getD (i * 3) undef, fun i => ys.getD (i * 3 + 1) undef, fun i => ys.getD (i * 3 + 2) undef, fun i b hb => ⟨_, rfl, s2 i b hb⟩, ?_⟩
  intro l J W hW hJ hY h0
  refine backB_in l Bb ob L.length (fun i => ys.getD (i * 3) undef) (fun i => ys.getD (i * 3 + 1) undef) (fun i => ys.getD (i * 3 + 2) undef) R w ao cap hbox hRb (fun i hi => ?_) hl J hJ hY W hW h0
  rcases e5 with h1 | ⟨b, off, h1, h2⟩
  · rw [h1] at s1; simp at s1; omega
  · have hk : ∀ k, k < ys.length → R b (off + k) ∧ w.cell? ⟨b, off + k, none⟩ = some (ys.getD k undef) := fun k hk => by
      obtain ⟨g1, g2⟩ := h2 k hk
      exact ⟨g1, by rw [g2, List.getD_eq_getElem?_getD, List.getElem?_eq_getElem hk]; rfl⟩
    exact ⟨b, off, h1, hk (i * 3) (by omega), hk (i * 3 + 1) (by omega), hk (i * 3 + 2) (by omega)⟩

def putBm (b : Bd) : List Bd → List Bd
  | [] => [b]
  | x :: M => if x.v = b.v then b :: M else x :: putBm b M
theorem putB_row (b : Bd) : ∀ M : List Bd, putR .i64 b.v b.t.cw (M.map imR) = (putBm b M).map imR
  | [] => rfl
  | x :: M => by
    rw [List.map_cons, putBm]
    have h1 := putR_row (k := .i64) (i := b.v) (j := x.v) (c := b.t.cw) (c' := x.t.cw) (l := M.map imR)
    by_cases h : x.v = b.v
    · rw [if_pos h] at h1 ⊢; exact h1
    · rw [if_neg h] at h1 ⊢
      rw [putB_row b M] at h1
      exact h1
theorem putB_find (b : Bd) (v : Int) : ∀ M : List Bd, findB (putBm b M) v = if b.v = v then some b.t else findB M v
  | [] => rfl
  | x :: M => by
    rw [putBm]
    by_cases h : x.v = b.v
    · rw [if_pos h, findB, findB]
      by_cases h2 : b.v = v
      · rw [if_pos h2, if_pos h2]
      · rw [if_neg h2, if_neg h2, if_neg (by omega)]
    · rw [if_neg h, findB, findB, putB_find b v M]
      by_cases h2 : b.v = v
      · rw [if_pos h2, if_pos h2, if_neg (by omega)]
      · rw [if_neg h2, if_neg h2]
def mapB (L : List Bd) (k : Nat) : List Bd := (L.reverse.take k).foldl (fun M b => putBm b M) []
theorem mapB_succ {L : List Bd} {k : Nat} {b : Bd} (h : L[L.length - 1 - k]? = some b) (hk : k < L.length) : mapB L (k + 1) = putBm b (mapB L k) := by
  unfold mapB
  rw [List.take_add_one, List.getElem?_reverse hk, h, List.foldl_append]
  rfl
theorem mapB_find : ∀ (L : List Bd) (v : Int), findB (mapB L L.length) v = findB L v := by
  intro L v
  have : ∀ L : List Bd, findB (L.reverse.foldl (fun M b => putBm b M) []) v = findB L v := by
    intro L
    induction L with
    | nil => rfl
    | cons b L ih =>
      rw [List.reverse_cons, List.foldl_append]
      show findB (putBm b _) v = _
      rw [putB_find, ih, findB]
  unfold mapB
  rw [← List.length_reverse, List.take_length]
  exact this L
attribute [local go_sem] Oper.semAt_some

theorem map_put {P : Program} {w : World} {U : Nat → Nat → Prop} {t kt et : TypeId} {k : IntKind} {i : Int} {l : List CV} {g clock : Nat} {es : Array MapEntry} {val : Value} {c : CV} (hu : P.underlying t = some (.map kt et)) (huk : P.underlying kt = some (.int k)) (g2 : w.heap[g]? = some (.map es clock)) (g3 : Ents U w l es.toList) (hik : IntKeys k l) (e3 : VRep U w c val) :
    ∃ es' clock', (Instr.mapUpdate t (.map (some g)) (.int k i) val).run P w = .ok () { w with heap := w.heap.setIfInBounds g (.map es' clock') } ∧ Ents U w (putR k i c l) es'.toList := by
  have hck := run_checkKey (P := P) (w := w) huk (k := .int k i) rfl false 9999
  have hge := Go.MapKept.run_getObj_map (P := P) g2
  obtain ⟨p1, p2'⟩ := putR_spec (i := i) c hik
  rcases find_spec 0 g3 hik (i := i) with ⟨f1, f2⟩ | ⟨j, e, c', f1, f2, f3, f4, f5, f6⟩
  · have hfk := run_findKey (P := P) (w := w) huk f1
    refine ⟨es.push { key := .int k i, val := val, born := clock }, clock + 1, ?_, ?_⟩
    · have hso := run_setObj_map (P := P) (Obj.map (es.push { key := .int k i, val := val, born := clock }) (clock + 1)) g2
      simp [Instr.mapUpdate, run_underlying hu, hge, hck, hfk, hso]
    · rw [p1 f2, Array.toList_push]
      exact ents_snoc g3 ⟨.sc (.int k i), c, rfl, rfl, rfl, e3⟩
  · have hfk := run_findKey (P := P) (w := w) huk f1
    rw [Nat.zero_add] at hfk
    have hjl : j < es.size := by
      have := (List.getElem?_eq_some_iff.1 f2).1
      simpa using this
    have hej : es[j]? = some e := by rw [← Array.getElem?_toList]; exact f2
    have hmod : (es.modify j fun e => { e with key := .int k i, val := val }).toList = es.toList.set j { e with key := .int k i, val := val } := by
      rw [Array.toList_modify]
      apply List.ext_getElem?
      intro q
      rw [List.getElem?_modify, List.getElem?_set]
      by_cases hq : j = q
      · subst hq
        have : es[j] = e := (Array.getElem?_eq_some_iff.1 hej).2
        simp [hjl, this]
      · simp [hq]
    refine ⟨es.modify j fun e => { e with key := .int k i, val := val }, clock, ?_, ?_⟩
    · have hso := run_setObj_map (P := P) (Obj.map (es.modify j fun e => { e with key := .int k i, val := val }) clock) g2
      have hst : (Instr.keyThatStays (.int k i) (.int k i)).run P w = .ok (.int k i) w := by simp [Instr.keyThatStays, Instr.sameBits]
      simp [Instr.mapUpdate, run_underlying hu, hge, hck, hfk, hso, hej, f5, hst]
    · rw [hmod, p2' j c' f3 (find_first 0 (j := j) g3 hik f1)]
      exact ents_set g3 ⟨.sc (.int k i), c, rfl, rfl, rfl, e3⟩

theorem wpListIn_mapRun {F : Fence} {nF : Nat} {P : Program} (w : World) {ops : Array Oper} {rest : List Oper} {o : Oper} {a : Act} {Q : Exit → Act → World → Prop}
    (hg : o.guard = none) (m x v : Operand) (t : TypeId) (hop : o.op = Op.mapUpdate t m x v) {mv key val : Value} (hm : a.eval m = mv) (hx : a.eval x = key) (hv : a.eval v = val) {w' : World} (hrun : (Instr.mapUpdate t mv key val).run P w = .ok () w')
    (hK : wpListIn F nF P ops Q rest (a.put o.dst undef) w') : wpListIn F nF P ops Q (o :: rest) a w := by
  refine wpListIn_plain hg fun K' hK' => ?_
  unfold Oper.wpIn
  refine ⟨by simp [Oper.about, hop], ?_⟩
  rw [Oper.semAt_plain F _ _ (by rw [hop]; intro c hc'; cases hc')]
  simp [execOp, hop, hm, hx, hv, hrun, Result.andThen]
  exact hK' _ _ hK

theorem backB_call (ao : Option Addr) (n c : Nat) (w : World) :
    CallsIn Fence.wide 2 Tryz.prog 127 #[.slice ao n c] w fun e w' => e = .returned (.func (.func 162) #[] #[.pointer (some ⟨w.heap.size, 0, none⟩)]) ∧ w' = w.alloc (.cells #[.slice ao n c] 99) := by
  refine callsIn_of_wp Tryz.func127 rfl trivial ?_ rfl
  simp only [Tryz.ntmps127, List.size_toArray, List.length_cons, List.length_nil, Nat.reduceAdd, Nat.reduceSub, Array.replicate_succ, Array.replicate_zero, List.push_toArray, List.append_toArray, List.nil_append, List.cons_append]
  gi_wp2
  go_ret
  exact ⟨rfl, rfl⟩

theorem vrep_bd {R : Nat → Nat → Prop} {w : World} {b : Bd} {u0 u1 u2 : Value} (h : VRep R w b.cw (.agg #[u0, u1, u2])) : u0 = .int .i64 b.v ∧ VRep R w b.t.cw (.agg #[u1, u2]) := by
  obtain ⟨xs, e, h1⟩ := vrep_row.1 h
  have hxs : xs = [u0, u1, u2] := by
    injection e with e
    have := congrArg Array.toList e
    simpa using this.symm
  subst hxs
  obtain ⟨us, bs, e1, k1, us', bs', e2, k3, k4⟩ := h1
  have hus : us = [.int .i64 b.v] := (rep_sc.1 k1).1
  have hbs : bs' = [] := k4
  subst hus; subst hbs; subst e2
  simp at e1
  obtain ⟨e3, e4⟩ := e1
  subst e4
  exact ⟨e3, _, rfl, k3⟩
theorem vrep_tm2 {R : Nat → Nat → Prop} {w : World} {t : Tm} {u1 u2 : Value} (h : VRep R w t.cw (.agg #[u1, u2])) : u1 = .int .i64 t.f ∧ ∃ a m c, u2 = .slice a m c := by
  obtain ⟨xs, e, h1⟩ := vrep_row.1 h
  have hxs : xs = [u1, u2] := by
    injection e with e
    have := congrArg Array.toList e
    simpa using this.symm
  subst hxs
  obtain ⟨us, bs, e1, k1, us', bs', e2, k3, k4⟩ := h1
  have hus : us = [.int .i64 t.f] := (rep_sc.1 k1).1
  have hbs : bs' = [] := k4
  subst hus; subst hbs; subst e2
  simp at e1
  obtain ⟨e3, e4⟩ := e1
  subst e4
  obtain ⟨a, m, c, e5, _⟩ := rep_lst.1 k3
  simp at e5
  exact ⟨e3, a, m, c, e5⟩
theorem gives_congr {α : Type} {P : Program} {gf : Nat} {lb : Array Value} {encs encs' : α → Array Value} {Ok : List α → α → World → Prop} {Kp : World → World → Prop} {S : List α → Prop} {w : World} (he : ∀ pre x V, Ok pre x V → encs x = encs' x) (h : Gives P gf lb encs Ok Kp S w) : Gives P gf lb encs' Ok Kp S w :=
  fun l J W hW hJ hY h0 => h l J W hW hJ (fun pre x V hj hok => by rw [he pre x V hok]; exact hY pre x V hj hok) h0
theorem backB_plain {R : Nat → Nat → Prop} {w : World} {L : List Bd} {Bb ob n : Nat} {ao : Option Addr} {cap : Nat} (hn : n = L.length) (hl : L.length ≤ 1000000000) (hbox : w.cell? ⟨Bb, ob, none⟩ = some (.slice ao n cap)) (hRb : R Bb ob) (hv : VRep R w (.lst (L.map Bd.cv)) (.slice ao L.length cap)) :
    ∃ (v f : Nat → Int) (a : Nat → Option Addr) (m c : Nat → Nat), (∀ x b, x < n → L[n - 1 - x]? = some b → VRep R w b.cw (.agg #[.int .i64 (v x), .int .i64 (f x), .slice (a x) (m x) (c x)])) ∧
      Gives Tryz.prog 162 #[.pointer (some ⟨Bb, ob, none⟩)] (fun x : Nat => #[.int .i64 ((n : Int) - 1 - x), .agg #[.int .i64 (v x), .int .i64 (f x), .slice (a x) (m x) (c x)]]) (fun pre x _ => x = pre.length ∧ x < n) (KpX w.heap.size fun b => ¬ ∃ o, R b o) (fun ys => ys = List.range n) w := by
  subst hn
  obtain ⟨c0, c1, c2, hc, hG⟩ := backB_gives hl hbox hRb hv
  have hx : ∀ x : Nat, ∃ (q : Int × Int × Option Addr × Nat × Nat), x < L.length → c0 (L.length - 1 - x) = .int .i64 q.1 ∧ c1 (L.length - 1 - x) = .int .i64 q.2.1 ∧ c2 (L.length - 1 - x) = .slice q.2.2.1 q.2.2.2.1 q.2.2.2.2 := fun x => by
    by_cases h : x < L.length
    · obtain ⟨bd, hbd⟩ : ∃ bd, L[L.length - 1 - x]? = some bd := ⟨L[L.length - 1 - x]'(by omega), List.getElem?_eq_getElem _⟩
      obtain ⟨g0, g1⟩ := vrep_bd (hc _ _ hbd)
      obtain ⟨g2, a, m, c, g3⟩ := vrep_tm2 g1
      exact ⟨⟨bd.v, bd.t.f, a, m, c⟩, fun _ => ⟨g0, g2, g3⟩⟩
    · exact ⟨⟨0, 0, none, 0, 0⟩, fun h2 => absurd h2 h⟩
  obtain ⟨q, hq⟩ : ∃ q : Nat → Int × Int × Option Addr × Nat × Nat, ∀ x : Nat, x < L.length → c0 (L.length - 1 - x) = .int .i64 (q x).1 ∧ c1 (L.length - 1 - x) = .int .i64 (q x).2.1 ∧ c2 (L.length - 1 - x) = .slice (q x).2.2.1 (q x).2.2.2.1 (q x).2.2.2.2 := ⟨fun x => (hx x).choose, fun x => (hx x).choose_spec⟩
  clear hx
  refine ⟨fun x => (q x).1, fun x => (q x).2.1, fun x => (q x).2.2.1, fun x => (q x).2.2.2.1, fun x => (q x).2.2.2.2, fun x b hxl hb => ?_, gives_congr (fun pre x V hok => ?_) hG⟩
  · obtain ⟨g1, g2, g3⟩ := hq x hxl
    have := hc _ _ hb
    rw [g1, g2, g3] at this
    exact this
  · obtain ⟨g1, g2, g3⟩ := hq x hok.2
    rw [g1, g2, g3]
def ImR (w : World) (R : Nat → Nat → Prop) (b o : Nat) : Prop := (R b o ∧ b < w.heap.size) ∨ b = w.heap.size + 1 + 1
def ImI (w wl : World) (R : Nat → Nat → Prop) (L : List Bd) (k : Nat) (W : World) : Prop :=
  W.heap[w.heap.size + 1]? = some (.cells #[.map (some w.heap.size)] 166 (0, 0)) ∧ (∃ es clock, W.heap[w.heap.size]? = some (.map es clock) ∧ Ents (ImR w R) W ((mapB L k).map imR) es.toList) ∧ Below w.heap.size w W ∧ w.heap.size + 3 ≤ W.heap.size ∧ KpX (w.heap.size + 3) (fun b => ¬ ∃ o, ImR w R b o) wl W
theorem imR_lt {w : World} {R : Nat → Nat → Prop} {b o : Nat} (h : ImR w R b o) : b < w.heap.size + 3 ∧ b ≠ w.heap.size := by
  rcases h with h | h
  · have := h.2; omega
  · omega
theorem ImI.up {w wl : World} {R : Nat → Nat → Prop} {L : List Bd} {k : Nat} {W W' : World} (h : ImI w wl R L k W) (hb : ∀ b, b < w.heap.size + 3 → W'.heap[b]? = W.heap[b]?) (hB : Below w.heap.size W W') : ImI w wl R L k W' := by
  obtain ⟨h1, ⟨es, clock, h2, h3⟩, h4, h5, h6⟩ := h
  refine ⟨by rw [hb _ (by omega)]; exact h1, ⟨es, clock, by rw [hb _ (by omega)]; exact h2, h3.keep fun b o u hu hc => ⟨hu, ?_⟩⟩, h4.trans hB, Nat.le_trans h5 hB.size, fun b hb' hx => (hb b hb').trans (h6 b hb' hx)⟩
  rw [World.cell?_of_block (w := W) (hb b (imR_lt hu).1)]
  exact hc
theorem ImI.put {w wl : World} {R : Nat → Nat → Prop} {L : List Bd} {k : Nat} {W : World} (h : ImI w wl R L k W) {bd : Bd} (hbd : L[L.length - 1 - k]? = some bd) (hk : k < L.length) {es : Array MapEntry} {clock : Nat} (hE : Ents (ImR w R) W (putR .i64 bd.v bd.t.cw ((mapB L k).map imR)) es.toList) : ImI w wl R L (k + 1) { W with heap := W.heap.setIfInBounds w.heap.size (.map es clock) } := by
  obtain ⟨h1, ⟨es0, clock0, h2, h3⟩, h4, h5, h6⟩ := h
  obtain ⟨q1, q2⟩ := heap_set (o' := Obj.map es clock) h2
  have hE : Ents (ImR w R) W ((mapB L (k + 1)).map imR) es.toList := by rw [mapB_succ hbd hk, ← putB_row]; exact hE
  refine ⟨by rw [q2 _ (by omega)]; exact h1, ⟨es, clock, q1, hE.keep fun b o u hu hc => ⟨hu, ?_⟩⟩, ⟨h4.os, h4.tape, h4.output, by simpa using h4.size, fun b hb => (q2 b (by omega)).trans (h4.block b hb)⟩, by simpa using h5, fun b hb' hx => ?_⟩
  · rw [World.cell?_of_block (w := W) (q2 b (imR_lt hu).2)]
    exact hc
  · obtain ⟨o, ho⟩ := Classical.not_not.1 hx
    exact (q2 b (imR_lt ho).2).trans (h6 b hb' hx)

set_option maxRecDepth 100000 in
set_option maxHeartbeats 4000000 in
theorem images_in (L : List Bd) {R : Nat → Nat → Prop} {w : World} {ao : Option Addr} {n cap : Nat} (hn : n = L.length) (hv : VRep R w (.lst (L.map Bd.cv)) (.slice ao L.length cap)) (h64 : 64 < n) (hl : n ≤ 1000000000) :
    CallsIn Fence.wide 3 Tryz.prog 93 #[.slice ao n cap] w fun e W' => ∃ b g, e = .returned (.func (.func 128) #[] #[.pointer (some ⟨b, 0, none⟩)]) ∧ MapQ b g ((mapB L L.length).map imR) (fun b o => R b o ∨ w.heap.size ≤ b) W' ∧ Below w.heap.size w W' := by
  have hmm : ∀ w : World, Sem.run Tryz.prog (Instr.makeMap 166 (some (.int .i64 (n : Int)))) w = .ok (.map (some w.heap.size)) (w.alloc (.map #[] 0)) := fun w => by
    simp [Instr.makeMap, run_underlying Tryz.underlying166, asInt, asIntOf, run_newObj_alloc]
  have HL := hid hn
  have HV := hid hv
  clear hn hv
  refine callsIn_of_wp_marks Tryz.func93 rfl trivial ?_ rfl
  simp only [Tryz.ntmps93, List.size_toArray, List.length_cons, List.length_nil, Nat.reduceAdd, Nat.reduceSub, Array.replicate_succ, Array.replicate_zero, List.push_toArray, List.append_toArray, List.nil_append, List.cons_append]
  gi_wp2_with (refine ⟨trivial, ?_⟩; gi_at_call 127; refine (backB_call _ _ _ _).mono ?_; rintro e w' ⟨rfl, rfl⟩)
  obtain ⟨w1, hw1⟩ : ∃ w1, w1 = w.alloc (.map #[] 0) := ⟨_, rfl⟩
  obtain ⟨w2, hw2⟩ : ∃ w2, w2 = w1.alloc (.cells #[.map (some w.heap.size)] 166) := ⟨_, rfl⟩
  obtain ⟨wl, hwl⟩ : ∃ wl, wl = w2.alloc (.cells #[.slice ao n cap] 99) := ⟨_, rfl⟩
  have s1 : w1.heap.size = w.heap.size + 1 := by rw [hw1]; simp
  have s2 : w2.heap.size = w.heap.size + 1 + 1 := by rw [hw2]; simp; omega
  have hsz : wl.heap.size = w.heap.size + 3 := by rw [hwl]; simp; omega
  have k1 : Below w.heap.size w w1 := by rw [hw1]; exact bA (bW _) _
  have k2 : Below w1.heap.size w1 w2 := by rw [hw2]; exact bA (bW _) _
  have k3 : Below w2.heap.size w2 wl := by rw [hwl]; exact bA (bW _) _
  have hb0 : Below w.heap.size w wl := bN (bN k1 k2) k3
  have hbx : wl.cell? ⟨w.heap.size + 1 + 1, 0, none⟩ = some (.slice ao n cap) := by
    have : wl.heap[w.heap.size + 1 + 1]? = some (.cells #[.slice ao n cap] 99 (0, 0)) := by rw [hwl, ← s2]; exact World.alloc_heap_new _ _
    simp [World.cell?, this]
  have hI0 : ImI w wl R L 0 wl := by
    refine ⟨?_, ⟨#[], 0, ?_, rfl⟩, hb0, by omega, fun b hb hx => rfl⟩
    · rw [k3.block _ (by omega), hw2, ← s1]; exact World.alloc_heap_new _ _
    · rw [k3.block _ (by omega), k2.block _ (by omega), hw1]; exact World.alloc_heap_new _ _
  have hv' : VRep (ImR w R) wl (.lst (L.map Bd.cv)) (.slice ao L.length cap) := HV.out.keep fun b o u hu hc => by
    have hlt := World.block_lt_of_cell? w _ hc
    refine ⟨.inl ⟨hu, hlt⟩, ?_⟩
    rw [World.cell?_of_block (w := w) (hb0.block b hlt)]
    exact hc
  obtain ⟨zv, zf, za, zm, zc, hc, hG⟩ := backB_plain (R := ImR w R) (w := wl) (L := L) (Bb := w.heap.size + 1 + 1) (ob := 0) HL.out (by have := HL.out; omega) hbx (.inr rfl) hv'
  rw [← hw1, ← hw2, ← hwl]
  clear hwl hw1 hw2 s1 s2 k1 k2 k3 hv' hbx hmm
  refine wp_collectH (gf := 162) (lb := #[.pointer (some ⟨w.heap.size + 1 + 1, 0, none⟩)]) rfl (enters_of Tryz.func162 (by kernel_rfl) rfl)
    hG (fun {A B C} h1 h2 b hb hx => (h2 b hb hx).trans (h1 b hb hx)) (fun W l o o' hl h ho b hb hx => World.putObj_heap_other (by omega)) (fun pre x W l o o' hl hx h ho => hx) (fun x => rfl)
    (fun pre W => ImI w wl R L pre.length W) (fun pre A B h hb => h.up (fun b hb' => hb.block b (by have := h.2.2.2.1; omega)) ⟨hb.os, hb.tape, hb.output, hb.size, fun b hb' => hb.block b (by have := h.2.2.2.1; omega)⟩) (fun pre A l o o' h hl h1 h2 => h.up (fun b hb' => World.putObj_heap_other (by omega)) (kpt_put o' (by omega) h1 h2).1) hI0
    (fun x b => { tmps := #[.slice ao n cap, undef, .nilFunc, .pointer (some ⟨w.heap.size + 1, 0, none⟩), undef, .pointer (some ⟨b, 0, none⟩), .slice ao n cap, .int .i64 n, .bool (decide ((n : Int) ≤ 64)), undef, undef, .slice ao n cap, .int .i64 n, .map (some w.heap.size), .slice ao n cap, .func (.func 162) #[] #[.pointer (some ⟨w.heap.size + 1 + 1, 0, none⟩)], .int .i64 ((n : Int) - 1 - x), .agg #[.int .i64 (zv x), .int .i64 (zf x), .slice (za x) (zm x) (zc x)], undef, undef, undef, undef, undef, undef], defers := [] })
    (fun x => .cells #[.int .i64 (zv x), .int .i64 (zf x), .slice (za x) (zm x) (zc x)] 112 (0, 0)) (fun V x hV b hb hx => (bA (bW V) _).block b (by omega)) (fun pre x V hx => hx) ?assign ?body ?done
  case assign =>
    intro l x W K hK
    gi_wp2
    exact hK
  case body =>
    rintro l pre x W b hb hbx' hI ⟨hx, hxl⟩
    obtain ⟨bd, hbd⟩ : ∃ bd, L[n - 1 - x]? = some bd := ⟨L[n - 1 - x]'(by have := HL.out; omega), List.getElem?_eq_getElem _⟩
    obtain ⟨g0, g1⟩ := vrep_bd (hc _ _ hxl hbd)
    have hvW : VRep (ImR w R) W bd.t.cw (.agg #[.int .i64 (zf x), .slice (za x) (zm x) (zc x)]) := by
      refine g1.keep fun b o u hu hcc => ⟨hu, ?_⟩
      rw [World.cell?_of_block (w := wl) (hI.2.2.2.2 b (imR_lt hu).1 fun hn => hn ⟨o, hu⟩)]
      exact hcc
    rw [g0] at hbx'
    rw [g0]
    have HI := hid hI
    obtain ⟨i1, ⟨es, clock, i2, i3⟩, i4, i5, i6⟩ := hI
    obtain ⟨es', clock', hrun, hE⟩ := map_put (P := Tryz.prog) (t := 166) (k := .i64) (i := bd.v) Tryz.underlying166 Tryz.underlying3 i2 i3 (imR_keys _) hvW
    have e0 : W.cell? ⟨b, 0, none⟩ = some (.int .i64 bd.v) := by simp [World.cell?, hbx']
    have e1 : W.cell? ⟨b, 1, none⟩ = some (.int .i64 (zf x)) := by simp [World.cell?, hbx']
    have e2 : W.cell? ⟨b, 2, none⟩ = some (.slice (za x) (zm x) (zc x)) := by simp [World.cell?, hbx']
    have em : W.cell? ⟨w.heap.size + 1, 0, none⟩ = some (.map (some w.heap.size)) := by simp [World.cell?, i1]
    have HX : Hid (x = pre.length ∧ x < n) := ⟨hx, hxl⟩
    have HB := hid hbd
    have HE := hid hE
    have H2 := hid i2
    clear hx hxl hbd hE i1 i2 i3 i4 i6 hc hG hI0 g0 g1 hvW hbx'
    gi_wp2_with (gi_at_mapUpdate; refine wpListIn_mapRun _ rfl _ _ _ 166 rfl rfl rfl rfl hrun ?_)
    obtain ⟨hx, hxl⟩ := HX.out
    obtain ⟨q1, q2⟩ := heap_set (o' := Obj.map es' clock') H2.out
    refine ⟨⟨by simp, fun g o hg1 hg2 ho => by rw [q2 g (by omega)]; exact hg2⟩, fun b hb hx => ?_, ?_⟩
    · obtain ⟨o, ho⟩ := Classical.not_not.1 hx
      exact q2 b (imR_lt ho).2
    · rw [List.length_append]
      have hB2 := HB.out
      rw [HL.out, hx] at hB2
      exact ImI.put HI.out hB2 (by have := HL.out; omega) HE.out
  case done =>
    rintro D xs W hD hS hI hK
    gi_wp2
    refine ⟨by simp, .inl ⟨_, _, rfl, run_takeDeferred hK, ?_⟩⟩
    have hI2 := hI.up (W' := W.putObj D (.deferred none)) (fun b hb' => World.putObj_heap_other (by omega)) (kpt_put _ (by omega) hK rfl).1
    rw [hS, List.length_range, HL.out] at hI2
    obtain ⟨j1, ⟨es, clock, j2, j3⟩, j4, _, _⟩ := hI2
    refine ⟨_, results_tmp rfl _ _ _, w.heap.size + 1, w.heap.size, rfl, ⟨by simp [World.cell?, j1], es, clock, j2, j3.keep fun b o u hu hc => ⟨?_, hc⟩⟩, j4⟩
    rcases hu with h | h
    · exact .inl h.1
    · exact .inr (by omega)
theorem step_call2 {P : Program} (w : World) {ops : Array Oper} {o : Oper} {a : Act} {K : Act → World → Prop} {Q : Exit → Act → World → Prop} {E : Prop} (hgd : Region.wanted o (yielded ops a.tmps) = true) (f : Nat) (x y : Operand) (ts : Array TypeId)
    (ho : o.op = .call { callee := .value (.func f), args := #[x, y], argTypes := ts }) (eg : ∀ args w, (callFunc f args).run P w = .ok (.enter f args) w) (v u : Value) (hx : a.eval x = v) (hy : a.eval y = u) {R : Ending → World → Prop} (hc : Calls P f #[v, u] w R) (h : ∀ e w', R e w' → ∃ u, e = .returned u ∧ K (a.put o.dst u) w') :
    if Region.wanted o (yielded ops a.tmps) = true then Oper.wp P o a w K Q else E := by
  rw [if_pos hgd]
  unfold Oper.wp
  have he : (execOp a.eval o).run P w = .ok (.enter f #[v, u]) w := by
    have hf : a.eval (.func f) = .func (.func f) #[] #[] := rfl
    generalize a.eval = ρ at hf hx hy ⊢
    simp [execOp, ho, resolve, invoke, Deferred.ofValue, hf, hx, hy, eg]
  rw [he, Oper.upon_enter]
  refine hc.mono ?_
  rintro e w' hr
  obtain ⟨u, rfl, hk⟩ := h e w' hr
  exact hk

theorem results_apM {tmps : Array Value} {w : World} {g : Nat} {x y : Value} (hp : tmps.getD 4 undef = .pointer (some ⟨g, 0, none⟩)) (hg : w.heap[g]? = some (.cells #[x, y] 41 (0, 0))) :
    (results Tryz.f66 tmps).run Tryz.prog w = .ok (.agg #[x, y]) w := by
  have hp' : tmps[4]?.getD undef = .pointer (some ⟨g, 0, none⟩) := by simpa using hp
  simp [results, hp', asAddr, run_loadVar_row w g _ 41 #[x, y] (0, 0) _ hg Tryz.underlying41 rfl info_tm_size]

set_option maxRecDepth 100000 in
set_option maxHeartbeats 4000000 in
theorem applyM_abs (W : World) (L : List Bd) (t : Tm) (hl : 64 < L.length) (hl2 : L.length ≤ 1000000000) (hb : bdsOk L) (hr : t.rng) (hok : t.ok) : AFun Tryz.prog W 66 [.lst (L.map Bd.cv), t.cw] (.val (repT (imgB L) t).cw) := by
  refine ⟨ent_of Tryz.func66 rfl rfl, .inl rfl, rfl, fun U w vs _ hv => ?_⟩
  obtain ⟨sv, vs1, rfl, hv1, tv, vs2, rfl, hv2, hv3⟩ := hv
  have hv3 : vs2 = [] := hv3
  subst hv3
  obtain ⟨ao, n, cap, e1, e2, _⟩ := vrep_lst.1 hv1
  subst e1
  rw [List.length_map] at e2
  obtain ⟨xs, e3, hx3⟩ := vrep_row.1 hv2
  obtain ⟨u1, u2, rfl⟩ : ∃ u1 u2, xs = [u1, u2] := by
    have h3 : xs.length = 2 := (rep_row.2 hx3).len
    match xs, h3 with
    | [u1, u2], _ => exact ⟨u1, u2, rfl⟩
  subst e3
  obtain ⟨g1, ta, tm, tc, g2⟩ := vrep_tm2 hv2
  subst g1; subst g2
  have hv1' : VRep U w (.lst (L.map Bd.cv)) (.slice ao L.length cap) := by rw [← e2]; exact hv1
  have HImg : Hid (∀ V : World, Below w.heap.size w V → w.heap.size + 2 ≤ V.heap.size → Calls Tryz.prog 93 #[.slice ao n cap] V fun e W' => ∃ b g, e = .returned (.func (.func 128) #[] #[.pointer (some ⟨b, 0, none⟩)]) ∧ MapQ b g ((mapB L L.length).map imR) (fun b o => (U b o ∧ b < w.heap.size) ∨ w.heap.size + 2 ≤ b) W' ∧ Below V.heap.size V W') := fun V hV hV2 =>
    Calls.mono (callsIn_wide.1 (images_in (R := fun b o => U b o ∧ b < w.heap.size) L e2 (hv1'.keep fun b o u hu hc => ⟨⟨hu, World.block_lt_of_cell? w _ hc⟩, by
      rw [World.cell?_of_block (w := w) (hV.block b (World.block_lt_of_cell? w _ hc))]; exact hc⟩) (by omega) (by omega))) fun e W' ⟨b, g, k1, ⟨k2, es, ck, k3, k4⟩, k5⟩ => ⟨b, g, k1, ⟨k2, es, ck, k3, k4.keep fun b o u hu hc => ⟨hu.imp id fun h => by omega, hc⟩⟩, k5⟩
  have HRep : Hid (∀ (V : World) (b g : Nat), Below w.heap.size w V → w.heap.size + 2 ≤ V.heap.size → MapQ b g ((mapB L L.length).map imR) (fun b o => (U b o ∧ b < w.heap.size) ∨ w.heap.size + 2 ≤ b) V → Calls Tryz.prog 71 #[.agg #[.int .i64 t.f, .slice ta tm tc], .func (.func 128) #[] #[.pointer (some ⟨b, 0, none⟩)]] V fun e W' => ∃ a m c, e = .returned (.agg #[.int .i64 (repT (imgB L) t).f, .slice a m c]) ∧ VRep (fun b o => (U b o ∧ b < w.heap.size) ∨ w.heap.size + 2 ≤ b) W' (repT (imgB L) t).cw (.agg #[.int .i64 (repT (imgB L) t).f, .slice a m c]) ∧ Below V.heap.size V W') := fun V b g hV hV2 hq => by
    have hI : ∀ v, 0 ≤ v → v ≤ 9223372036854775807 → AFunVQ Tryz.prog (MapQ b g ((mapB L L.length).map imR)) (.fn 128 0 [.sc (.pointer (some ⟨b, 0, none⟩))]) [.i v] (.val (imgB L v).cw) ∧ (imgB L v).rng ∧ (imgB L v).size ≤ 90000000000 := fun v h1 h2 => by
      refine ⟨⟨_, _, _, rfl, ?_⟩, imgB_ok hb h1 h2⟩
      have h3 := imgQ_abs b g (mapB L L.length) v h1 h2
      rw [show imgB (mapB L L.length) v = imgB L v by unfold imgB; rw [mapB_find]] at h3
      exact h3
    have h4 := (replaceQ_abs (mapQ_up b g _) _ (imgB L) hI t hr hok).2.2.2 (fun b o => (U b o ∧ b < w.heap.size) ∨ w.heap.size + 2 ≤ b) V [.agg #[.int .i64 t.f, .slice ta tm tc], .func (.func 128) #[] #[.pointer (some ⟨b, 0, none⟩)]] hq ⟨_, _, rfl, hv2.keep fun b o u hu hc => ⟨.inl ⟨hu, World.block_lt_of_cell? w _ hc⟩, by
      rw [World.cell?_of_block (w := w) (hV.block b (World.block_lt_of_cell? w _ hc))]; exact hc⟩, _, _, rfl, vrep_fn.2 ⟨[], [.pointer (some ⟨b, 0, none⟩)], rfl, rfl, ⟨[_], [], rfl, rep_sc.2 ⟨rfl, rfl⟩, rfl⟩, fun c hc => by simp at hc; subst hc; simp [CV.sc]⟩, rfl⟩
    refine Calls.mono h4 ?_
    rintro e W' ⟨v, rfl, hR, hB⟩
    have hR : VRep (fun b o => ((U b o ∧ b < w.heap.size) ∨ w.heap.size + 2 ≤ b) ∨ V.heap.size ≤ b) W' (repT (imgB L) t).cw v := hR
    have hR := hR.keep (V := fun b o => (U b o ∧ b < w.heap.size) ∨ w.heap.size + 2 ≤ b) (w' := W') fun b o u hu hc => ⟨hu.elim id fun h => .inr (by omega), hc⟩
    obtain ⟨xs, e3, hx3⟩ := vrep_row.1 hR
    obtain ⟨u1, u2, rfl⟩ : ∃ u1 u2, xs = [u1, u2] := by
      have h3 : xs.length = 2 := (rep_row.2 hx3).len
      match xs, h3 with
      | [u1, u2], _ => exact ⟨u1, u2, rfl⟩
    subst e3
    obtain ⟨g1, a, m, c, g2⟩ := vrep_tm2 hR
    subst g1; subst g2
    exact ⟨a, m, c, rfl, hR, hB⟩
  clear hv1 hv1' hv2 hx3 hb hr hok hl hl2 e2
  show Calls Tryz.prog 66 #[.slice ao n cap, .agg #[.int .i64 t.f, .slice ta tm tc]] w _
  refine calls_of_wp Tryz.func66 rfl ?_
  simp only [Tryz.ntmps66, List.size_toArray, List.length_cons, List.length_nil, Nat.reduceAdd, Nat.reduceSub, Array.replicate_succ, Array.replicate_zero, List.push_toArray, List.append_toArray, List.nil_append, List.cons_append]
  go_wp2_with fail
  obtain ⟨w2, hw2⟩ : ∃ w2, w2 = (w.alloc (.cells #[.int .i64 t.f, .slice ta tm tc] 41)).alloc (.cells #[.int .i64 0, .slice none 0 0] 41) := ⟨_, rfl⟩
  have hsz : w2.heap.size = w.heap.size + 2 := by rw [hw2]; simp
  have hb2 : Below w.heap.size w w2 := by rw [hw2]; exact bA (bA (bW _) _) _
  have y1 : w2.heap[w.heap.size]? = some (.cells #[.int .i64 t.f, .slice ta tm tc] 41 (0, 0)) := by
    rw [hw2, Below.heap_alloc _ _ _ (by simp)]; exact World.alloc_heap_new _ _
  have y2 : w2.heap[w.heap.size + 1]? = some (.cells #[.int .i64 0, .slice none 0 0] 41 (0, 0)) := by
    rw [hw2, show w.heap.size + 1 = (w.alloc (.cells #[.int .i64 t.f, .slice ta tm tc] 41)).heap.size by simp]; exact World.alloc_heap_new _ _
  have hs3 : w2.drew.heap.size = w.heap.size + 2 := hsz
  have hb3 : Below w.heap.size w w2.drew := hb2.drew
  have HB3 := hid hb3
  have HY1 := hid (show w2.drew.heap[w.heap.size]? = _ from y1)
  have HY2 := hid (show w2.drew.heap[w.heap.size + 1]? = _ from y2)
  obtain ⟨d1, d2⟩ := cell2 (show w2.drew.heap[w.heap.size]? = _ from y1)
  rw [← hw2]
  clear hw2 hb2 hb3 y1 y2
  go_region_law (first
    | (refine step_call _ rfl 93 _ _ rfl (enters_of Tryz.func93 (by kernel_rfl) rfl) (.slice ao n cap) rfl (HImg.out _ HB3.out (by omega)) ?_; rintro e w5 ⟨b, g, rfl, hq5, hb5⟩; refine ⟨_, rfl, ?_⟩; have hB5 : Below w.heap.size w w5 := HB3.out.trans (hb5.mono (by omega)); have hs5 := hb5.size; have x2 := (hb5.block _ (by omega)).trans HY2.out; obtain ⟨f1, f2⟩ := cell2 ((hb5.block _ (by omega)).trans HY1.out))
    | (refine step_call2 _ rfl 71 _ _ _ rfl (enters_of Tryz.func71 (by kernel_rfl) rfl) (.agg #[.int .i64 t.f, .slice ta tm tc]) (.func (.func 128) #[] #[.pointer (some ⟨b, 0, none⟩)]) rfl rfl (HRep.out _ b g hB5 (by omega) hq5) ?_; rintro e w6 ⟨a6, m6, c6, rfl, hR6, hb6⟩; refine ⟨_, rfl, ?_⟩; have hB6 : Below w.heap.size w w6 := hB5.trans (hb6.mono (by omega)); have z6 := (hb6.block _ (by omega)).trans x2; obtain ⟨f3, f4⟩ := cell2 z6; obtain ⟨f5, f6⟩ := frozen_box z6))
  all_goals go_wp2_with fail
  all_goals refine bodyPost_ret (results_apM (g := w.heap.size + 1) rfl (two_block z6 _ _)) rfl ?_
  all_goals refine ⟨_, rfl, ?_, (hB6.setCell (p := ⟨w.heap.size + 1, 0, none⟩) (by show w.heap.size ≤ w.heap.size + 1; omega) _).setCell (p := ⟨w.heap.size + 1, 1, none⟩) (by show w.heap.size ≤ w.heap.size + 1; omega) _⟩
  all_goals refine VRep.keep (fun b' o u hu hc => ⟨hu.elim (fun h => .inl h.1) (fun h => .inr (by omega)), ?_⟩) hR6
  all_goals have hne : b' ≠ w.heap.size + 1 := by rcases hu with h | h <;> omega
  all_goals rw [World.cell?_of_block (w := w6) (by rw [Below.heap_setCell _ _ _ _ hne, Below.heap_setCell _ _ _ _ hne])]
  all_goals exact hc

theorem applyG_abs (W : World) (L : List Bd) (t : Tm) (hl : L.length ≤ 1000000000) (hb : bdsOk L) (hr : t.rng) (hok : t.ok) : AFun Tryz.prog W 66 [.lst (L.map Bd.cv), t.cw] (.val (repT (imgB L) t).cw) := by
  by_cases h : L.length ≤ 64
  · exact apply_abs W L t h hb hr hok
  · exact applyM_abs W L t (by omega) hl hb hr hok
end Go.Proofs.YteegmcfobgpemaaGreat
namespace Go.Proofs.YteegmcfobgpemaaGreat
open Go.RowKit
set_option linter.unusedVariables false
set_option linter.unusedSimpArgs false
set_option maxRecDepth 100000
def sidL (c : List Lt) : List Tm := c.flatMap fun l => [l.a, l.b]
theorem sidL_snoc (c : List Lt) (l : Lt) : sidL (c ++ [l]) = sidL c ++ [l.a, l.b] := by simp [sidL]
theorem sidL_len (c : List Lt) : (sidL c).length = 2 * c.length := by
  induction c with
  | nil => rfl
  | cons l c ih =>
    have : sidL (l :: c) = l.a :: l.b :: sidL c := rfl
    rw [this]
    simp only [List.length_cons, ih]
    omega
theorem sidL_take (c : List Lt) (k : Nat) : (sidL (c.take k)).length ≤ 2 * c.length := by
  rw [sidL_len, List.length_take]; omega

-- 
theorem cSides_abs (W : World) (c : List Lt) (hn : c.length ≤ 1000000) : AFun Tryz.prog W 47 [.lst (c.map Lt.cv)] (.val (Tm.cw ⟨0, sidL c⟩)) := by
  have hsz := Lt.size_all c
  refine afun_of (rs := [Tm.cw ⟨0, sidL c⟩]) Tryz.func47 Tryz.ntmps47 rfl rfl rfl rfl ?_
  intro w U hW
  refine aS (aR ?_)
  (refine nx (a_alloc (gN rfl) rfl rfl rfl rfl rfl rfl rfl rfl rfl rfl) rfl ?_)
  show AWp _ _ _ _ _ _ _
  refine aS (aR ?_)
  (refine nx (aA (gN rfl) rfl rfl rfl rfl rfl) rfl ?_)
  show AWp _ _ _ _ _ _ _
  refine aS (aS (aR ?_))
  (refine nx (aM (gN rfl) rfl rfl rfl rfl rfl) rfl ?_)
  (refine nx (a_len (gN rfl) rfl rfl rfl rfl rfl rfl rfl) rfl ?_)
  (refine nx (aM (gN rfl) rfl rfl rfl rfl rfl) rfl ?_)
  show AWp _ _ _ _ _ _ _
  refine aB (awp_count c.length (fun k => [(2, .bp 2 0 []), (100002, ⟨5, .row [.i 0, .lst []], 1, 0, [1]⟩), (3, .own (.lst ((sidL (c.take k)).map Tm.cv)) 200018), (200018, .tok 41 2), (6, .val (.lst (c.map Lt.cv))), (7, .val (.i (c.map Lt.cv).length)), (8, .val (.i k))])
    ((wk_nil 3 200018 41 2 rfl rfl rfl rfl rfl rfl rfl).trans (wk_sub ⟨rfl, rfl, rfl, rfl, rfl, rfl, rfl, trivial⟩)) ?_)
  intro k hk
  refine aS (aR ?_)
  (refine nx (a_lss (gN rfl) rfl rfl rfl rfl rfl rfl) rfl ?_)
  show AWp _ _ _ _ _ _ _
  refine aS (aC rfl (fun hlt => ?_) (fun hlt => ?_))
  · have hkl : k < c.length := by simpa using hlt
    obtain ⟨x, hx⟩ : ∃ x, c[k]? = some x := ⟨c[k], List.getElem?_eq_getElem hkl⟩
    have hx' := Lt.map_at hx
    have hlen := sidL_take c k
    have hsz2 : ∀ y ∈ (sidL (c.take k)).map Tm.cv, y.size = 2 := Tm.size_all _
    have hl3 : ((sidL (c.take k)).map Tm.cv).length ≤ 2 * c.length := by rw [List.length_map]; exact hlen
    refine aK ?_
    show AWp _ _ _ _ _ _ _
    refine aS (aB (aS (aR ?_)))
    (refine nx (a_index (j := k) (gN rfl) rfl rfl rfl rfl rfl rfl rfl rfl rfl (hx') rfl (hsz)) rfl ?_)
    (refine nx (a_load_ad (gN rfl) rfl rfl rfl rfl rfl rfl rfl rfl rfl) rfl ?_)
    (refine nx (a_alloc (gN rfl) rfl rfl rfl rfl rfl rfl rfl rfl rfl rfl) rfl ?_)
    (refine nx (aSt (gN rfl) rfl rfl rfl rfl rfl rfl rfl rfl rfl rfl) rfl ?_)
    show AWp _ _ _ _ _ _ _
    refine aR ?_
    (refine nx (aM (gN rfl) rfl rfl rfl rfl rfl) rfl ?_)
    (refine nx (aF (gN rfl) rfl rfl rfl rfl rfl rfl rfl rfl rfl) rfl ?_)
    (refine nx (aLb (gN rfl) rfl rfl rfl rfl rfl rfl rfl rfl rfl rfl rfl rfl) rfl ?_)
    (refine nx (aF (gN rfl) rfl rfl rfl rfl rfl rfl rfl rfl rfl) rfl ?_)
    (refine nx (aLb (gN rfl) rfl rfl rfl rfl rfl rfl rfl rfl rfl rfl rfl rfl) rfl ?_)
    (refine nx (a_bslice (gN rfl) rfl rfl rfl rfl rfl rfl rfl rfl rfl rfl rfl rfl rfl) rfl ?_)
    (refine nx (a_app (gN rfl) rfl rfl rfl rfl rfl rfl rfl rfl rfl rfl rfl rfl rfl rfl rfl (by first | assumption | exact sZ rfl | exact Tm.size_all _ | exact Bd.size_all _ | exact ints_size _ | exact bys_size _ | exact Lt.size_all _) (by first | assumption | exact sZ rfl | exact Tm.size_all _ | exact Bd.size_all _ | exact ints_size _ | exact bys_size _ | exact Lt.size_all _) (by first | omega | (simp only [List.length_map, List.length_append, List.length_cons, List.length_nil] <;> omega) | (simp <;> omega))) rfl ?_)
    (refine nx (aA (gN rfl) rfl rfl rfl rfl rfl) rfl ?_)
    show AWp _ _ _ _ _ _ _
    refine aR ?_
    (refine nx (a_add (gN rfl) rfl rfl rfl rfl rfl rfl (by first | omega | (simp only [List.length_map, List.length_append, List.length_cons, List.length_nil] <;> omega) | (simp <;> omega))) rfl ?_)
    (refine nx (aM (gN rfl) rfl rfl rfl rfl rfl) rfl ?_)
    refine ⟨hkl, Wk.trans (wk_sub (s' := [(2, .bp 2 0 []), (100002, ⟨5, .row [.i 0, .lst []], 1, 0, [1]⟩), (3, .own (.lst ((sidL (c.take (k + 1))).map Tm.cv)) 300018), (300018, .tok 41 2), (6, .val (.lst (c.map Lt.cv))), (7, .val (.i (c.map Lt.cv).length)), (8, .val (.i ((k + 1 : Nat) : Int)))]) ⟨rfl, rfl, ?_, rfl, rfl, rfl, rfl, trivial⟩) (wk_ren 300018 200018 rfl rfl rfl rfl)⟩
    rw [List.take_add_one, hx]
    simp only [Option.toList_some, sidL_snoc, List.map_append, List.map_cons, List.map_nil, Tm.cv_eq]
    rfl
  · have hkl : k = c.length := by
      have : ¬ k < c.length := by simpa using hlt
      omega
    subst hkl
    rw [List.take_length]
    refine aE ?_
    show AWp _ _ _ _ _ _ _
    refine aS (aR ?_)
    (refine nx (aM (gN rfl) rfl rfl rfl rfl rfl) rfl ?_)
    (refine nx (a_build (gN rfl) rfl rfl rfl rfl rfl rfl rfl rfl rfl rfl rfl) rfl ?_)
    (refine nx (aSt (gN rfl) rfl rfl rfl rfl rfl rfl rfl rfl rfl rfl) rfl ?_)
    show AWp _ _ _ _ _ _ _
    exact aT (And.intro (.inr rfl) rfl)
theorem sidL_at : ∀ {c : List Lt} {k : Nat} {l : Lt}, c[k]? = some l → (sidL c)[2 * k]? = some l.a ∧ (sidL c)[2 * k + 1]? = some l.b
  | [], k, l, h => by simp at h
  | x :: c, 0, l, h => by
    simp at h
    subst h
    exact ⟨rfl, rfl⟩
  | x :: c, k + 1, l, h => by
    have := sidL_at (c := c) (k := k) (l := l) (by simpa using h)
    have e : sidL (x :: c) = x.a :: x.b :: sidL c := rfl
    rw [e, show 2 * (k + 1) = 2 * k + 1 + 1 by omega]
    simpa using this

-- 
theorem cWith_abs (W : World) (c d : List Lt) (f : Int) (hn : c.length ≤ 1000000) (hcd : d.map Lt.neg = c.map Lt.neg) : AFun Tryz.prog W 45 [.lst (c.map Lt.cv), Tm.cw ⟨f, sidL d⟩] (.val (.lst (d.map Lt.cv))) := by
  have hsz := Lt.size_all c
  have hszT := Tm.size_all (sidL d)
  have hlen : d.length = c.length := by have := congrArg List.length hcd; simpa using this
  refine afun_of (rs := [.lst (d.map Lt.cv)]) Tryz.func45 Tryz.ntmps45 rfl rfl rfl rfl ?_
  intro w U hW
  refine aS (aR ?_)
  (refine nx (a_box (gN rfl) rfl rfl rfl rfl rfl) rfl ?_)
  (refine nx (aA (gN rfl) rfl rfl rfl rfl rfl) rfl ?_)
  show AWp _ _ _ _ _ _ _
  refine aS (aR ?_)
  (refine nx (aA (gN rfl) rfl rfl rfl rfl rfl) rfl ?_)
  show AWp _ _ _ _ _ _ _
  refine aS (aS (aR ?_))
  (refine nx (aM (gN rfl) rfl rfl rfl rfl rfl) rfl ?_)
  (refine nx (a_len (gN rfl) rfl rfl rfl rfl rfl rfl rfl) rfl ?_)
  (refine nx (aM (gN rfl) rfl rfl rfl rfl rfl) rfl ?_)
  show AWp _ _ _ _ _ _ _
  refine aB (awp_count c.length (fun k => [(3, .bp 3 0 []), (100003, .bx (Tm.cw ⟨f, sidL d⟩)), (5, .own (.lst ((d.take k).map Lt.cv)) 200033), (200033, .tok 43 5), (8, .val (.lst (c.map Lt.cv))), (9, .val (.i (c.map Lt.cv).length)), (10, .val (.i k))])
    ((wk_nil 5 200033 43 5 rfl rfl rfl rfl rfl rfl rfl).trans (wk_sub ⟨rfl, rfl, rfl, rfl, rfl, rfl, rfl, trivial⟩)) ?_)
  intro k hk
  refine aS (aR ?_)
  (refine nx (a_lss (gN rfl) rfl rfl rfl rfl rfl rfl) rfl ?_)
  show AWp _ _ _ _ _ _ _
  refine aS (aC rfl (fun hlt => ?_) (fun hlt => ?_))
  · have hkl : k < c.length := by simpa using hlt
    obtain ⟨x, hx⟩ : ∃ x, c[k]? = some x := ⟨c[k], List.getElem?_eq_getElem hkl⟩
    obtain ⟨y, hy⟩ : ∃ y, d[k]? = some y := ⟨d[k], List.getElem?_eq_getElem (by omega)⟩
    have hneg : x.neg = y.neg := by
      have := congrArg (fun l => l[k]?) hcd
      simp only [List.getElem?_map, hx, hy, Option.map_some] at this
      injection this with this
      exact this.symm
    obtain ⟨n1, a1, b1⟩ := x
    simp only at hneg
    subst hneg
    have hx' := Lt.map_at hx
    obtain ⟨ha, hb⟩ := sidL_at hy
    have ha' := Tm.map_at ha
    have hb' := Tm.map_at hb
    have hsz2 : ∀ z ∈ (d.take k).map Lt.cv, z.size = 5 := Lt.size_all _
    have hl3 : ((d.take k).map Lt.cv).length ≤ 1000000 := by rw [List.length_map, List.length_take]; omega
    refine aK ?_
    show AWp _ _ _ _ _ _ _
    refine aS (aB (aS (aR ?_)))
    (refine nx (aM (gN rfl) rfl rfl rfl rfl rfl) rfl ?_)
    (refine nx (a_index (j := k) (gN rfl) rfl rfl rfl rfl rfl rfl rfl rfl rfl (hx') rfl (hsz)) rfl ?_)
    (refine nx (a_load_ad (gN rfl) rfl rfl rfl rfl rfl rfl rfl rfl rfl) rfl ?_)
    (refine nx (a_alloc (gN rfl) rfl rfl rfl rfl rfl rfl rfl rfl rfl rfl) rfl ?_)
    (refine nx (aA (gN rfl) rfl rfl rfl rfl rfl) rfl ?_)
    (refine nx (aSt (gN rfl) rfl rfl rfl rfl rfl rfl rfl rfl rfl rfl) rfl ?_)
    show AWp _ _ _ _ _ _ _
    refine aD (by kernel_rfl) (by kernel_rfl) ?_
    (refine nx (aM (gN rfl) rfl rfl rfl rfl rfl) rfl ?_)
    (refine nx (aF (gN rfl) rfl rfl rfl rfl rfl rfl rfl rfl rfl) rfl ?_)
    (refine nx (aLb (gN rfl) rfl rfl rfl rfl rfl rfl rfl rfl rfl rfl rfl rfl) rfl ?_)
    (refine nx (aF (gN rfl) rfl rfl rfl rfl rfl rfl rfl rfl rfl) rfl ?_)
    (refine nx (aLb (gN rfl) rfl rfl rfl rfl rfl rfl rfl rfl rfl rfl rfl rfl) rfl ?_)
    (refine nx (aM (gN rfl) rfl rfl rfl rfl rfl) rfl ?_)
    (refine nx (a_mul (gN rfl) rfl rfl rfl rfl rfl rfl (by first | omega | (simp only [List.length_map, List.length_append, List.length_cons, List.length_nil] <;> omega) | (simp <;> omega))) rfl ?_)
    (refine nx (a_index (j := (2 * k)) (gN rfl) rfl rfl rfl rfl rfl rfl rfl rfl rfl (ha') rfl (hszT)) rfl ?_)
    (refine nx (a_load_ad (gN rfl) rfl rfl rfl rfl rfl rfl rfl rfl rfl) rfl ?_)
    (refine nx (aF (gN rfl) rfl rfl rfl rfl rfl rfl rfl rfl rfl) rfl ?_)
    (refine nx (aLb (gN rfl) rfl rfl rfl rfl rfl rfl rfl rfl rfl rfl rfl rfl) rfl ?_)
    (refine nx (aM (gN rfl) rfl rfl rfl rfl rfl) rfl ?_)
    (refine nx (a_mul (gN rfl) rfl rfl rfl rfl rfl rfl (by first | omega | (simp only [List.length_map, List.length_append, List.length_cons, List.length_nil] <;> omega) | (simp <;> omega))) rfl ?_)
    (refine nx (a_add (gN rfl) rfl rfl rfl rfl rfl rfl (by first | omega | (simp only [List.length_map, List.length_append, List.length_cons, List.length_nil] <;> omega) | (simp <;> omega))) rfl ?_)
    (refine nx (a_index (j := (2 * k + 1)) (gN rfl) rfl rfl rfl rfl rfl rfl rfl rfl rfl (hb') rfl (hszT)) rfl ?_)
    (refine nx (a_load_ad (gN rfl) rfl rfl rfl rfl rfl rfl rfl rfl rfl) rfl ?_)
    (refine nx (a_build (gN rfl) rfl rfl rfl rfl rfl rfl rfl rfl rfl rfl rfl) rfl ?_)
    (refine nx (a_bslice (gN rfl) rfl rfl rfl rfl rfl rfl rfl rfl rfl rfl rfl rfl rfl) rfl ?_)
    (refine nx (a_app (gN rfl) rfl rfl rfl rfl rfl rfl rfl rfl rfl rfl rfl rfl rfl rfl rfl (by first | assumption | exact sZ rfl | exact Tm.size_all _ | exact Bd.size_all _ | exact ints_size _ | exact bys_size _ | exact Lt.size_all _) (by first | assumption | exact sZ rfl | exact Tm.size_all _ | exact Bd.size_all _ | exact ints_size _ | exact bys_size _ | exact Lt.size_all _) (by first | omega | (simp only [List.length_map, List.length_append, List.length_cons, List.length_nil] <;> omega) | (simp <;> omega))) rfl ?_)
    (refine nx (aA (gN rfl) rfl rfl rfl rfl rfl) rfl ?_)
    refine ⟨by kernel_rfl, ?_⟩
    show AWp _ _ _ _ _ _ _
    refine aR ?_
    (refine nx (a_add (gN rfl) rfl rfl rfl rfl rfl rfl (by first | omega | (simp only [List.length_map, List.length_append, List.length_cons, List.length_nil] <;> omega) | (simp <;> omega))) rfl ?_)
    (refine nx (aM (gN rfl) rfl rfl rfl rfl rfl) rfl ?_)
    refine ⟨hkl, Wk.trans (wk_sub (s' := [(3, .bp 3 0 []), (100003, .bx (Tm.cw ⟨f, sidL d⟩)), (5, .own (.lst ((d.take (k + 1)).map Lt.cv)) 300033), (300033, .tok 43 5), (8, .val (.lst (c.map Lt.cv))), (9, .val (.i (c.map Lt.cv).length)), (10, .val (.i ((k + 1 : Nat) : Int)))]) ⟨rfl, rfl, ?_, rfl, rfl, rfl, rfl, trivial⟩) (wk_ren 300033 200033 rfl rfl rfl rfl)⟩
    rw [List.take_add_one, hy]
    simp only [Option.toList_some, List.map_append, List.map_cons, List.map_nil]
    rfl
  · have hkl : k = d.length := by
      have : ¬ k < c.length := by simpa using hlt
      omega
    subst hkl
    rw [List.take_length]
    refine aE ?_
    show AWp _ _ _ _ _ _ _
    refine aS (aR ?_)
    (refine nx (aM (gN rfl) rfl rfl rfl rfl rfl) rfl ?_)
    (refine nx (aA (gN rfl) rfl rfl rfl rfl rfl) rfl ?_)
    show AWp _ _ _ _ _ _ _
    exact aT (And.intro (.inr rfl) rfl)

def Lt.rep (img : Int → Tm) (l : Lt) : Lt := ⟨l.neg, repT img l.a, repT img l.b⟩
theorem sidL_rep (img : Int → Tm) : ∀ c : List Lt, (sidL c).map (repT img) = sidL (c.map (Lt.rep img))
  | [] => rfl
  | l :: c => by
    show repT img l.a :: repT img l.b :: (sidL c).map (repT img) = _
    rw [sidL_rep img c]
    rfl
theorem rep_sides (img : Int → Tm) (c : List Lt) : repT img ⟨0, sidL c⟩ = ⟨0, sidL (c.map (Lt.rep img))⟩ := by
  rw [repT_sym (show ¬ (0 : Int) < 0 by decide), sidL_rep]
theorem rep_neg (img : Int → Tm) (c : List Lt) : (c.map (Lt.rep img)).map Lt.neg = c.map Lt.neg := by
  rw [List.map_map]; rfl

-- 
theorem cApply_abs (W : World) (L : List Bd) (c : List Lt) (hn : c.length ≤ 1000000) (hl : L.length ≤ 1000000000) (hb : bdsOk L) (hr : (⟨0, sidL c⟩ : Tm).rng) (hok : (⟨0, sidL c⟩ : Tm).ok) : AFun Tryz.prog W 67 [.lst (L.map Bd.cv), .lst (c.map Lt.cv)] (.val (.lst ((c.map (Lt.rep (imgB L))).map Lt.cv))) := by
  have h2 := fun w => applyG_abs w L ⟨0, sidL c⟩ hl hb hr hok
  rw [rep_sides] at h2
  refine afun_of (rs := [.lst ((c.map (Lt.rep (imgB L))).map Lt.cv)]) Tryz.func67 Tryz.ntmps67 rfl rfl rfl rfl ?_
  intro w U hW
  refine aS (aR ?_)
  (refine nx (aA (gN rfl) rfl rfl rfl rfl rfl) rfl ?_)
  show AWp _ _ _ _ _ _ _
  refine aS (aR ?_)
  (refine nx (aM (gN rfl) rfl rfl rfl rfl rfl) rfl ?_)
  (refine nx (aM (gN rfl) rfl rfl rfl rfl rfl) rfl ?_)
  (refine nx (aM (gN rfl) rfl rfl rfl rfl rfl) rfl ?_)
  (refine nx (a_call (gN rfl) rfl rfl rfl rfl rfl (cSides_abs w c hn)) rfl ?_)
  (refine nx (a_call (gN rfl) rfl rfl rfl rfl rfl (h2 w)) rfl ?_)
  (refine nx (a_call (gN rfl) rfl rfl rfl rfl rfl (cWith_abs w c _ 0 hn (rep_neg _ c))) rfl ?_)
  (refine nx (aA (gN rfl) rfl rfl rfl rfl rfl) rfl ?_)
  show AWp _ _ _ _ _ _ _
  exact aT (And.intro (.inr rfl) rfl)

-- 
theorem cRename_abs (W : World) (c : List Lt) (by_ : Int) (hn : c.length ≤ 1000000) (hr : (⟨0, sidL c⟩ : Tm).rng) (hok : (⟨0, sidL c⟩ : Tm).ok) : AFun Tryz.prog W 18 [.lst (c.map Lt.cv), .i by_] (.val (.lst ((c.map (Lt.rep fun v => varT (upV (max by_ 0) v))).map Lt.cv))) := by
  have h2 := fun w => rename_abs w ⟨0, sidL c⟩ by_ hr hok
  rw [rep_sides] at h2
  refine afun_of (rs := [.lst ((c.map (Lt.rep fun v => varT (upV (max by_ 0) v))).map Lt.cv)]) Tryz.func18 Tryz.ntmps18 rfl rfl rfl rfl ?_
  intro w U hW
  refine aS (aR ?_)
  (refine nx (aA (gN rfl) rfl rfl rfl rfl rfl) rfl ?_)
  show AWp _ _ _ _ _ _ _
  refine aS (aR ?_)
  (refine nx (aM (gN rfl) rfl rfl rfl rfl rfl) rfl ?_)
  (refine nx (aM (gN rfl) rfl rfl rfl rfl rfl) rfl ?_)
  (refine nx (a_call (gN rfl) rfl rfl rfl rfl rfl (cSides_abs w c hn)) rfl ?_)
  (refine nx (aM (gN rfl) rfl rfl rfl rfl rfl) rfl ?_)
  (refine nx (a_call (gN rfl) rfl rfl rfl rfl rfl (h2 w)) rfl ?_)
  (refine nx (a_call (gN rfl) rfl rfl rfl rfl rfl (cWith_abs w c _ 0 hn (rep_neg _ c))) rfl ?_)
  (refine nx (aA (gN rfl) rfl rfl rfl rfl rfl) rfl ?_)
  show AWp _ _ _ _ _ _ _
  exact aT (And.intro (.inr rfl) rfl)
end Go.Proofs.YteegmcfobgpemaaGreat
namespace Go.Proofs.YteegmcfobgpemaaGreat
open Go.RowKit
set_option linter.unusedVariables false
set_option linter.unusedSimpArgs false
section
variable {α β : Type}
end
def sgZ (b : Bool) : Int := if b then 1 else 0
def cmpLt (x y : Lt) : Int := if cmpZ (sgZ x.neg) (sgZ y.neg) ≠ 0 then cmpZ (sgZ x.neg) (sgZ y.neg) else cmpS x y
theorem cmpS_zero (x y : Lt) : cmpS x y = 0 ↔ x.a.strip = y.a.strip ∧ x.b.strip = y.b.strip := by
  unfold cmpS
  by_cases h : cmpT x.a y.a = 0
  · rw [if_neg (by simpa using h), cmpT_zero]
    exact ⟨fun e => ⟨(cmpT_zero _ _).1 h, e⟩, fun e => e.2⟩
  · rw [if_pos h]
    exact ⟨fun e => absurd e h, fun e => absurd ((cmpT_zero _ _).2 e.1) h⟩
theorem sg_zero (a b : Bool) : cmpZ (sgZ a) (sgZ b) = 0 ↔ a = b := by cases a <;> cases b <;> decide
theorem cmpLt_zero (x y : Lt) : cmpLt x y = 0 ↔ x.strip = y.strip := by
  obtain ⟨n, a, b⟩ := x
  obtain ⟨m, c, d⟩ := y
  unfold cmpLt Lt.strip
  by_cases h : n = m
  · subst h
    rw [if_neg (by simp [sg_zero]), cmpS_zero]
    simp
  · rw [if_pos (by simp only [ne_eq, sg_zero]; exact h)]
    simp only [sg_zero, Lt.mk.injEq]
    exact ⟨fun e => absurd e h, fun e => e.1⟩
open Classical in
def smL (x y : Lt) : Bool := decide (cmpLt x y = 0)
section
variable {P : Program} {w0 : World} {U0 : UX} {nt : Nat} {ops : Array Oper} {o : Oper} {S : Nat → Option AV} {gs : List Nat} {d : Nat}
variable (hg : Gd w0 U0 nt ops o gs S) (hd : o.dst = some d) (hn : Nat.blt d nt = true) (h5 : Nat.blt d 100000 = true)
include hg hd hn h5
end
end Go.Proofs.YteegmcfobgpemaaGreat
namespace Go.Proofs.YteegmcfobgpemaaGreat
set_option linter.unusedVariables false

end Go.Proofs.YteegmcfobgpemaaGreat
namespace Go.Proofs.YteegmcfobgpemaaGreat
open Go.RowKit
set_option linter.unusedVariables false











end Go.Proofs.YteegmcfobgpemaaGreat
namespace Go.Proofs.YteegmcfobgpemaaGreat
set_option linter.unusedVariables false
set_option linter.unusedSimpArgs false

end Go.Proofs.YteegmcfobgpemaaGreat
namespace Go.Proofs.YteegmcfobgpemaaGreat
open Go.RowKit
set_option linter.unusedVariables false
set_option linter.unusedSimpArgs false
set_option maxRecDepth 100000
abbrev by8 (z : Int) : CV := .sc (.int .u8 z)
-- 
theorem cSign_abs (W : World) (l : Lt) : AFun Tryz.prog W 101 [l.cw] (.val (by8 (if l.neg then 1 else 0))) := by
  refine afun_of (rs := [by8 (if l.neg then 1 else 0)]) Tryz.func101 Tryz.ntmps101 rfl rfl rfl rfl ?_
  intro w U hW
  refine aS (aR ?_)
  (refine nx (a_box (gN rfl) rfl rfl rfl rfl rfl) rfl ?_)
  (refine nx (aA (gN rfl) rfl rfl rfl rfl rfl) rfl ?_)
  show AWp _ _ _ _ _ _ _
  refine aS (aS (aR ?_))
  (refine nx (aF (gN rfl) rfl rfl rfl rfl rfl rfl rfl rfl rfl) rfl ?_)
  (refine nx (aLb (gN rfl) rfl rfl rfl rfl rfl rfl rfl rfl rfl rfl rfl rfl) rfl ?_)
  show AWp _ _ _ _ _ _ _
  refine aC rfl (fun hc => ?_) (fun hc => ?_)
  · refine aS (aR ?_)
    (refine nx (aA (gN rfl) rfl rfl rfl rfl rfl) rfl ?_)
    show AWp _ _ _ _ _ _ _
    rw [if_pos hc]
    exact aT (And.intro (.inr rfl) rfl)
  · refine aK ?_
    show AWp _ _ _ _ _ _ _
    refine aS (aR ?_)
    (refine nx (aA (gN rfl) rfl rfl rfl rfl rfl) rfl ?_)
    show AWp _ _ _ _ _ _ _
    rw [if_neg (by rw [hc]; simp)]
    exact aT (And.intro (.inr rfl) rfl)



def finL (size : Int) (l : Lt) : Bool := decide (0 ≤ smallT l.a size 8) && decide (0 ≤ smallT l.b size 8)
def fineC (c : List Lt) (most : Nat) (size : Int) : Bool := decide (c.length ≤ most) && c.all (finL size)
-- 
set_option maxHeartbeats 1000000 in
theorem fine11_abs (W : World) (c : List Lt) (most : Nat) (size : Int) (hm : most ≤ 1000) (h0 : 0 ≤ size) (h1 : size ≤ 60) (hr : okC c) : AFun Tryz.prog W 8 [.lst (c.map Lt.cv), .i (most : Int), .i size] (.val (.b (fineC c most size))) := by
  have hsz := Lt.size_all c
  refine afun_of (rs := [.b (fineC c most size)]) Tryz.func8 Tryz.ntmps8 rfl rfl rfl rfl ?_
  intro w U hW
  refine aS (aR ?_)
  (refine nx (aA (gN rfl) rfl rfl rfl rfl rfl) rfl ?_)
  show AWp _ _ _ _ _ _ _
  refine aS (aS (aR ?_))
  (refine nx (aM (gN rfl) rfl rfl rfl rfl rfl) rfl ?_)
  (refine nx (a_len (gN rfl) rfl rfl rfl rfl rfl rfl rfl) rfl ?_)
  (refine nx (aM (gN rfl) rfl rfl rfl rfl rfl) rfl ?_)
  (refine nx (a_gtr (gN rfl) rfl rfl rfl rfl rfl rfl) rfl ?_)
  show AWp _ _ _ _ _ _ _
  refine aC rfl (fun hc => ?_) (fun hc => ?_)
  · have hno : fineC c most size = false := by
      have := of_decide_eq_true hc
      rw [List.length_map] at this
      unfold fineC
      rw [show decide (c.length ≤ most) = false by rw [decide_eq_false_iff_not]; omega]
      rfl
    rw [hno]
    refine aS (aR ?_)
    (refine nx (aA (gN rfl) rfl rfl rfl rfl rfl) rfl ?_)
    show AWp _ _ _ _ _ _ _
    exact aT (And.intro (.inr rfl) rfl)
  have hl : c.length ≤ most := by
    have := of_decide_eq_false hc
    rw [List.length_map] at this
    omega
  refine aK ?_
  show AWp _ _ _ _ _ _ _
  refine aS (aS (aR ?_))
  (refine nx (aA (gN rfl) rfl rfl rfl rfl rfl) rfl ?_)
  show AWp _ _ _ _ _ _ _
  refine aB (awp_countI c.length (fun k => ∀ l ∈ c.take k, finL size l = true) (fun k => [(0, .val (.lst (c.map Lt.cv))), (2, .val (.i size)), (7, .val (.i k))]) (wk_sub ⟨rfl, rfl, rfl, trivial⟩) (by simp) ?_)
  intro k hk hI
  refine aS (aS (aR ?_))
  (refine nx (aM (gN rfl) rfl rfl rfl rfl rfl) rfl ?_)
  (refine nx (aM (gN rfl) rfl rfl rfl rfl rfl) rfl ?_)
  (refine nx (a_len (gN rfl) rfl rfl rfl rfl rfl rfl rfl) rfl ?_)
  (refine nx (a_lss (gN rfl) rfl rfl rfl rfl rfl rfl) rfl ?_)
  show AWp _ _ _ _ _ _ _
  refine aC rfl (fun hlt => ?_) (fun hlt => ?_)
  · have hkl : k < c.length := by simpa using hlt
    obtain ⟨x, hx⟩ : ∃ x, c[k]? = some x := ⟨c[k], List.getElem?_eq_getElem hkl⟩
    have hx' := Lt.map_at hx
    have hxm := List.mem_of_getElem? hx
    have sa := small_abs w x.a size 8 (hr x hxm).1 h0 h1 (by decide) (by decide)
    have sb := small_abs w x.b size 8 (hr x hxm).2 h0 h1 (by decide) (by decide)
    have hno : finL size x = false → fineC c most size = false := fun h => by
      unfold fineC
      rw [show c.all (finL size) = false from List.all_eq_false.2 ⟨x, hxm, by rw [h]; simp⟩, Bool.and_false]
    refine aK ?_
    show AWp _ _ _ _ _ _ _
    by_cases ha : smallT x.a size 8 < 0
    · have ga : decide (smallT x.a size 8 < 0) = true := by simpa using ha
      rw [hno (by unfold finL; rw [show decide (0 ≤ smallT x.a size 8) = false by rw [decide_eq_false_iff_not]; omega]; rfl)]
      refine aS (aB (aS (aR ?_)))
      (refine nx (aM (gN rfl) rfl rfl rfl rfl rfl) rfl ?_)
      (refine nx (aM (gN rfl) rfl rfl rfl rfl rfl) rfl ?_)
      (refine nx (a_index (j := k) (gN rfl) rfl rfl rfl rfl rfl rfl rfl rfl rfl (hx') rfl (hsz)) rfl ?_)
      (refine nx (a_field_ad (gN rfl) rfl rfl rfl rfl rfl rfl rfl rfl rfl rfl rfl) rfl ?_)
      (refine nx (a_load_ad (gN rfl) rfl rfl rfl rfl rfl rfl rfl rfl rfl) rfl ?_)
      (refine nx (aM (gN rfl) rfl rfl rfl rfl rfl) rfl ?_)
      (refine nx (a_call (gN rfl) rfl rfl rfl rfl rfl (sa)) rfl ?_)
      (refine nx (a_lss (gN rfl) rfl rfl rfl rfl rfl rfl) rfl ?_)
      (refine nx (aM (gN rfl) rfl rfl rfl rfl rfl) rfl ?_)
      (refine ⟨_, _, _, a_off (go_off rfl rfl rfl rfl (by first | rfl | assumption | (simp; done) | (simp [*]; done))) rfl rfl rfl, rfl, ?_⟩)
      (refine ⟨_, _, _, a_off (go_off rfl rfl rfl rfl (by first | rfl | assumption | (simp; done) | (simp [*]; done))) rfl rfl rfl, rfl, ?_⟩)
      (refine ⟨_, _, _, a_off (go_off rfl rfl rfl rfl (by first | rfl | assumption | (simp; done) | (simp [*]; done))) rfl rfl rfl, rfl, ?_⟩)
      (refine ⟨_, _, _, a_off (go_off rfl rfl rfl rfl (by first | rfl | assumption | (simp; done) | (simp [*]; done))) rfl rfl rfl, rfl, ?_⟩)
      (refine ⟨_, _, _, a_off (go_off rfl rfl rfl rfl (by first | rfl | assumption | (simp; done) | (simp [*]; done))) rfl rfl rfl, rfl, ?_⟩)
      (refine ⟨_, _, _, a_off (go_off rfl rfl rfl rfl (by first | rfl | assumption | (simp; done) | (simp [*]; done))) rfl rfl rfl, rfl, ?_⟩)
      (refine ⟨_, _, _, a_off (go_off rfl rfl rfl rfl (by first | rfl | assumption | (simp; done) | (simp [*]; done))) rfl rfl rfl, rfl, ?_⟩)
      (refine ⟨_, _, _, a_off (go_off rfl rfl rfl rfl (by first | rfl | assumption | (simp; done) | (simp [*]; done))) rfl rfl rfl, rfl, ?_⟩)
      (refine ⟨_, _, _, aPt (gN rfl) rfl rfl rfl rfl rfl ?hb rfl, rfl, ?_⟩; case hb => (first | rfl | assumption | (simp; done)))
      show AWp _ _ _ _ _ _ _
      refine aC rfl (fun hc2 => ?_) (fun hc2 => by cases hc2)
      refine aS (aR ?_)
      (refine nx (aA (gN rfl) rfl rfl rfl rfl rfl) rfl ?_)
      show AWp _ _ _ _ _ _ _
      exact aT (And.intro (.inr rfl) rfl)
    · have ga : decide (smallT x.a size 8 < 0) = false := by simpa using ha
      refine aS (aB (aS (aR ?_)))
      (refine nx (aM (gN rfl) rfl rfl rfl rfl rfl) rfl ?_)
      (refine nx (aM (gN rfl) rfl rfl rfl rfl rfl) rfl ?_)
      (refine nx (a_index (j := k) (gN rfl) rfl rfl rfl rfl rfl rfl rfl rfl rfl (hx') rfl (hsz)) rfl ?_)
      (refine nx (a_field_ad (gN rfl) rfl rfl rfl rfl rfl rfl rfl rfl rfl rfl rfl) rfl ?_)
      (refine nx (a_load_ad (gN rfl) rfl rfl rfl rfl rfl rfl rfl rfl rfl) rfl ?_)
      (refine nx (aM (gN rfl) rfl rfl rfl rfl rfl) rfl ?_)
      (refine nx (a_call (gN rfl) rfl rfl rfl rfl rfl (sa)) rfl ?_)
      (refine nx (a_lss (gN rfl) rfl rfl rfl rfl rfl rfl) rfl ?_)
      (refine nx (aM (gN rfl) rfl rfl rfl rfl rfl) rfl ?_)
      (refine nx (aM (gd_on rfl rfl rfl rfl (by first | rfl | assumption | (simp; done))) rfl rfl rfl rfl rfl) rfl ?_)
      (refine nx (aM (gd_on rfl rfl rfl rfl (by first | rfl | assumption | (simp; done))) rfl rfl rfl rfl rfl) rfl ?_)
      (refine nx (a_index (j := k) (gd_on rfl rfl rfl rfl (by first | rfl | assumption | (simp; done))) rfl rfl rfl rfl rfl rfl rfl rfl rfl (hx') rfl (hsz)) rfl ?_)
      (refine nx (a_field_ad (gd_on rfl rfl rfl rfl (by first | rfl | assumption | (simp; done))) rfl rfl rfl rfl rfl rfl rfl rfl rfl rfl rfl) rfl ?_)
      (refine nx (a_load_ad (gd_on rfl rfl rfl rfl (by first | rfl | assumption | (simp; done))) rfl rfl rfl rfl rfl rfl rfl rfl rfl) rfl ?_)
      (refine nx (aM (gd_on rfl rfl rfl rfl (by first | rfl | assumption | (simp; done))) rfl rfl rfl rfl rfl) rfl ?_)
      (refine nx (a_call (gd_on rfl rfl rfl rfl (by first | rfl | assumption | (simp; done))) rfl rfl rfl rfl rfl (sb)) rfl ?_)
      (refine nx (a_lss (gd_on rfl rfl rfl rfl (by first | rfl | assumption | (simp; done))) rfl rfl rfl rfl rfl rfl) rfl ?_)
      (refine ⟨_, _, _, aPf (gN rfl) rfl rfl rfl rfl rfl ?hb rfl, rfl, ?_⟩; case hb => (first | rfl | assumption | (simp; done)))
      show AWp _ _ _ _ _ _ _
      refine aC rfl (fun hc2 => ?_) (fun hc2 => ?_)
      · have hb := of_decide_eq_true hc2
        rw [hno (by unfold finL; rw [show decide (0 ≤ smallT x.b size 8) = false by rw [decide_eq_false_iff_not]; omega]; simp)]
        refine aS (aR ?_)
        (refine nx (aA (gN rfl) rfl rfl rfl rfl rfl) rfl ?_)
        show AWp _ _ _ _ _ _ _
        exact aT (And.intro (.inr rfl) rfl)
      · have hb := of_decide_eq_false hc2
        refine aK ?_
        show AWp _ _ _ _ _ _ _
        refine aR ?_
        (refine nx (aM (gN rfl) rfl rfl rfl rfl rfl) rfl ?_)
        (refine nx (a_add (gN rfl) rfl rfl rfl rfl rfl rfl (by first | omega | (simp only [List.length_map, List.length_append, List.length_cons, List.length_nil] <;> omega) | (simp <;> omega))) rfl ?_)
        (refine nx (aA (gN rfl) rfl rfl rfl rfl rfl) rfl ?_)
        refine ⟨hkl, ?_, wk_sub ⟨rfl, rfl, rfl, trivial⟩⟩
        intro y hy
        rw [List.take_add_one, hx, List.mem_append] at hy
        rcases hy with hy | hy
        · exact hI y hy
        · simp at hy
          rw [hy]
          unfold finL
          rw [show decide (0 ≤ smallT x.a size 8) = true by rw [decide_eq_true_eq]; omega, show decide (0 ≤ smallT x.b size 8) = true by rw [decide_eq_true_eq]; omega]
          rfl
  · have hkl : k = c.length := by
      have : ¬ k < c.length := by simpa using hlt
      omega
    subst hkl
    rw [List.take_length] at hI
    have hyes : fineC c most size = true := by
      unfold fineC
      rw [show decide (c.length ≤ most) = true by simpa using hl, Bool.true_and]
      exact List.all_eq_true.2 hI
    rw [hyes]
    refine aE ?_
    show AWp _ _ _ _ _ _ _
    refine aS (aR ?_)
    (refine nx (aA (gN rfl) rfl rfl rfl rfl rfl) rfl ?_)
    show AWp _ _ _ _ _ _ _
    exact aT (And.intro (.inr rfl) rfl)
theorem fineC_facts {c : List Lt} {most : Nat} {size : Int} (h0 : 0 ≤ size) (h1 : size ≤ 60) (h : fineC c most size = true) : c.length ≤ most ∧ ∀ l ∈ c, ((l.a.sm ∧ l.a.rng ∧ l.a.ok) ∧ (l.a.wt : Int) ≤ size ∧ (l.a.size : Int) ≤ size) ∧ ((l.b.sm ∧ l.b.rng ∧ l.b.ok) ∧ (l.b.wt : Int) ≤ size ∧ (l.b.size : Int) ≤ size) := by
  unfold fineC at h
  rw [Bool.and_eq_true, decide_eq_true_eq] at h
  refine ⟨h.1, fun l hl => ?_⟩
  have hf := List.all_eq_true.1 h.2 l hl
  unfold finL at hf
  rw [Bool.and_eq_true, decide_eq_true_eq, decide_eq_true_eq] at hf
  have key : ∀ t : Tm, 0 ≤ smallT t size 8 → (t.sm ∧ t.rng ∧ t.ok) ∧ (t.wt : Int) ≤ size ∧ (t.size : Int) ≤ size := fun t ht => by
    have hsm := small_sm t _ _ ht
    have hwt : (t.wt : Int) ≤ size := by have := (small_bounds t size 8 h0).2.2 ht; omega
    have := t.size_wt
    exact ⟨⟨hsm, Tm.sm_rng hsm, Tm.wt_ok (t := t) (by omega)⟩, hwt, by omega⟩
  exact ⟨key _ hf.1, key _ hf.2⟩
-- 
set_option maxHeartbeats 1000000 in
theorem of11I_abs (W : World) (c : List Lt) (hl : c.length ≤ 1000000) (hc : ∀ l ∈ c, l.a.ok ∧ l.b.ok) : AFun Tryz.prog W 9 [.lst (c.map Lt.cv)] (.val (.lst ((c.map id).map Lt.cv))) := by
  have hsz := Lt.size_all c
  refine afun_of (rs := [.lst ((c.map id).map Lt.cv)]) Tryz.func9 Tryz.ntmps9 rfl rfl rfl rfl ?_
  intro w U hW
  refine aS (aR ?_)
  (refine nx (aA (gN rfl) rfl rfl rfl rfl rfl) rfl ?_)
  show AWp _ _ _ _ _ _ _
  refine aS (aR ?_)
  (refine nx (aA (gN rfl) rfl rfl rfl rfl rfl) rfl ?_)
  show AWp _ _ _ _ _ _ _
  refine aS (aS (aR ?_))
  (refine nx (aA (gN rfl) rfl rfl rfl rfl rfl) rfl ?_)
  show AWp _ _ _ _ _ _ _
  refine aB (awp_count c.length (fun k => [(0, .val (.lst (c.map Lt.cv))), (3, .own (.lst (((c.take k).map id).map Lt.cv)) 200031), (200031, .tok 43 5), (4, .val (.i k))]) ((wk_nil 3 200031 43 5 rfl rfl rfl rfl rfl rfl rfl).trans (wk_sub ⟨rfl, rfl, rfl, rfl, trivial⟩)) ?_)
  intro k hk
  have hks := Lt.size_all ((c.take k).map id)
  refine aS (aS (aR ?_))
  (refine nx (aM (gN rfl) rfl rfl rfl rfl rfl) rfl ?_)
  (refine nx (aM (gN rfl) rfl rfl rfl rfl rfl) rfl ?_)
  (refine nx (a_len (gN rfl) rfl rfl rfl rfl rfl rfl rfl) rfl ?_)
  (refine nx (a_lss (gN rfl) rfl rfl rfl rfl rfl rfl) rfl ?_)
  show AWp _ _ _ _ _ _ _
  refine aC rfl (fun hlt => ?_) (fun hlt => ?_)
  · have hkl : k < c.length := by simpa using hlt
    obtain ⟨x, hx⟩ : ∃ x, c[k]? = some x := ⟨c[k], List.getElem?_eq_getElem hkl⟩
    have hx' := Lt.map_at hx
    have hxm := List.mem_of_getElem? hx
    have hkn : (((c.take k).map id).map Lt.cv).length ≤ 1000000 := by rw [List.length_map, List.length_map, List.length_take]; omega
    refine aK ?_
    show AWp _ _ _ _ _ _ _
    refine aS (aB (aD (by kernel_rfl) (by kernel_rfl) ?_))
    (refine nx (aM (gN rfl) rfl rfl rfl rfl rfl) rfl ?_)
    (refine nx (aM (gN rfl) rfl rfl rfl rfl rfl) rfl ?_)
    (refine nx (aM (gN rfl) rfl rfl rfl rfl rfl) rfl ?_)
    (refine nx (a_index (j := k) (gN rfl) rfl rfl rfl rfl rfl rfl rfl rfl rfl (hx') rfl (hsz)) rfl ?_)
    (refine nx (a_field_ad (gN rfl) rfl rfl rfl rfl rfl rfl rfl rfl rfl rfl rfl) rfl ?_)
    (refine nx (a_load_ad (gN rfl) rfl rfl rfl rfl rfl rfl rfl rfl rfl) rfl ?_)
    (refine nx (aM (gN rfl) rfl rfl rfl rfl rfl) rfl ?_)
    (refine nx (aM (gN rfl) rfl rfl rfl rfl rfl) rfl ?_)
    (refine nx (a_index (j := k) (gN rfl) rfl rfl rfl rfl rfl rfl rfl rfl rfl (hx') rfl (hsz)) rfl ?_)
    (refine nx (a_field_ad (gN rfl) rfl rfl rfl rfl rfl rfl rfl rfl rfl rfl rfl) rfl ?_)
    (refine nx (a_load_ad (gN rfl) rfl rfl rfl rfl rfl rfl rfl rfl rfl) rfl ?_)
    (refine nx (a_call (gN rfl) rfl rfl rfl rfl rfl (of_abs w x.a (hc x hxm).1)) rfl ?_)
    (refine nx (aM (gN rfl) rfl rfl rfl rfl rfl) rfl ?_)
    (refine nx (aM (gN rfl) rfl rfl rfl rfl rfl) rfl ?_)
    (refine nx (a_index (j := k) (gN rfl) rfl rfl rfl rfl rfl rfl rfl rfl rfl (hx') rfl (hsz)) rfl ?_)
    (refine nx (a_field_ad (gN rfl) rfl rfl rfl rfl rfl rfl rfl rfl rfl rfl rfl) rfl ?_)
    (refine nx (a_load_ad (gN rfl) rfl rfl rfl rfl rfl rfl rfl rfl rfl) rfl ?_)
    (refine nx (a_call (gN rfl) rfl rfl rfl rfl rfl (of_abs w x.b (hc x hxm).2)) rfl ?_)
    (refine nx (a_build (gN rfl) rfl rfl rfl rfl rfl rfl rfl rfl rfl rfl rfl) rfl ?_)
    (refine nx (a_bslice (gN rfl) rfl rfl rfl rfl rfl rfl rfl rfl rfl rfl rfl rfl rfl) rfl ?_)
    (refine nx (a_app (gN rfl) rfl rfl rfl rfl rfl rfl rfl rfl rfl rfl rfl rfl rfl rfl rfl (by first | assumption | exact sZ rfl | exact Tm.size_all _ | exact Bd.size_all _ | exact ints_size _ | exact bys_size _ | exact Lt.size_all _) (by first | assumption | exact sZ rfl | exact Tm.size_all _ | exact Bd.size_all _ | exact ints_size _ | exact bys_size _ | exact Lt.size_all _) (by first | omega | (simp only [List.length_map, List.length_append, List.length_cons, List.length_nil] <;> omega) | (simp <;> omega))) rfl ?_)
    (refine nx (aA (gN rfl) rfl rfl rfl rfl rfl) rfl ?_)
    refine ⟨by kernel_rfl, ?_⟩
    show AWp _ _ _ _ _ _ _
    refine aR ?_
    (refine nx (aM (gN rfl) rfl rfl rfl rfl rfl) rfl ?_)
    (refine nx (a_add (gN rfl) rfl rfl rfl rfl rfl rfl (by first | omega | (simp only [List.length_map, List.length_append, List.length_cons, List.length_nil] <;> omega) | (simp <;> omega))) rfl ?_)
    (refine nx (aA (gN rfl) rfl rfl rfl rfl rfl) rfl ?_)
    refine ⟨hkl, Wk.trans (wk_sub (s' := [(0, .val (.lst (c.map Lt.cv))), (3, .own (.lst (((c.take (k + 1)).map id).map Lt.cv)) 300031), (300031, .tok 43 5), (4, .val (.i ((k + 1 : Nat) : Int)))]) ⟨rfl, ?_, rfl, rfl, trivial⟩) (wk_ren 300031 200031 rfl rfl rfl rfl)⟩
    rw [List.take_add_one, hx, List.map_append, List.map_append]
    rfl
  · have hkl : k = c.length := by
      have : ¬ k < c.length := by simpa using hlt
      omega
    subst hkl
    rw [List.take_length]
    refine aE ?_
    show AWp _ _ _ _ _ _ _
    refine aS (aR ?_)
    (refine nx (aM (gN rfl) rfl rfl rfl rfl rfl) rfl ?_)
    (refine nx (aA (gN rfl) rfl rfl rfl rfl rfl) rfl ?_)
    show AWp _ _ _ _ _ _ _
    exact aT (And.intro (.inr rfl) rfl)
theorem of11_abs (W : World) (c : List Lt) (hl : c.length ≤ 1000000) (hc : ∀ l ∈ c, l.a.ok ∧ l.b.ok) : AFun Tryz.prog W 9 [.lst (c.map Lt.cv)] (.val (.lst (c.map Lt.cv))) := by
  have := of11I_abs W c hl hc
  rw [List.map_id] at this
  exact this
def sameL (x y : Lt) : Bool := (x.neg == y.neg) && (sameT x.a y.a && sameT x.b y.b)
theorem sameL_iff (x y : Lt) : sameL x y = true ↔ x.strip = y.strip := by
  unfold sameL
  rw [Bool.and_eq_true, Bool.and_eq_true, sameT_iff, sameT_iff, beq_iff_eq]
  cases x
  cases y
  simp [Lt.strip]
def sameC : List Lt → List Lt → Bool
  | [], [] => true
  | x :: l, y :: m => sameL x y && sameC l m
  | _, _ => false
theorem sameC_iff : ∀ {l m : List Lt}, sameC l m = true ↔ l.map Lt.strip = m.map Lt.strip
  | [], [] => by simp [sameC]
  | [], _ :: _ => by simp [sameC]
  | _ :: _, [] => by simp [sameC]
  | x :: l, y :: m => by
    rw [sameC, Bool.and_eq_true, sameL_iff, sameC_iff, List.map_cons, List.map_cons, List.cons.injEq]
end Go.Proofs.YteegmcfobgpemaaGreat
namespace Go.Proofs.YteegmcfobgpemaaGreat
open Go.RowKit
set_option linter.unusedVariables false
set_option linter.unusedSimpArgs false
def sidT (c : List Lt) : Tm := ⟨0, sidL c⟩
theorem smL_sameL (x y : Lt) : smL x y = sameL x y := by
  unfold smL
  rw [Bool.eq_iff_iff, decide_eq_true_iff, cmpLt_zero, sameL_iff]
theorem rep_sid (img : Int → Tm) (c : List Lt) : repT img (sidT c) = sidT (c.map (Lt.rep img)) := rep_sides img c
def vntC (c d : List Lt) : Bool := decide (c.map Lt.neg = d.map Lt.neg) && vntB (sidT c) (sidT d)
end Go.Proofs.YteegmcfobgpemaaGreat
namespace Go.Proofs.YteegmcfobgpemaaGreat
open Go.RowKit
set_option linter.unusedVariables false
set_option linter.unusedSimpArgs false
set_option maxRecDepth 100000
theorem ToldU.uniq {l : List (Tm × Tm)} {r1 r2 : List Bd × Bool} (h1 : ToldU l r1) (h2 : ToldU l r2) : r1 = r2 := by
  rcases h1 with ⟨a1, a2, a3⟩ | ⟨a1, s, a2, a3, a4, a5⟩
  · rw [h2.no a3]
    cases r1
    simp only at a1 a2
    rw [a1, a2]
  · have h := (h2.yes a2 a3).1
    cases r1
    simp only at a1 a5
    rw [h, a1, a5]
noncomputable def mgT (a b : Tm) : List Bd × Bool := open Classical in if h : ∃ r, Tells8 [(a, b)] r then Classical.choose h else ([], false)
def Tm.ten (t : Tm) : Prop := (t.rng ∧ t.ok) ∧ t.size ≤ 10
def Lt.ten (l : Lt) : Prop := l.a.ten ∧ l.b.ten
theorem ten_tiny {a b : Tm} (ha : a.ten) (hb : b.ten) : Tiny2 [(a, b)] := fun p hp => by
  rw [List.mem_singleton] at hp
  subst hp
  exact ⟨⟨ha.1, Nat.le_trans ha.2 (by omega)⟩, hb.1, Nat.le_trans hb.2 (by omega)⟩
theorem mg_of {a b : Tm} {r : List Bd × Bool} (h : Tells8 [(a, b)] r) : mgT a b = r := by
  have he : ∃ r, Tells8 [(a, b)] r := ⟨r, h⟩
  unfold mgT
  rw [dif_pos he]
  exact (Classical.choose_spec he).told.uniq h.told
theorem mg_told {a b : Tm} (ha : a.ten) (hb : b.ten) : Tells8 [(a, b)] (mgT a b) := by
  obtain ⟨n, r, _, _, _, h⟩ := told_of (l := [(a, b)]) (by simp) (ten_tiny ha hb)
  rw [mg_of h]
  exact h
theorem all_orig (l : List (Tm × Tm)) (hl : l.length ≤ 2) (ht : Tiny2 l) : ∃ r : Option (List Bd), (r = none → ∀ τ, ¬ uni τ l) ∧ ∀ s, r = some s → Mgu (imgB s) l ∧ bareB s ∧ Orig (subsP l) (imgB s) := by
  have hV : ∀ v ∈ varsP l, 0 ≤ v := fun v hv => by
    obtain ⟨p, _, hv⟩ := List.mem_flatMap.1 hv
    rcases List.mem_append.1 hv with hv | hv <;> exact vs_nonneg _ v hv
  have hsub : ∀ p ∈ l, (∀ u ∈ p.1.vs, u ∈ varsP l) ∧ ∀ u ∈ p.2.vs, u ∈ varsP l := fun p hp => ⟨fun u hu => List.mem_flatMap.2 ⟨p, hp, List.mem_append_left _ hu⟩, fun u hu => List.mem_flatMap.2 ⟨p, hp, List.mem_append_right _ hu⟩⟩
  have h0 : Mgu (imgB []) [] := Mgu.nil
  obtain ⟨n, r, e, g1, g2⟩ := allR_spec hV l [] [] h0 (fun b hb => by cases hb) (fun b hb => by cases hb) hsub
  rw [List.nil_append] at g1 g2
  have hE : arA (subsP l) ≤ 60 := by
    have := subs_ar l fun p hp => ⟨(ht p hp).1.2, (ht p hp).2.2⟩
    omega
  have hvl := varsP_len l ht
  have hmid0 : MidU (varsP l) (subsP l) 64 [] ([] ++ []) := ⟨h0, (fun b hb => by cases hb), (fun b hb => by cases hb), (fun v hv hf => by exfalso; apply hf; show (varT v).f < 0; rw [varT_f]; omega), by
    have : frN (varsP l) [] ≤ (varsP l).length := filt_len _
    show 0 + _ ≤ 64
    omega, fun b hb => by cases hb⟩
  obtain ⟨c1, c2⟩ := rUs_mid (V := varsP l) (S := subsP l) (K := 64) (E := []) hV (rU_mid hV (subs_shut l) (by decide) hE n) l [] [] hmid0 (fun b hb => by cases hb) fun p hp => by
    obtain ⟨s1, s2⟩ := subs_has hp
    exact ⟨fun s1' F1 h1 => ⟨⟨(hsub p hp).1, p.1, s1, rfl⟩, ⟨(hsub p hp).2, p.2, s2, rfl⟩⟩, (ht p hp).1.1, (ht p hp).2.1⟩
  refine ⟨r, g1, fun s hs => ?_⟩
  obtain ⟨k1, k2, k3⟩ := g2 s hs
  rw [hs] at e
  exact ⟨k1, k2, (c2 s e).1.orig⟩
theorem big_18 {s E : Nat} (hE : E ≤ 18) (h : Big E s) : s ≤ 2955 := by
  have h := h.up hE
  unfold Big at h
  have e1 : (2 : Nat) ^ 18 = 262144 := by decide
  have e2 : (3 : Nat) ^ 18 = 387420489 := by decide
  rw [e1, e2] at h
  omega
theorem mg_img {a b : Tm} (ha : a.ten) (hb : b.ten) {v : Int} (hv : 0 ≤ v) : (imgB (mgT a b).1 v).size ≤ 2955 := by
  have hT := mg_told ha hb
  have hvar : ∀ u : Tm, u.f < 0 → u.size ≤ 2955 := fun u hu => by rw [Tm.size_var hu]; omega
  cases h2 : (mgT a b).2 with
  | false =>
    rw [(hT.no h2).1]
    exact hvar _ (by show (varT v).f < 0; rw [varT_f]; omega)
  | true =>
    have hm := hT.yes h2
    obtain ⟨r, g1, g2⟩ := all_orig [(a, b)] (by simp) (ten_tiny ha hb)
    cases r with
    | none => exact absurd hm.uni (g1 rfl _)
    | some s =>
      obtain ⟨k1, k2, k3⟩ := g2 s rfl
      rw [k1.one hm hv]
      by_cases hf : (imgB s v).f < 0
      · exact hvar _ hf
      · obtain ⟨q, hq, _, e⟩ := k3 v hv hf
        rw [← e]
        refine big_18 ?_ (hits_big (subs_shut _) k3 (fun v _ => bare_img k2 v) ⟨q, hq, rfl⟩)
        have e1 : subsP [(a, b)] = (a.flat ++ b.flat) ++ [] := rfl
        have e2 := arA_flat a
        have e3 := arA_flat b
        have e4 := ha.2
        have e5 := hb.2
        rw [e1, List.append_nil, arA_app]
        omega
theorem rep_big {σ : Int → Tm} {M : Nat} (hM : 1 ≤ M) (h : ∀ v, 0 ≤ v → (σ v).size ≤ M) (t : Tm) : (repT σ t).size ≤ M * t.size := by
  induction t using Tm.indp with
  | h t ih =>
    by_cases hf : t.f < 0
    · rw [repT_var hf, Tm.strip_size, Tm.size_var hf, Nat.mul_one]
      exact h _ (by omega)
    · have e1 : (repT σ t).size = 1 + ((t.l.map (repT σ)).map Tm.size).sum := by rw [repT_sym hf]; exact Tm.size_sym (t := ⟨t.f, t.l.map (repT σ)⟩) hf
      have e2 : t.size = 1 + (t.l.map Tm.size).sum := Tm.size_sym hf
      have hps : t.ps = t.l := Tm.ps_of_sym (by omega)
      rw [hps] at ih
      have : ∀ L : List Tm, (∀ s ∈ L, (repT σ s).size ≤ M * s.size) → ((L.map (repT σ)).map Tm.size).sum ≤ M * (L.map Tm.size).sum := fun L => by
        induction L with
        | nil => intro _; simp
        | cons x L ihL =>
          intro g
          rw [List.map_cons, List.map_cons, List.map_cons, List.sum_cons, List.sum_cons, Nat.mul_add]
          have a1 := g x (by simp)
          have a2 := ihL fun s hs => g s (List.mem_cons_of_mem _ hs)
          omega
      have h3 := this t.l ih
      rw [e1, e2, Nat.mul_add, Nat.mul_one]
      omega
noncomputable def mgS (a b : Tm) : Int → Tm := imgB (mgT a b).1
def offL (c : List Lt) (n : Nat) : List Lt := c.take n ++ c.drop (n + 1)
theorem offL_mem {c : List Lt} {n : Nat} {l : Lt} (h : l ∈ offL c n) : l ∈ c := by
  rcases List.mem_append.1 h with h | h
  · exact List.mem_of_mem_take h
  · exact List.mem_of_mem_drop h
theorem offL_len {c : List Lt} {n : Nat} (h : n < c.length) : (offL c n).length + 1 = c.length := by
  unfold offL
  rw [List.length_append, List.length_take, List.length_drop]
  omega
noncomputable def leadB (a b : Tm) : Bool := decide (kb a b = 1 ∨ kb a b = 2)
end Go.Proofs.YteegmcfobgpemaaGreat
namespace Go.Proofs.YteegmcfobgpemaaGreat
open Go.RowKit Go.MapKept Go.Shelf
set_option linter.unusedVariables false
set_option linter.unusedSimpArgs false
attribute [local go_sem] Oper.semAt_some
end Go.Proofs.YteegmcfobgpemaaGreat
namespace Go.Proofs.YteegmcfobgpemaaGreat
open Go.RowKit
set_option linter.unusedVariables false
set_option linter.unusedSimpArgs false
theorem info_lit : (Tryz.prog.info? 43).map (fun i => (i.zero, i.size, i.bytes)) = some (some (.agg #[.bool false, .int .i64 0, .slice none 0 0, .int .i64 0, .slice none 0 0]), 5, 72) := by kernel_rfl

set_option maxRecDepth 100000 in
set_option maxHeartbeats 400000 in
theorem growL_any (n : Nat) (hn : n ≤ 2199023255552) (w : World) :
    Calls Tryz.prog 132 #[.slice none 0 0, .int .i64 (n : Int)] w fun e w' => ∃ v, e = .returned v ∧ w'.ownsRow w.heap.size 43 5 v 0 [] ∧ Below w.heap.size w w' := by
  obtain ⟨i, hi1, hi2, hi3, hi4⟩ := info_parts info_lit
  rcases Nat.eq_zero_or_pos n with rfl | h0
  · go_enter Tryz.func132, Tryz.ntmps132
    go_wp2
    go_ret
    exact ⟨_, rfl, World.ownsRow_nil _ _ _ _, bW _⟩
  · have hr := Lib.run_append_nil_zeros (P := Tryz.prog) w 26 3 26 43 i (.agg #[.bool false, .int .i64 0, .slice none 0 0, .int .i64 0, .slice none 0 0]) .i64 .i64 Tryz.underlying26 Tryz.underlying3 hi1 hi2 n h0 (by rw [hi3]; omega) (by omega) (by rw [hi4]; omega)
    go_enter Tryz.func132, Tryz.ntmps132
    go_wp2_with (at_builtin; refine Lib.wpList_append_run _ rfl _ _ _ _ rfl _ _ rfl rfl _ _ hr ?_)
    go_wp2
    go_ret
    refine ⟨_, rfl, World.ownsRow_made w.drew _ _ (Nat.le_refl _) (grownCap_le_maxLen _ _ _ _ (by unfold maxLen; omega)) ?_, (Below.refl _ _).drew.alloc (Nat.le_refl _) _⟩
    have := grownCap_ge w n 0 43
    simp [size_zeroCells]
    try omega

set_option maxRecDepth 100000 in
set_option maxHeartbeats 800000 in
theorem concatL_any (a : Option Addr) (m c : Nat) (A : Nat → Option Addr) (L C : Nat → Nat) (R : Nat → List Value) (w : World) (hr : Rw 5 w a m A L C R) (hm : m ≤ 1000) (hs : lenJ L m ≤ 1099511627776) :
    Calls Tryz.prog 95 #[.slice a m c] w fun e w' => ∃ v, e = .returned v ∧ w'.ownsRow w.heap.size 43 5 v (lenJ L m) (joinV R m) ∧ Below w.heap.size w w' := by
  obtain ⟨J, hJ⟩ : ∃ J : Nat → List Value, J = joinV R := ⟨_, rfl⟩
  obtain ⟨N, hN⟩ : ∃ N : Nat → Nat, N = lenJ L := ⟨_, rfl⟩
  have HS : Hid (∀ k, J (k + 1) = J k ++ R k) := fun k => by rw [hJ]; rfl
  have HSN : Hid (∀ k, N (k + 1) = N k + L k) := fun k => by rw [hN]; rfl
  have HJ0 : Hid (J 0 = [] ∧ N 0 = 0) := by rw [hJ, hN]; exact ⟨rfl, rfl⟩
  have HL : Hid (∀ k, k ≤ m → N k ≤ 1099511627776) := fun k hk => by rw [hN]; exact Nat.le_trans (lenJ_le L hk) hs
  have HR : Hid (∀ B w', Below B w w' → w.heap.size ≤ B → Rw 5 w' a m A L C R) := fun B w' hb hB => hr.below hb hB
  have HR0 : Hid (Rw 5 w a m A L C R) := hr
  rw [← hJ, ← hN]
  clear hJ hs hr hN
  go_enter Tryz.func95, Tryz.ntmps95
  go_wp2
  go_loop [3, 11] (fun s i => ∃ k x : Nat, i = .int .i64 (k : Int) ∧ k ≤ m ∧ s = .int .i64 (x : Int) ∧ x = N k) (fun s i => m - (intOf i).toNat)
  case atStart => exact ⟨0, 0, rfl, by omega, rfl, by rw [HJ0.out.2]⟩
  case round =>
    obtain ⟨k, x, rfl, hk, rfl, hx⟩ := hrel
    have HX : Hid (x = N k) := hx
    have hx1 : x ≤ 1099511627776 := by rw [hx]; exact HL.out k hk
    clear hx
    by_cases hlt : k < m
    · rcases HR0.out.2 with h0 | ⟨b, off, rfl, hb, hc⟩
      · omega
      have hck := hc k hlt
      have HXX : Hid (x + L k = N (k + 1)) := by show x + L k = _; rw [HSN.out k, ← HX.out]
      have hx2 : x + L k ≤ 1099511627776 := by rw [HXX.out]; exact HL.out (k + 1) hlt
      obtain ⟨Lk, hLk⟩ : ∃ y, L k = y := ⟨_, rfl⟩
      obtain ⟨Ak, hAk⟩ : ∃ y, A k = y := ⟨_, rfl⟩
      obtain ⟨Ck, hCk⟩ : ∃ y, C k = y := ⟨_, rfl⟩
      rw [hLk] at HXX hx2
      rw [hLk, hAk, hCk] at hck
      clear hLk hAk hCk hc
      go_wp2
      refine ⟨⟨k + 1, x + Lk, by go_num, by omega, by go_num, HXX.out⟩, ?_⟩
      simp [intOf]; omega
    · obtain rfl : k = m := by omega
      go_wp2_with fail
      refine (growL_any x (by omega) w).mono ?_
      rintro e w1 ⟨v1, rfl, ho1, hb1⟩
      go_wp2
      go_loopw [6, 27] (fun u i wr => ∃ j : Nat, i = .int .i64 (j : Int) ∧ j ≤ k ∧ wr.ownsRow w.heap.size 43 5 u (N j) (J j) ∧ Below w.heap.size w wr) (fun _ i _ => k - (intOf i).toNat)
      case atStart => exact ⟨0, rfl, by omega, by rw [HJ0.out.1, HJ0.out.2]; exact ho1, hb1⟩
      case round =>
        obtain ⟨j, rfl, hj, hoj, hbj⟩ := hrel
        by_cases hlt : j < k
        · obtain ⟨hn1, hbs, hRl, hone⟩ := (HR.out _ _ hbj (Nat.le_refl _)).1 j hlt
          rcases (HR.out _ _ hbj (Nat.le_refl _)).2 with h0 | ⟨b, off, rfl, hb, hc⟩
          · omega
          have hck := hc j hlt
          have hJl : N j + L j ≤ 1099511627776 := by
            have := HL.out (j + 1) hlt
            rw [HSN.out j] at this
            exact this
          have HSj' : Hid (J (j + 1) = J j ++ R j ∧ N (j + 1) = N j + L j) := ⟨HS.out j, HSN.out j⟩
          obtain ⟨Lk, hLk⟩ : ∃ y, L j = y := ⟨_, rfl⟩
          obtain ⟨Ak, hAk⟩ : ∃ y, A j = y := ⟨_, rfl⟩
          obtain ⟨Ck, hCk⟩ : ∃ y, C j = y := ⟨_, rfl⟩
          obtain ⟨Rk, hRk⟩ : ∃ y, R j = y := ⟨_, rfl⟩
          obtain ⟨Jk, hJk⟩ : ∃ y, J j = y := ⟨_, rfl⟩
          obtain ⟨Nk, hNk⟩ : ∃ y, N j = y := ⟨_, rfl⟩
          rw [hAk, hRk] at hbs
          rw [hRk] at hone
          rw [hLk, hRk] at hRl
          rw [hLk, hAk, hCk] at hck
          rw [hLk, hAk, hCk] at hn1
          rw [hJk, hRk, hNk, hLk] at HSj'
          rw [hJk, hNk] at hoj
          rw [hNk, hLk] at hJl
          have hsz := hbj.size
          have HRl := hid hRl
          clear hLk hAk hCk hRk hJk hNk hc hRl
          go_wp2_with (at_builtin; refine wpList_append_cells _ rfl _ _ 26 rfl w.heap.size 43 (.agg #[.bool false, .int .i64 0, .slice none 0 0, .int .i64 0, .slice none 0 0]) 5 72 Tryz.underlying26 info_lit rfl (by decide) _ Nk Jk rfl hoj Ak Lk Ck Rk rfl hn1 hbs HRl.out hone ?d1 ?d2 hsz ?_)
          case d1 => unfold maxLen; omega
          case d2 => omega
          intro v2 w2 ho2 hg2
          have hb2 := hbj.trans (below_grown hoj hg2 hsz)
          clear hg2
          go_wp2
          go_roundw
          case rel => exact ⟨j + 1, by go_num, hlt, by rw [HSj'.out.1, HSj'.out.2]; exact ho2, hb2⟩
          case measure => simp [intOf]; omega
        · obtain rfl : j = k := by omega
          go_wp2
          go_ret
          exact ⟨_, rfl, hoj, hbj⟩

set_option maxRecDepth 100000
theorem sq_rowsL {U : Nat → Nat → Prop} {w : World} : ∀ {l : List (List Lt)} {ys : List Value}, Sq ((l.map fun x => CV.lst (x.map Lt.cv)).map fun c => Rep U w c) ys →
    ∃ (A : Nat → Option Addr) (L C : Nat → Nat) (R : Nat → List Value), ∀ r x, l[r]? = some x → ys[r]? = some (.slice (A r) (L r) (C r)) ∧ L r = x.length ∧ (A r = none → L r = 0 ∧ C r = 0) ∧ At U w (A r) (R r) ∧ Sq ((x.map Lt.cv).map fun c => Rep U w c) (R r)
  | [], ys, h => ⟨fun _ => none, fun _ => 0, fun _ => 0, fun _ => [], fun r x hx => by simp at hx⟩
  | x :: l, ys, h => by
    obtain ⟨y1, y2, rfl, h1, h2⟩ := h
    obtain ⟨a, n, c, rfl, g1, g2, g3, g4, zs, g5, g6⟩ := rep_lst.1 h1
    obtain ⟨A, L, C, R, hR⟩ := sq_rowsL (l := l) h2
    refine ⟨fun r => match r with | 0 => a | r + 1 => A r, fun r => match r with | 0 => n | r + 1 => L r, fun r => match r with | 0 => c | r + 1 => C r, fun r => match r with | 0 => zs | r + 1 => R r, fun r y hy => ?_⟩
    cases r with
    | zero =>
      simp at hy
      subst hy
      exact ⟨rfl, by rw [g1, List.length_map], g4, g5, g6⟩
    | succ r =>
      simp at hy
      exact hR r y hy
theorem sq_joinedL {U : Nat → Nat → Prop} {w : World} {l : List (List Lt)} {L : Nat → Nat} {R : Nat → List Value} (h : ∀ r x, l[r]? = some x → L r = x.length ∧ Sq ((x.map Lt.cv).map fun c => Rep U w c) (R r)) :
    ∀ k, k ≤ l.length → Sq (((l.take k).flatten.map Lt.cv).map fun c => Rep U w c) (joinV R k) ∧ lenJ L k = (l.take k).flatten.length := by
  intro k
  induction k with
  | zero => intro _; exact ⟨rfl, rfl⟩
  | succ k ih =>
    intro hk
    obtain ⟨h1, h2⟩ := ih (by omega)
    obtain ⟨x, hx⟩ : ∃ x, l[k]? = some x := ⟨l[k], List.getElem?_eq_getElem (by omega)⟩
    obtain ⟨h3, h4⟩ := h k x hx
    rw [List.take_add_one, hx, List.flatten_append, joinV, lenJ, List.map_append, List.map_append, List.length_append, h2, h3]
    simp only [Option.toList_some, List.flatten_cons, List.flatten_nil, List.append_nil]
    exact ⟨sq_append h1 h4, trivial⟩
theorem concatL_abs (W : World) (l : List (List Lt)) (hl : l.length ≤ 1000) (hs : l.flatten.length ≤ 1099511627776) : AFun Tryz.prog W 95 [.lst (l.map fun x => CV.lst (x.map Lt.cv))] (.val (.lst (l.flatten.map Lt.cv))) := by
  refine ⟨ent_of Tryz.func95 rfl rfl, .inl rfl, rfl, ?_⟩
  rintro U w vs hW ⟨u1, us1, rfl, h1, h3⟩
  have h3 : us1 = [] := h3
  subst h3
  obtain ⟨a, n, c, rfl, g1, g2, g3, g4, ys, g5, g6⟩ := vrep_lst.1 h1
  rw [List.length_map] at g1
  subst g1
  obtain ⟨A, L, C, R, hR⟩ := sq_rowsL g6
  obtain ⟨hj, hn⟩ := sq_joinedL (fun r x hx => ⟨(hR r x hx).2.1, (hR r x hx).2.2.2.2⟩) l.length (Nat.le_refl _)
  rw [List.take_length] at hj hn
  have hrw : Rw 5 w a l.length A L C R := by
    refine ⟨fun r hr => ?_, ?_⟩
    · obtain ⟨k1, k2, k3, k4, k5⟩ := hR r _ (List.getElem?_eq_getElem hr)
      refine ⟨k3, cs_of_at k4, ?_, rep_one_of k5⟩
      rw [sq_len (n := fun _ => 5) (fun c hc xs hx => by
        obtain ⟨t, ht, rfl⟩ := List.mem_map.1 hc
        rw [hx.len]
        exact Lt.size_all [t] _ (by simp)) k5, k2]
      rw [List.map_const', List.sum_replicate_nat]
      simp
    · by_cases hz : l.length = 0
      · exact .inl hz
      · refine .inr ?_
        have hc := cs_of_at g5
        have hy0 := (hR 0 _ (List.getElem?_eq_getElem (by omega : 0 < l.length))).1
        rcases hc with hc | ⟨b, off, ha, hb, hc⟩
        · rw [hc] at hy0; simp at hy0
        · refine ⟨b, off, ha, hb, fun r hr => ?_⟩
          have hy := (hR r _ (List.getElem?_eq_getElem hr)).1
          have hlt : r < ys.length := by
            rcases Nat.lt_or_ge r ys.length with h | h
            · exact h
            · rw [List.getElem?_eq_none h] at hy; cases hy
          rw [hc r hlt, hy]
  refine (concatL_any a l.length c A L C R w hrw hl (by rw [hn]; exact hs)).mono ?_
  rintro e w' ⟨v, rfl, ho, hb⟩
  obtain ⟨a', c', rfl, k1, k2, k3, k4⟩ := ownsRow_at ho
  refine ⟨_, rfl, vrep_lst.2 ⟨a', _, c', rfl, by rw [hn, List.length_map], k1, k2, k3, _, k4.keep fun b o v h1 h2 => ⟨.inr h1, h2⟩, hj.keep fun b o v h1 h2 => ⟨.inl h1, ?_⟩⟩, hb⟩
  rw [hb.cell (World.block_lt_of_cell? w _ h2)]
  exact h2
end Go.Proofs.YteegmcfobgpemaaGreat
namespace Go.Proofs.YteegmcfobgpemaaGreat
open Go.RowKit
set_option linter.unusedVariables false
set_option linter.unusedSimpArgs false
set_option maxRecDepth 100000

end Go.Proofs.YteegmcfobgpemaaGreat
namespace Go.Proofs.YteegmcfobgpemaaGreat
open Go.RowKit
set_option linter.unusedVariables false
set_option linter.unusedSimpArgs false
def catO : List (Option (List Value)) → Option (List Value)
  | [] => some []
  | none :: _ => none
  | some x :: r => match catO r with | some y => some (x ++ y) | none => none
def plS (k : Nat) (v : Value) (l : List CV) (r : Option (List Value)) : Option (List Value) := match k, v, l with
  | 0, v, [] => match plainV v, isNil v with | true, false => some [v] | _, _ => none
  | 1, .nilFunc, [] => some [.slice none 0 0]
  | 2, .nilFunc, _ => r
  | _, _, _ => none
def plC : Nat → CV → Option (List Value)
  | 0, _ => none
  | n + 1, ⟨k, v, l⟩ => plS k v l (catO (l.map (plC n)))
theorem catO_spec {U : Nat → Nat → Prop} {w : World} {n : Nat} (ih : ∀ c vs, plC n c = some vs → Rep U w c vs ∧ vs.length = c.size) : ∀ {zs : List CV} {vs : List Value}, catO (zs.map (plC n)) = some vs → ∃ segs : List (List Value), segs.flatten = vs ∧ segs.map List.length = zs.map CV.size ∧ zs.length = segs.length ∧ ∀ (i : Nat) (c : CV), zs[i]? = some c → ∃ seg, segs[i]? = some seg ∧ Rep U w c seg
  | [], vs, h => by
    simp [catO] at h
    subst h
    exact ⟨[], rfl, rfl, rfl, fun i c hi => by simp at hi⟩
  | z :: zs, vs, h => by
    rw [List.map_cons] at h
    cases hz : plC n z with
    | none => rw [hz] at h; simp [catO] at h
    | some x =>
      rw [hz] at h
      unfold catO at h
      split at h
      · rename_i y hy
        cases h
        obtain ⟨segs, a1, a2, a3, a4⟩ := catO_spec ih hy
        obtain ⟨b1, b2⟩ := ih z x hz
        refine ⟨x :: segs, by simp [a1], by simp [a2, b2], by simp [a3], fun i c hi => ?_⟩
        cases i with
        | zero => simp at hi; subst hi; exact ⟨x, rfl, b1⟩
        | succ i => obtain ⟨seg, c1, c2⟩ := a4 i c (by simpa using hi); exact ⟨seg, by simpa using c1, c2⟩
      · cases h
theorem plC_spec {U : Nat → Nat → Prop} {w : World} : ∀ (n : Nat) (c : CV) (vs : List Value), plC n c = some vs → Rep U w c vs ∧ vs.length = c.size
  | 0, c, vs, h => by cases h
  | n + 1, ⟨k, v, l⟩, vs, h => by
    rw [plC] at h
    unfold plS at h
    split at h
    · split at h
      · rename_i h1 h2
        cases h
        exact ⟨(rep_cell h1).2 h2, rfl⟩
      · cases h
    · cases h
      exact ⟨rep_nil U w, rfl⟩
    · obtain ⟨segs, a1, a2, a3, a4⟩ := catO_spec (fun c vs h => plC_spec (U := U) (w := w) n c vs h) h
      refine ⟨?_, ?_⟩
      · show Rep U w (.row l) vs
        rw [rep_row, ← a1]
        exact sq_of_segs a3 a4
      · rw [CV.size_mk, if_pos rfl, ← a1, List.length_flatten, a2]
    · cases h

section
variable {P : Program} {w0 : World} {U0 : UX} {nt : Nat} {ops : Array Oper} {o : Oper} {S : Nat → Option AV} {gs : List Nat} {d : Nat}
theorem a_allocT (zs : List CV) (hg : Gd w0 U0 nt ops o gs S) (hd : o.dst = some d) (hn : Nat.blt d nt = true) (h5 : Nat.blt d 100000 = true) {ty : TypeId} {it : TypeInfo} {cs : Array Value} (ho : o.op = .alloc ty) (hi : P.info? ty = some it) (hz : it.zero = some (.agg cs)) (h0 : plC 6 (.row zs) = some cs.toList) : AOp P w0 U0 nt ops o gs [(d, [])] S [(d, .bp d 0 []), (100000 + d, .bx (.row zs))] := by
  intro s hs hN a w ⟨D, hv, h⟩ Q K hK
  rw [if_pos (hg s hs a w D hv h)]
  have hrep : Rep (Us w0 U0 D) w (.row zs) cs.toList := (plC_spec 6 _ _ h0).1
  have he : (execOp a.eval o).run P w = .ok (.value (.pointer (some ⟨w.heap.size, 0, none⟩))) (w.alloc (.cells cs ty)) := by
    simp [execOp, ho, Instr.alloc, zeroValue, typeInfo, hi, hz, run_newVar, Value.cells]
  unfold Oper.wp
  rw [he, Oper.upon_value, hd]
  have := h.newbox (d := d) (av := .bx (.row zs)) (hN (d, []) (by simp)).nr (bL hn) (bL h5) (.inl rfl) ty (fun _ => hrep) (fun _ hl => absurd hl not_live0)
  rw [Array.toArray_toList] at this
  exact hK _ _ ⟨_, _, this⟩
theorem a_buildT (zs : List CV) (hg : Gd w0 U0 nt ops o gs S) (hd : o.dst = some d) (hn : Nat.blt d nt = true) (h5 : Nat.blt d 100000 = true) {t : TypeId} {parts : Array (Nat × Operand)} {fs : Array Field} {it : TypeInfo} {cs : Array Value} {sz : List Nat} {r : List CV} (ho : o.op = .build t parts) (hu : P.underlying t = some (.struct fs)) (hi : P.info? t = some it) (hz : it.zero = some (.agg cs)) (hsz : szO P fs.toList 0 = some sz) (hzz : zs.map CV.size = sz) (h0 : catO (zs.map (plC 6)) = some cs.toList) (hr : setsO S parts.toList zs = some r) :
    AOp P w0 U0 nt ops o (gs ++ rds parts.toList) [] S [(d, .val (.row r))] :=
  aop_val hg hd hn h5 (fun k hk => List.mem_append_left _ hk) fun s hs a w D hv hm => by
    obtain ⟨segs, e1, e2, e4, e5⟩ := catO_spec (U := Us w0 U0 D) (w := w) (plC_spec 6) h0
    obtain ⟨g1, g2⟩ := setsO_spec (U := Us w0 U0 D) (w := w) (ρ := a.eval) (segs := segs) hr (fun x hx c n q p hev => ev_val hm (fun k hk => hs k (List.mem_append_right _ (mem_rds hx k hk))) hev) e4 e2 e5
    obtain ⟨pl, h1, h2⟩ := szO_spec hsz
    have hfill := fill_segs (place := fun i => pl.toArray[i]?) sz (fun i z hz => by rw [List.getElem?_toArray, h2 i z hz, Nat.zero_add]) (parts.toList.map fun x => (x.1, a.eval x.2)) segs cs e1.symm (by rw [e2, hzz]) (fun x hx => by rw [← hzz]; exact g1 x hx)
    refine ⟨.agg (setAll segs (parts.toList.map fun x => (x.1, a.eval x.2))).flatten.toArray, ?_, avrep_val (vrep_row.2 ⟨_, rfl, g2⟩)⟩
    have hb : P.built t (parts.map fun x => (x.1, a.eval x.2)).toList = some (setAll segs (parts.toList.map fun x => (x.1, a.eval x.2))).flatten.toArray := by
      unfold Program.built
      rw [hi, hu]
      simp only [hz, h1]
      rw [Array.toList_map]
      exact hfill
    have := run_build w t _ _ hb
    generalize a.eval = ρ at this ⊢
    simp [execOp, ho, this]
end
end Go.Proofs.YteegmcfobgpemaaGreat
namespace Go.Proofs.YteegmcfobgpemaaGreat
open Go.RowKit
set_option linter.unusedVariables false
set_option linter.unusedSimpArgs false
set_option maxRecDepth 100000
theorem isNaN8_any (x : Int) (w : World) :
    Calls Tryz.prog 135 #[.int .u8 x] w fun e w' => e = .returned (.bool false) ∧ w' = w := by
  go_enter Tryz.func135, Tryz.ntmps135
  go_wp2
  go_ret
  exact ⟨by simp, rfl⟩

set_option maxHeartbeats 400000 in
theorem cmpByte_any (x y : Int) (w : World) :
    Calls Tryz.prog 100 #[.int .u8 x, .int .u8 y] w fun e w' => e = .returned (.int .i64 (cmpZ x y)) ∧ Below w.heap.size w w' := by
  rcases Int.lt_trichotomy x y with h | h | h
  · have h2 : cmpZ x y = -1 := if_pos h
    rw [h2]
    clear h2
    go_enter Tryz.func100, Tryz.ntmps100
    go_wp2_with (go_at_call 135; refine (isNaN8_any _ _).mono ?_; rintro e w1 ⟨rfl, rfl⟩)
    go_ret
    exact ⟨rfl, bW _⟩
  · subst h
    have h2 : cmpZ x x = 0 := by simp [cmpZ]
    rw [h2]
    clear h2
    go_enter Tryz.func100, Tryz.ntmps100
    go_wp2_with (go_at_call 135; refine (isNaN8_any _ _).mono ?_; rintro e w1 ⟨rfl, rfl⟩)
    go_ret
    exact ⟨rfl, bW _⟩
  · have h2 : cmpZ x y = 1 := by unfold cmpZ; rw [if_neg (by omega), if_pos h]
    rw [h2]
    clear h2
    go_enter Tryz.func100, Tryz.ntmps100
    go_wp2_with (go_at_call 135; refine (isNaN8_any _ _).mono ?_; rintro e w1 ⟨rfl, rfl⟩)
    go_ret
    exact ⟨rfl, bW _⟩


theorem cmp8_abs (W : World) (x y : Int) : AFun Tryz.prog W 100 [by8 x, by8 y] (.val (.i (cmpZ x y))) := by
  refine ⟨ent_of Tryz.func100 rfl rfl, .inl rfl, rfl, ?_⟩
  rintro U w vs hW ⟨u1, us1, rfl, h1, u2, us2, rfl, h2, h3⟩
  have h3 : us2 = [] := h3
  subst h3
  obtain ⟨rfl, _⟩ := vrep_sc.1 h1
  obtain ⟨rfl, _⟩ := vrep_sc.1 h2
  refine (cmpByte_any x y w).mono ?_
  rintro e w' ⟨rfl, hb⟩
  exact ⟨_, rfl, vrep_sc.2 ⟨rfl, rfl⟩, hb⟩
-- 
theorem cCmpL_abs (W : World) (x y : Lt) (hx : x.rng) (hy : y.rng) : AFun Tryz.prog W 74 [x.cw, y.cw] (.val (.i (cmpLt x y))) := by
  refine afun_of (rs := [.i (cmpLt x y)]) Tryz.func74 Tryz.ntmps74 rfl rfl rfl rfl ?_
  intro w U hW
  refine aS (aR ?_)
  (refine nx (a_box (gN rfl) rfl rfl rfl rfl rfl) rfl ?_)
  (refine nx (a_box (gN rfl) rfl rfl rfl rfl rfl) rfl ?_)
  (refine nx (aA (gN rfl) rfl rfl rfl rfl rfl) rfl ?_)
  show AWp _ _ _ _ _ _ _
  refine aS (aS (aD (by kernel_rfl) (by kernel_rfl) ?_))
  (refine nx (aL (gN rfl) rfl rfl rfl rfl rfl rfl rfl rfl rfl rfl rfl rfl) rfl ?_)
  (refine nx (a_call (gN rfl) rfl rfl rfl rfl rfl (cSign_abs w x)) rfl ?_)
  (refine nx (aL (gN rfl) rfl rfl rfl rfl rfl rfl rfl rfl rfl rfl rfl rfl) rfl ?_)
  (refine nx (a_call (gN rfl) rfl rfl rfl rfl rfl (cSign_abs w y)) rfl ?_)
  (refine nx (a_call (gN rfl) rfl rfl rfl rfl rfl (cmp8_abs w _ _)) rfl ?_)
  (refine nx (aA (gN rfl) rfl rfl rfl rfl rfl) rfl ?_)
  refine ⟨by kernel_rfl, ?_⟩
  show AWp _ _ _ _ _ _ _
  refine aS (aR ?_)
  (refine nx (aM (gN rfl) rfl rfl rfl rfl rfl) rfl ?_)
  (refine nx (a_neq (gN rfl) rfl rfl rfl rfl rfl rfl) rfl ?_)
  show AWp _ _ _ _ _ _ _
  refine aC rfl (fun hc => ?_) (fun hc => ?_)
  · have e : cmpLt x y = cmpZ (sgZ x.neg) (sgZ y.neg) := by unfold cmpLt; rw [if_pos]; exact of_decide_eq_true hc
    rw [e]
    refine aS (aR ?_)
    (refine nx (aM (gN rfl) rfl rfl rfl rfl rfl) rfl ?_)
    (refine nx (aA (gN rfl) rfl rfl rfl rfl rfl) rfl ?_)
    show AWp _ _ _ _ _ _ _
    exact aT (And.intro (.inr rfl) rfl)
  · have e : cmpLt x y = cmpS x y := by unfold cmpLt; rw [if_neg]; exact of_decide_eq_false hc
    rw [e]
    refine aK ?_
    show AWp _ _ _ _ _ _ _
    refine aS (aR ?_)
    (refine nx (aL (gN rfl) rfl rfl rfl rfl rfl rfl rfl rfl rfl rfl rfl rfl) rfl ?_)
    (refine nx (aL (gN rfl) rfl rfl rfl rfl rfl rfl rfl rfl rfl rfl rfl rfl) rfl ?_)
    (refine nx (a_call (gN rfl) rfl rfl rfl rfl rfl (cCmpS_abs w x y hx hy)) rfl ?_)
    (refine nx (aA (gN rfl) rfl rfl rfl rfl rfl) rfl ?_)
    show AWp _ _ _ _ _ _ _
    exact aT (And.intro (.inr rfl) rfl)
-- 
theorem cSameL_abs (W : World) (x y : Lt) (hx : x.rng) (hy : y.rng) : AFun Tryz.prog W 49 [x.cw, y.cw] (.val (.b (smL x y))) := by
  refine afun_of (rs := [.b (smL x y)]) Tryz.func49 Tryz.ntmps49 rfl rfl rfl rfl ?_
  intro w U hW
  refine aS (aR ?_)
  (refine nx (a_box (gN rfl) rfl rfl rfl rfl rfl) rfl ?_)
  (refine nx (a_box (gN rfl) rfl rfl rfl rfl rfl) rfl ?_)
  (refine nx (aA (gN rfl) rfl rfl rfl rfl rfl) rfl ?_)
  show AWp _ _ _ _ _ _ _
  refine aS (aR ?_)
  (refine nx (aL (gN rfl) rfl rfl rfl rfl rfl rfl rfl rfl rfl rfl rfl rfl) rfl ?_)
  (refine nx (aL (gN rfl) rfl rfl rfl rfl rfl rfl rfl rfl rfl rfl rfl rfl) rfl ?_)
  (refine nx (a_call (gN rfl) rfl rfl rfl rfl rfl (cCmpL_abs w x y hx hy)) rfl ?_)
  (refine nx (a_eql (gN rfl) rfl rfl rfl rfl rfl rfl) rfl ?_)
  (refine nx (aA (gN rfl) rfl rfl rfl rfl rfl) rfl ?_)
  show AWp _ _ _ _ _ _ _
  exact aT (And.intro (.inr rfl) rfl)
def eqF (p : Lt → Lt → Bool) : List Lt → List Lt → Bool
  | [], [] => true
  | x :: c, y :: d => p x y && eqF p c d
  | _, _ => false
theorem eqF_len {p : Lt → Lt → Bool} : ∀ {c d : List Lt}, c.length ≠ d.length → eqF p c d = false
  | [], [], h => absurd rfl h
  | [], _ :: _, _ => rfl
  | _ :: _, [], _ => rfl
  | x :: c, y :: d, h => by rw [eqF, eqF_len (c := c) (d := d) (by simpa using h), Bool.and_false]
theorem eqF_no {p : Lt → Lt → Bool} : ∀ {c d : List Lt} {k : Nat} {x y : Lt}, c[k]? = some x → d[k]? = some y → p x y = false → eqF p c d = false
  | [], _, k, _, _, h, _, _ => by simp at h
  | _ :: _, [], k, _, _, _, h, _ => by simp at h
  | a :: c, b :: d, 0, x, y, h1, h2, h => by
    simp at h1 h2
    subst h1 h2
    rw [eqF, h, Bool.false_and]
  | a :: c, b :: d, k + 1, x, y, h1, h2, h => by rw [eqF, eqF_no (c := c) (d := d) (k := k) (by simpa using h1) (by simpa using h2) h, Bool.and_false]
theorem eqF_yes {p : Lt → Lt → Bool} : ∀ {c d : List Lt}, c.length = d.length → (∀ (k : Nat) (x y : Lt), c[k]? = some x → d[k]? = some y → p x y = true) → eqF p c d = true
  | [], [], _, _ => rfl
  | [], _ :: _, h, _ => by simp at h
  | _ :: _, [], h, _ => by simp at h
  | x :: c, y :: d, h, hp => by
    rw [eqF, hp 0 x y rfl rfl, Bool.true_and]
    exact eqF_yes (by simpa using h) fun k a b h1 h2 => hp (k + 1) a b (by simpa using h1) (by simpa using h2)
theorem eqF_sign (c d : List Lt) : eqF (fun x y => x.neg == y.neg) c d = decide (c.map Lt.neg = d.map Lt.neg) := by
  induction c generalizing d with
  | nil => cases d <;> simp [eqF]
  | cons x c ih => cases d with
    | nil => simp [eqF]
    | cons y d => rw [eqF, ih, Bool.eq_iff_iff]; simp
theorem eqF_same (c d : List Lt) : eqF smL c d = sameC c d := by
  induction c generalizing d with
  | nil => cases d <;> rfl
  | cons x c ih => cases d with
    | nil => rfl
    | cons y d => rw [eqF, ih, smL_sameL]; rfl
-- 
theorem eqF_abs (W : World) (p : Lt → Lt → Bool) (fc : CV) (c d : List Lt) (hl : c.length ≤ 1000000) (hc : ∀ W, ∀ x ∈ c, ∀ y ∈ d, AFunW Tryz.prog W fc [x.cw, y.cw] (.val (.b (p x y)))) : AFun Tryz.prog W 48 [.lst (c.map Lt.cv), .lst (d.map Lt.cv), fc] (.val (.b (eqF p c d))) := by
  have hs1 := Lt.size_all c
  have hs2 := Lt.size_all d
  refine afun_of (rs := [.b (eqF p c d)]) Tryz.func48 Tryz.ntmps48 rfl rfl rfl rfl ?_
  intro w U hW
  refine aS (aR ?_)
  (refine nx (aA (gN rfl) rfl rfl rfl rfl rfl) rfl ?_)
  show AWp _ _ _ _ _ _ _
  refine aS (aS (aR ?_))
  (refine nx (aM (gN rfl) rfl rfl rfl rfl rfl) rfl ?_)
  (refine nx (a_len (gN rfl) rfl rfl rfl rfl rfl rfl rfl) rfl ?_)
  (refine nx (aM (gN rfl) rfl rfl rfl rfl rfl) rfl ?_)
  (refine nx (a_len (gN rfl) rfl rfl rfl rfl rfl rfl rfl) rfl ?_)
  (refine nx (a_neq (gN rfl) rfl rfl rfl rfl rfl rfl) rfl ?_)
  show AWp _ _ _ _ _ _ _
  refine aC rfl (fun h => ?_) (fun h => ?_)
  · have h := of_decide_eq_true h
    rw [List.length_map, List.length_map] at h
    rw [eqF_len (p := p) (c := c) (d := d) (by omega)]
    refine aS (aR ?_)
    (refine nx (aA (gN rfl) rfl rfl rfl rfl rfl) rfl ?_)
    show AWp _ _ _ _ _ _ _
    exact aT (And.intro (.inr rfl) rfl)
  have hll : c.length = d.length := by
    have := of_decide_eq_false h
    simp only [List.length_map, ne_eq, Decidable.not_not] at this
    omega
  refine aK ?_
  show AWp _ _ _ _ _ _ _
  refine aS (aS (aR ?_))
  (refine nx (aM (gN rfl) rfl rfl rfl rfl rfl) rfl ?_)
  (refine nx (a_len (gN rfl) rfl rfl rfl rfl rfl rfl rfl) rfl ?_)
  (refine nx (aM (gN rfl) rfl rfl rfl rfl rfl) rfl ?_)
  show AWp _ _ _ _ _ _ _
  refine aB (awp_countI c.length (fun k => ∀ (i : Nat) (x y : Lt), i < k → c[i]? = some x → d[i]? = some y → p x y = true) (fun k => [(1, .val (.lst (d.map Lt.cv))), (2, .val fc), (15, .val (.lst (c.map Lt.cv))), (16, .val (.i (c.map Lt.cv).length)), (17, .val (.i k))]) (wk_sub ⟨rfl, rfl, rfl, rfl, rfl, trivial⟩) (fun i _ _ hi => by omega) ?_)
  intro k hk hI
  refine aS (aR ?_)
  (refine nx (a_lss (gN rfl) rfl rfl rfl rfl rfl rfl) rfl ?_)
  show AWp _ _ _ _ _ _ _
  refine aS (aC rfl (fun hlt => ?_) (fun hlt => ?_))
  · have hkl : k < c.length := by simpa using hlt
    obtain ⟨x, hx⟩ : ∃ x, c[k]? = some x := ⟨c[k], List.getElem?_eq_getElem hkl⟩
    obtain ⟨y, hy⟩ : ∃ y, d[k]? = some y := ⟨d[k]'(by omega), List.getElem?_eq_getElem (by omega)⟩
    have hx' := Lt.map_at hx
    have hy' := Lt.map_at hy
    refine aK ?_
    show AWp _ _ _ _ _ _ _
    refine aS (aB (aS (aR ?_)))
    (refine nx (aM (gN rfl) rfl rfl rfl rfl rfl) rfl ?_)
    (refine nx (a_index (j := k) (gN rfl) rfl rfl rfl rfl rfl rfl rfl rfl rfl (hx') rfl (hs1)) rfl ?_)
    (refine nx (a_load_ad (gN rfl) rfl rfl rfl rfl rfl rfl rfl rfl rfl) rfl ?_)
    (refine nx (a_alloc (gN rfl) rfl rfl rfl rfl rfl rfl rfl rfl rfl rfl) rfl ?_)
    (refine nx (aA (gN rfl) rfl rfl rfl rfl rfl) rfl ?_)
    (refine nx (aSt (gN rfl) rfl rfl rfl rfl rfl rfl rfl rfl rfl rfl) rfl ?_)
    show AWp _ _ _ _ _ _ _
    refine aS (aR ?_)
    (refine nx (aM (gN rfl) rfl rfl rfl rfl rfl) rfl ?_)
    (refine nx (aM (gN rfl) rfl rfl rfl rfl rfl) rfl ?_)
    (refine nx (a_index (j := k) (gN rfl) rfl rfl rfl rfl rfl rfl rfl rfl rfl (hy') rfl (hs2)) rfl ?_)
    (refine nx (a_load_ad (gN rfl) rfl rfl rfl rfl rfl rfl rfl rfl rfl) rfl ?_)
    (refine nx (a_alloc (gN rfl) rfl rfl rfl rfl rfl rfl rfl rfl rfl rfl) rfl ?_)
    (refine nx (aSt (gN rfl) rfl rfl rfl rfl rfl rfl rfl rfl rfl rfl) rfl ?_)
    show AWp _ _ _ _ _ _ _
    refine aS (aR ?_)
    (refine nx (aM (gN rfl) rfl rfl rfl rfl rfl) rfl ?_)
    (refine nx (aL (gN rfl) rfl rfl rfl rfl rfl rfl rfl rfl rfl rfl rfl rfl) rfl ?_)
    (refine nx (aL (gN rfl) rfl rfl rfl rfl rfl rfl rfl rfl rfl rfl rfl rfl) rfl ?_)
    (refine nx (a_callw (gN rfl) rfl rfl rfl rfl rfl rfl (hc w x (List.mem_of_getElem? hx) y (List.mem_of_getElem? hy))) rfl ?_)
    (refine nx (a_not (gN rfl) rfl rfl rfl rfl rfl) rfl ?_)
    show AWp _ _ _ _ _ _ _
    refine aC rfl (fun hq => ?_) (fun hq => ?_)
    · rw [eqF_no hx hy (by simpa using hq)]
      refine aS (aR ?_)
      (refine nx (aA (gN rfl) rfl rfl rfl rfl rfl) rfl ?_)
      show AWp _ _ _ _ _ _ _
      exact aT (And.intro (.inr rfl) rfl)
    · have hq : p x y = true := by simpa using hq
      refine aK ?_
      show AWp _ _ _ _ _ _ _
      refine aR ?_
      (refine nx (a_add (gN rfl) rfl rfl rfl rfl rfl rfl (by first | omega | (simp only [List.length_map, List.length_append, List.length_cons, List.length_nil] <;> omega) | (simp <;> omega))) rfl ?_)
      (refine nx (aM (gN rfl) rfl rfl rfl rfl rfl) rfl ?_)
      refine ⟨hkl, fun i a b hi h1 h2 => ?_, wk_sub ⟨rfl, rfl, rfl, rfl, rfl, trivial⟩⟩
      rcases Nat.lt_or_ge i k with h3 | h3
      · exact hI i a b h3 h1 h2
      · have : i = k := by omega
        subst this
        rw [hx] at h1
        rw [hy] at h2
        cases h1
        cases h2
        exact hq
  · have hkl : k = c.length := by
      have : ¬ k < c.length := by simpa using hlt
      omega
    subst hkl
    rw [eqF_yes hll fun i x y h1 h2 => hI i x y (by have := (List.getElem?_eq_some_iff.1 h1).1; omega) h1 h2]
    refine aE ?_
    show AWp _ _ _ _ _ _ _
    refine aS (aR ?_)
    (refine nx (aA (gN rfl) rfl rfl rfl rfl rfl) rfl ?_)
    show AWp _ _ _ _ _ _ _
    exact aT (And.intro (.inr rfl) rfl)
-- 
theorem cSame_abs (W : World) (c d : List Lt) (hl : c.length ≤ 1000000) (hc : ∀ l ∈ c, l.rng) (hd : ∀ l ∈ d, l.rng) : AFun Tryz.prog W 19 [.lst (c.map Lt.cv), .lst (d.map Lt.cv)] (.val (.b (sameC c d))) := by
  have h := fun w => eqF_abs w smL (.sc (.func (.func 49) #[] #[])) c d hl (fun W x hx y hy => .inr ⟨_, rfl, cSameL_abs W x y (hc x hx) (hd y hy)⟩)
  rw [eqF_same] at h
  refine afun_of (rs := [.b (sameC c d)]) Tryz.func19 Tryz.ntmps19 rfl rfl rfl rfl ?_
  intro w U hW
  refine aS (aR ?_)
  (refine nx (aA (gN rfl) rfl rfl rfl rfl rfl) rfl ?_)
  show AWp _ _ _ _ _ _ _
  refine aS (aR ?_)
  (refine nx (aM (gN rfl) rfl rfl rfl rfl rfl) rfl ?_)
  (refine nx (aM (gN rfl) rfl rfl rfl rfl rfl) rfl ?_)
  (refine nx (a_call (gN rfl) rfl rfl rfl rfl rfl (h w)) rfl ?_)
  (refine nx (aA (gN rfl) rfl rfl rfl rfl rfl) rfl ?_)
  show AWp _ _ _ _ _ _ _
  exact aT (And.intro (.inr rfl) rfl)
-- 
set_option maxHeartbeats 1000000 in
theorem variantM_abs (W : World) (a b : Tm) (ha : a.rng) (hb : b.rng) (hok : a.ok) (has : a.size ≤ 90000000000) (hbs : b.size ≤ 90000000000) (hnl : a.nv.length ≤ 1000000) (hnb : b.nv.length ≤ 1000000) : AFun Tryz.prog W 51 [a.cw, b.cw] (.val (.b (vntB a b))) := by
  refine afun_of (rs := [.b (vntB a b)]) Tryz.func51 Tryz.ntmps51 rfl rfl rfl rfl ?_
  intro w U hW
  have hV1 := vars_abs w ha (by omega)
  have hV2 := vars_abs w hb (by omega)
  rw [nv_vars] at hV1 hV2
  refine aS (aR ?_)
  (refine nx (a_box (gN rfl) rfl rfl rfl rfl rfl) rfl ?_)
  (refine nx (a_box (gN rfl) rfl rfl rfl rfl rfl) rfl ?_)
  (refine nx (aA (gN rfl) rfl rfl rfl rfl rfl) rfl ?_)
  show AWp _ _ _ _ _ _ _
  refine aS (aD (by kernel_rfl) (by kernel_rfl) ?_)
  (refine nx (aL (gN rfl) rfl rfl rfl rfl rfl rfl rfl rfl rfl rfl rfl rfl) rfl ?_)
  (refine nx (a_call (gN rfl) rfl rfl rfl rfl rfl (hV1)) rfl ?_)
  (refine nx (aL (gN rfl) rfl rfl rfl rfl rfl rfl rfl rfl rfl rfl rfl rfl) rfl ?_)
  (refine nx (a_call (gN rfl) rfl rfl rfl rfl rfl (hV2)) rfl ?_)
  (refine nx (aA (gN rfl) rfl rfl rfl rfl rfl) rfl ?_)
  (refine nx (aA (gN rfl) rfl rfl rfl rfl rfl) rfl ?_)
  refine ⟨by kernel_rfl, ?_⟩
  show AWp _ _ _ _ _ _ _
  have hur := nv_rng hb
  unfold vntB
  obtain ⟨l, hl⟩ : ∃ l, l = a.nv := ⟨_, rfl⟩
  obtain ⟨m, hm⟩ : ∃ m, m = b.nv := ⟨_, rfl⟩
  rw [← hl] at hnl ⊢
  rw [← hm] at hnb hur ⊢
  have hsz := ints_size l
  have hsm := ints_size m
  refine aS (aS (aR ?_))
  (refine nx (aM (gN rfl) rfl rfl rfl rfl rfl) rfl ?_)
  (refine nx (a_len (gN rfl) rfl rfl rfl rfl rfl rfl rfl) rfl ?_)
  (refine nx (aM (gN rfl) rfl rfl rfl rfl rfl) rfl ?_)
  (refine nx (a_len (gN rfl) rfl rfl rfl rfl rfl rfl rfl) rfl ?_)
  (refine nx (a_neq (gN rfl) rfl rfl rfl rfl rfl rfl) rfl ?_)
  show AWp _ _ _ _ _ _ _
  refine aC rfl (fun hc => ?_) (fun hc => aK ?_)
  · have hne : ¬ l.length = m.length := by
      simp only [List.length_map] at hc
      simp at hc
      omega
    rw [show decide (l.length = m.length) = false by simpa using hne, Bool.false_and]
    refine aS (aR ?_)
    (refine nx (aA (gN rfl) rfl rfl rfl rfl rfl) rfl ?_)
    show AWp _ _ _ _ _ _ _
    exact aT (And.intro (.inr rfl) rfl)
  have he : l.length = m.length := by
    simp only [List.length_map] at hc
    simp at hc
    omega
  clear hc
  rw [show decide (l.length = m.length) = true by simpa using he, Bool.true_and]
  obtain ⟨z, hz⟩ : ∃ z, z = zipB l m := ⟨_, rfl⟩
  have hzl : z.length = l.length := by rw [hz]; exact zip_len he
  have hzz := fun k => Bd.size_all (z.take k)
  have hzo : bdsOk z := fun x hx => by
    rw [hz] at hx
    obtain ⟨u, hu, e⟩ := zip_mem hx
    rw [e]
    exact ⟨varT_rng (hur u hu).1 (hur u hu).2, by rw [varT_size]; omega⟩
  rw [← hz]
  show AWp _ _ _ _ _ _ _
  refine aS (aR ?_)
  (refine nx (aA (gN rfl) rfl rfl rfl rfl rfl) rfl ?_)
  show AWp _ _ _ _ _ _ _
  refine aS (aS (aR ?_))
  (refine nx (aM (gN rfl) rfl rfl rfl rfl rfl) rfl ?_)
  (refine nx (a_len (gN rfl) rfl rfl rfl rfl rfl rfl rfl) rfl ?_)
  (refine nx (aM (gN rfl) rfl rfl rfl rfl rfl) rfl ?_)
  show AWp _ _ _ _ _ _ _
  refine aB (awp_count l.length (fun k => [(2, .bp 2 0 []), (100002, .bx a.cw), (3, .bp 3 0 []), (100003, .bx b.cw), (6, .val (.lst (m.map CV.i))), (7, .own (.lst ((z.take k).map Bd.cv)) 200035), (200035, .tok 112 3), (19, .val (.lst (l.map CV.i))), (20, .val (.i (l.map CV.i).length)), (21, .val (.i k))])
    ((wk_nil 7 200035 112 3 rfl rfl rfl rfl rfl rfl rfl).trans (wk_sub ⟨rfl, rfl, rfl, rfl, rfl, rfl, rfl, rfl, rfl, rfl, trivial⟩)) ?_)
  intro k hk
  refine aS (aR ?_)
  (refine nx (a_lss (gN rfl) rfl rfl rfl rfl rfl rfl) rfl ?_)
  show AWp _ _ _ _ _ _ _
  refine aS (aC rfl (fun hc => aK ?_) (fun hc => aE ?_))
  · have hkl : k < l.length := by
      simp only [List.length_map, decide_eq_true_eq] at hc
      omega
    clear hc
    obtain ⟨v, hv⟩ : ∃ v, l[k]? = some v := ⟨l[k], List.getElem?_eq_getElem hkl⟩
    obtain ⟨u, hu⟩ : ∃ u, m[k]? = some u := ⟨m[k], List.getElem?_eq_getElem (by omega)⟩
    have hv' := ints_at hv
    have hu' := ints_at hu
    have hub := hur u (List.mem_of_getElem? hu)
    have hzk : z[k]? = some ⟨v, varT u⟩ := by rw [hz]; exact zip_at hv hu
    show AWp _ _ _ _ _ _ _
    refine aS (aB (aS (aR ?_)))
    (refine nx (aM (gN rfl) rfl rfl rfl rfl rfl) rfl ?_)
    (refine nx (a_index (gN rfl) rfl rfl rfl rfl rfl rfl rfl rfl rfl (by assumption) rfl (by first | assumption | exact sZ rfl | exact Tm.size_all _ | exact Bd.size_all _ | exact ints_size _ | exact bys_size _ | exact Lt.size_all _)) rfl ?_)
    (refine nx (a_load_ad (gN rfl) rfl rfl rfl rfl rfl rfl rfl rfl rfl) rfl ?_)
    (refine nx (aA (gN rfl) rfl rfl rfl rfl rfl) rfl ?_)
    (refine nx (aA (gN rfl) rfl rfl rfl rfl rfl) rfl ?_)
    show AWp _ _ _ _ _ _ _
    refine aR ?_
    (refine nx (aM (gN rfl) rfl rfl rfl rfl rfl) rfl ?_)
    (refine nx (aM (gN rfl) rfl rfl rfl rfl rfl) rfl ?_)
    (refine nx (aM (gN rfl) rfl rfl rfl rfl rfl) rfl ?_)
    (refine nx (aM (gN rfl) rfl rfl rfl rfl rfl) rfl ?_)
    (refine nx (a_index (gN rfl) rfl rfl rfl rfl rfl rfl rfl rfl rfl (by assumption) rfl (by first | assumption | exact sZ rfl | exact Tm.size_all _ | exact Bd.size_all _ | exact ints_size _ | exact bys_size _ | exact Lt.size_all _)) rfl ?_)
    (refine nx (a_load_ad (gN rfl) rfl rfl rfl rfl rfl rfl rfl rfl rfl) rfl ?_)
    (refine nx (a_call (gN rfl) rfl rfl rfl rfl rfl (sVariable_abs w u hub.1 hub.2)) rfl ?_)
    (refine nx (a_build (gN rfl) rfl rfl rfl rfl rfl rfl rfl rfl rfl rfl rfl) rfl ?_)
    (refine nx (a_bslice (gN rfl) rfl rfl rfl rfl rfl rfl rfl rfl rfl rfl rfl rfl rfl) rfl ?_)
    (refine nx (a_app (gN rfl) rfl rfl rfl rfl rfl rfl rfl rfl rfl rfl rfl rfl rfl rfl rfl (by first | assumption | exact sZ rfl | exact Tm.size_all _ | exact Bd.size_all _ | exact ints_size _ | exact bys_size _ | exact Lt.size_all _) (by first | assumption | exact sZ rfl | exact Tm.size_all _ | exact Bd.size_all _ | exact ints_size _ | exact bys_size _ | exact Lt.size_all _) (by first | omega | (simp only [List.length_map, List.length_append, List.length_cons, List.length_nil] <;> omega) | (simp <;> omega))) rfl ?_)
    (refine nx (aA (gN rfl) rfl rfl rfl rfl rfl) rfl ?_)
    show AWp _ _ _ _ _ _ _
    refine aR ?_
    (refine nx (a_add (gN rfl) rfl rfl rfl rfl rfl rfl (by first | omega | (simp only [List.length_map, List.length_append, List.length_cons, List.length_nil] <;> omega) | (simp <;> omega))) rfl ?_)
    (refine nx (aM (gN rfl) rfl rfl rfl rfl rfl) rfl ?_)
    refine ⟨hkl, Wk.trans (wk_sub (s' := [(2, .bp 2 0 []), (100002, .bx a.cw), (3, .bp 3 0 []), (100003, .bx b.cw), (6, .val (.lst (m.map CV.i))), (7, .own (.lst ((z.take (k + 1)).map Bd.cv)) 300035), (300035, .tok 112 3), (19, .val (.lst (l.map CV.i))), (20, .val (.i (l.map CV.i).length)), (21, .val (.i ((k + 1 : Nat) : Int)))]) ⟨rfl, rfl, rfl, rfl, rfl, ?_, rfl, rfl, rfl, rfl, trivial⟩) (wk_ren 300035 200035 rfl rfl rfl rfl)⟩
    rw [List.take_add_one, hzk, List.map_append]
    rfl
  · have hkl : k = z.length := by
      simp only [List.length_map, decide_eq_false_iff_not] at hc
      omega
    subst hkl
    rw [List.take_length]
    show AWp _ _ _ _ _ _ _
    refine aS (aD (by kernel_rfl) (by kernel_rfl) ?_)
    (refine nx (aM (gN rfl) rfl rfl rfl rfl rfl) rfl ?_)
    (refine nx (aL (gN rfl) rfl rfl rfl rfl rfl rfl rfl rfl rfl rfl rfl rfl) rfl ?_)
    (refine nx (a_call (gN rfl) rfl rfl rfl rfl rfl (applyG_abs w z a (by omega) hzo ha hok)) rfl ?_)
    (refine nx (aL (gN rfl) rfl rfl rfl rfl rfl rfl rfl rfl rfl rfl rfl rfl) rfl ?_)
    (refine nx (a_call (gN rfl) rfl rfl rfl rfl rfl (same_abs w (repT_rng ha fun v h1 h2 => (imgB_ok hzo h1 h2).1) hb)) rfl ?_)
    (refine nx (aA (gN rfl) rfl rfl rfl rfl rfl) rfl ?_)
    refine ⟨by kernel_rfl, ?_⟩
    show AWp _ _ _ _ _ _ _
    exact aT (And.intro (.inr rfl) rfl)


theorem sidL_mem {c : List Lt} {s : Tm} : s ∈ sidL c ↔ ∃ l ∈ c, s = l.a ∨ s = l.b := by
  unfold sidL
  rw [List.mem_flatMap]
  constructor
  · rintro ⟨l, hl, h⟩
    exact ⟨l, hl, by simpa using h⟩
  · rintro ⟨l, hl, h⟩
    exact ⟨l, hl, by simpa using h⟩
end Go.Proofs.YteegmcfobgpemaaGreat
