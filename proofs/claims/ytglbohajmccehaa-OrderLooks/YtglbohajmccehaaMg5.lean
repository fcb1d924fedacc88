/-
  OrFns3 KbRef KbRef2 AbKind CodeMath CodeLen CodePut CodePutMore RefSame CodeRef CodeAlive CodeReadMath CodeRead CodeUint CodeText CodeBackMath ClBy ClCode ClPut ClGet ClGet2 ClA ClB OrRef OrRef2
-/
import Derived.Test.YtglbohajmccehaaMg4
import Derived.Test.YtglbohajmccehaaMg3
import Derived.Test.YtglbohajmccehaaMg2
import Derived.WalkKit
import Derived.Test.YtglbohajmccehaaChecked
import Derived.WalkLawsBesides
import Derived.WalkSpells
import Derived.Test.YtglbohajmccehaaMg1
import Derived.Laws.BitsAllLaws
import Derived.Deep.QuietTactic
import Derived.BigQuiet
import Derived.Laws.BytesArg
namespace Go.Proofs.Ytglbohajmccehaa
open Go.RowKit
set_option linter.unusedVariables false
set_option linter.unusedSimpArgs false
set_option maxRecDepth 100000
def Lt.fit (l : Lt) : Prop := l.a.fit ∧ l.b.fit
def wtL (l : Lt) : Int := (l.a.size : Int) + (l.b.size : Int)
-- 
theorem oWt_abs (W : World) (l : Lt) (h : l.fit) : AFun Try.prog W 59 [l.cw] (.val (.i (wtL l))) := by
  have h1 := h.1.2.2
  have h2 := h.2.2.2
  refine afun_of (rs := [.i (wtL l)]) Try.func59 Try.ntmps59 rfl rfl rfl rfl ?_
  intro w U hW
  refine aS (aR ?_)
  (refine nx (a_box (gN rfl) rfl rfl rfl rfl rfl) rfl ?_)
  (refine nx (aA (gN rfl) rfl rfl rfl rfl rfl) rfl ?_)
  show AWp _ _ _ _ _ _ _
  refine aS (aD (by kernel_rfl) (by kernel_rfl) ?_)
  (refine nx (aF (gN rfl) rfl rfl rfl rfl rfl rfl rfl rfl rfl) rfl ?_)
  (refine nx (aLb (gN rfl) rfl rfl rfl rfl rfl rfl rfl rfl rfl rfl rfl rfl) rfl ?_)
  (refine nx (a_call (gN rfl) rfl rfl rfl rfl rfl (size_abs w h.1.1 (by omega))) rfl ?_)
  (refine nx (aF (gN rfl) rfl rfl rfl rfl rfl rfl rfl rfl rfl) rfl ?_)
  (refine nx (aLb (gN rfl) rfl rfl rfl rfl rfl rfl rfl rfl rfl rfl rfl rfl) rfl ?_)
  (refine nx (a_call (gN rfl) rfl rfl rfl rfl rfl (size_abs w h.2.1 (by omega))) rfl ?_)
  (refine nx (a_add (gN rfl) rfl rfl rfl rfl rfl rfl (by first | omega | (simp only [List.length_map, List.length_append, List.length_cons, List.length_nil] <;> omega) | (simp <;> omega))) rfl ?_)
  (refine nx (aA (gN rfl) rfl rfl rfl rfl rfl) rfl ?_)
  refine ⟨by kernel_rfl, ?_⟩
  show AWp _ _ _ _ _ _ _
  exact aT (And.intro (.inr rfl) rfl)
def hvK (c : List Lt) : Nat → Int × Int
  | 0 => (-1, 0)
  | k + 1 => match c[k]? with
    | none => hvK c k
    | some l => if l.neg = true ∧ (hvK c k).2 < wtL l then ((k : Int), wtL l) else hvK c k
-- 
theorem oHv_abs (W : World) (c : List Lt) (hn : c.length ≤ 100000) (hc : ∀ l ∈ c, l.fit) : AFun Try.prog W 42 [.lst (c.map Lt.cv)] (.val (.i (hvK c c.length).1)) := by
  have hsz := Lt.size_all c
  refine afun_of (rs := [.i (hvK c c.length).1]) Try.func42 Try.ntmps42 rfl rfl rfl rfl ?_
  intro w U hW
  refine aS (aR ?_)
  (refine nx (aA (gN rfl) rfl rfl rfl rfl rfl) rfl ?_)
  show AWp _ _ _ _ _ _ _
  refine aS (aR ?_)
  (refine nx (aA (gN rfl) rfl rfl rfl rfl rfl) rfl ?_)
  (refine nx (aA (gN rfl) rfl rfl rfl rfl rfl) rfl ?_)
  show AWp _ _ _ _ _ _ _
  refine aS (aS (aR ?_))
  (refine nx (aM (gN rfl) rfl rfl rfl rfl rfl) rfl ?_)
  (refine nx (a_len (gN rfl) rfl rfl rfl rfl rfl rfl rfl) rfl ?_)
  (refine nx (aM (gN rfl) rfl rfl rfl rfl rfl) rfl ?_)
  show AWp _ _ _ _ _ _ _
  let st : Nat → AS := fun k => [(3, .val (.i (hvK c k).1)), (4, .val (.i (hvK c k).2)), (8, .val (.lst (c.map Lt.cv))), (9, .val (.i (c.map Lt.cv).length)), (10, .val (.i k))]
  refine aB (awp_count c.length st (wk_sub ⟨rfl, rfl, rfl, rfl, rfl, trivial⟩) ?_)
  intro k hk
  refine aS (aR ?_)
  (refine nx (a_lss (gN rfl) rfl rfl rfl rfl rfl rfl) rfl ?_)
  show AWp _ _ _ _ _ _ _
  refine aS (aC rfl (fun hlt => ?_) (fun hlt => ?_))
  · have hkl : k < c.length := by simpa using hlt
    obtain ⟨x, hx⟩ : ∃ x, c[k]? = some x := ⟨c[k], List.getElem?_eq_getElem hkl⟩
    have hx' := Lt.map_at hx
    have hxf := hc x (List.mem_of_getElem? hx)
    have hK : hvK c (k + 1) = if x.neg = true ∧ (hvK c k).2 < wtL x then ((k : Int), wtL x) else hvK c k := by conv => lhs; unfold hvK; rw [hx]
    refine aK ?_
    show AWp _ _ _ _ _ _ _
    refine aS (aB (aS (aR ?_)))
    (refine nx (aM (gN rfl) rfl rfl rfl rfl rfl) rfl ?_)
    (refine nx (a_index (j := k) (gN rfl) rfl rfl rfl rfl rfl rfl rfl rfl rfl (hx') rfl (hsz)) rfl ?_)
    (refine nx (a_load_ad (gN rfl) rfl rfl rfl rfl rfl rfl rfl rfl rfl) rfl ?_)
    (refine nx (a_alloc (gN rfl) rfl rfl rfl rfl rfl rfl rfl rfl rfl rfl) rfl ?_)
    (refine nx (aA (gN rfl) rfl rfl rfl rfl rfl) rfl ?_)
    (refine nx (aSt (gN rfl) rfl rfl rfl rfl rfl rfl rfl rfl rfl rfl) rfl ?_)
    show AWp _ _ _ _ _ _ _
    refine AWp.wk (wk_sub (s' := [(3, .val (.i (hvK c k).1)), (4, .val (.i (hvK c k).2)), (5, .val (.i k)), (6, .bp 6 0 []), (100006, .bx x.cw), (8, .val (.lst (c.map Lt.cv))), (9, .val (.i (c.map Lt.cv).length)), (10, .val (.i k))]) ⟨rfl, rfl, rfl, rfl, rfl, rfl, rfl, rfl, trivial⟩) ?_
    refine aS (aS (aR ?_))
    (refine nx (aF (gN rfl) rfl rfl rfl rfl rfl rfl rfl rfl rfl) rfl ?_)
    (refine nx (aLb (gN rfl) rfl rfl rfl rfl rfl rfl rfl rfl rfl rfl rfl rfl) rfl ?_)
    (refine nx (a_not (gN rfl) rfl rfl rfl rfl rfl) rfl ?_)
    show AWp _ _ _ _ _ _ _
    refine aC rfl (fun hb => ?_) (fun hb => ?_)
    · have hb : (!x.neg) = true := hb
      have hng : x.neg = false := by simpa using hb
      have e : hvK c (k + 1) = hvK c k := by rw [hK, if_neg (by rw [hng]; simp)]
      refine aE ?_
      show AWp _ _ _ _ _ _ _
      refine aR ?_
      (refine nx (a_add (gN rfl) rfl rfl rfl rfl rfl rfl (by first | omega | (simp only [List.length_map, List.length_append, List.length_cons, List.length_nil] <;> omega) | (simp <;> omega))) rfl ?_)
      (refine nx (aM (gN rfl) rfl rfl rfl rfl rfl) rfl ?_)
      refine ⟨hkl, wk_sub ⟨?_, ?_, rfl, rfl, rfl, trivial⟩⟩
      · rw [e]; rfl
      · rw [e]; rfl
    · have hb : (!x.neg) = false := hb
      have hng : x.neg = true := by simpa using hb
      refine aK ?_
      show AWp _ _ _ _ _ _ _
      refine aS (aR ?_)
      (refine nx (aL (gN rfl) rfl rfl rfl rfl rfl rfl rfl rfl rfl rfl rfl rfl) rfl ?_)
      (refine nx (a_call (gN rfl) rfl rfl rfl rfl rfl (oWt_abs w x hxf)) rfl ?_)
      (refine nx (aA (gN rfl) rfl rfl rfl rfl rfl) rfl ?_)
      show AWp _ _ _ _ _ _ _
      refine aS (aR ?_)
      (refine nx (aM (gN rfl) rfl rfl rfl rfl rfl) rfl ?_)
      (refine nx (aM (gN rfl) rfl rfl rfl rfl rfl) rfl ?_)
      (refine nx (a_gtr (gN rfl) rfl rfl rfl rfl rfl rfl) rfl ?_)
      show AWp _ _ _ _ _ _ _
      refine aC rfl (fun hg => ?_) (fun hg => ?_)
      · have hg : decide (wtL x > (hvK c k).2) = true := hg
        have hg := of_decide_eq_true hg
        have e : hvK c (k + 1) = ((k : Int), wtL x) := by rw [hK, if_pos ⟨hng, by omega⟩]
        refine aR ?_
        (refine nx (aM (gN rfl) rfl rfl rfl rfl rfl) rfl ?_)
        (refine nx (aM (gN rfl) rfl rfl rfl rfl rfl) rfl ?_)
        (refine nx (aA (gN rfl) rfl rfl rfl rfl rfl) rfl ?_)
        (refine nx (aA (gN rfl) rfl rfl rfl rfl rfl) rfl ?_)
        show AWp _ _ _ _ _ _ _
        refine aR ?_
        (refine nx (a_add (gN rfl) rfl rfl rfl rfl rfl rfl (by first | omega | (simp only [List.length_map, List.length_append, List.length_cons, List.length_nil] <;> omega) | (simp <;> omega))) rfl ?_)
        (refine nx (aM (gN rfl) rfl rfl rfl rfl rfl) rfl ?_)
        refine ⟨hkl, wk_sub ⟨?_, ?_, rfl, rfl, rfl, trivial⟩⟩
        · rw [e]; rfl
        · rw [e]; rfl
      · have hg : decide (wtL x > (hvK c k).2) = false := hg
        have hg := of_decide_eq_false hg
        have e : hvK c (k + 1) = hvK c k := by rw [hK, if_neg (fun h => by have := h.2; omega)]
        refine aK ?_
        show AWp _ _ _ _ _ _ _
        refine aR ?_
        (refine nx (a_add (gN rfl) rfl rfl rfl rfl rfl rfl (by first | omega | (simp only [List.length_map, List.length_append, List.length_cons, List.length_nil] <;> omega) | (simp <;> omega))) rfl ?_)
        (refine nx (aM (gN rfl) rfl rfl rfl rfl rfl) rfl ?_)
        refine ⟨hkl, wk_sub ⟨?_, ?_, rfl, rfl, rfl, trivial⟩⟩
        · rw [e]; rfl
        · rw [e]; rfl
  · have hkl : k = c.length := by
      have : ¬ k < c.length := by simpa using hlt
      omega
    subst hkl
    refine aE ?_
    show AWp _ _ _ _ _ _ _
    refine aS (aR ?_)
    (refine nx (aM (gN rfl) rfl rfl rfl rfl rfl) rfl ?_)
    (refine nx (aA (gN rfl) rfl rfl rfl rfl rfl) rfl ?_)
    show AWp _ _ _ _ _ _ _
    exact aT (And.intro (.inr rfl) rfl)
noncomputable def gstL (c : List Lt) (x : Lt) : Bool := !(c.any fun l => mulB (tmsL l) (tmsL x))
noncomputable def gstI (c : List Lt) (i : Int) : Bool := if 0 ≤ i then (match c[i.toNat]? with | some x => gstL c x | none => false) else false
-- 
theorem oGstF_abs (W : World) (c : List Lt) (k : Nat) (x l : Lt) (hx : c[k]? = some x) (hxf : x.fit) (hl : l.fit) : AFun Try.prog W 44 [l.cw, .ptr (.lst (c.map Lt.cv)), .ptr (.i (k : Int))] (.val (.b (mulB (tmsL l) (tmsL x)))) := by
  have hsz := Lt.size_all c
  have hx' := Lt.map_at hx
  refine afun_of (rs := [.b (mulB (tmsL l) (tmsL x))]) Try.func44 Try.ntmps44 rfl rfl rfl rfl ?_
  intro w U hW
  refine aS (aR ?_)
  (refine nx (a_box (gN rfl) rfl rfl rfl rfl rfl) rfl ?_)
  (refine nx (aA (gN rfl) rfl rfl rfl rfl rfl) rfl ?_)
  show AWp _ _ _ _ _ _ _
  refine aS (aD (by kernel_rfl) (by kernel_rfl) ?_)
  (refine nx (aL (gN rfl) rfl rfl rfl rfl rfl rfl rfl rfl rfl rfl rfl rfl) rfl ?_)
  (refine nx (a_load_ptr (gN rfl) rfl rfl rfl rfl rfl rfl rfl rfl rfl) rfl ?_)
  (refine nx (a_load_ptr (gN rfl) rfl rfl rfl rfl rfl rfl rfl rfl rfl) rfl ?_)
  (refine nx (a_index (j := k) (gN rfl) rfl rfl rfl rfl rfl rfl rfl rfl rfl (hx') rfl (hsz)) rfl ?_)
  (refine nx (a_load_ad (gN rfl) rfl rfl rfl rfl rfl rfl rfl rfl rfl) rfl ?_)
  (refine nx (a_call (gN rfl) rfl rfl rfl rfl rfl (oGr_abs w l x hl hxf)) rfl ?_)
  (refine nx (aA (gN rfl) rfl rfl rfl rfl rfl) rfl ?_)
  refine ⟨by kernel_rfl, ?_⟩
  show AWp _ _ _ _ _ _ _
  exact aT (And.intro (.inr rfl) rfl)
-- 
theorem oGst_abs (W : World) (c : List Lt) (i : Int) (hn : c.length ≤ 100000) (hc : ∀ l ∈ c, l.fit) : AFun Try.prog W 26 [.lst (c.map Lt.cv), .i i] (.val (.b (gstI c i))) := by
  refine afun_of (rs := [.b (gstI c i)]) Try.func26 Try.ntmps26 rfl rfl rfl rfl ?_
  intro w U hW
  refine aS (aR ?_)
  (refine nx (a_box (gN rfl) rfl rfl rfl rfl rfl) rfl ?_)
  (refine nx (a_box (gN rfl) rfl rfl rfl rfl rfl) rfl ?_)
  (refine nx (aA (gN rfl) rfl rfl rfl rfl rfl) rfl ?_)
  show AWp _ _ _ _ _ _ _
  by_cases hi : i < 0
  · have g : decide (i < 0) = true := decide_eq_true hi
    have e : gstI c i = false := by unfold gstI; rw [if_neg (by omega)]
    rw [e]
    refine aS (aS (aR ?_))
    (refine nx (aL (gN rfl) rfl rfl rfl rfl rfl rfl rfl rfl rfl rfl rfl rfl) rfl ?_)
    (refine nx (a_lss (gN rfl) rfl rfl rfl rfl rfl rfl) rfl ?_)
    (refine nx (aM (gN rfl) rfl rfl rfl rfl rfl) rfl ?_)
    (refine ⟨_, _, _, a_off (go_off rfl rfl rfl rfl (by first | rfl | assumption | (simp; done) | (simp [*]; done))) rfl rfl rfl, rfl, ?_⟩)
    (refine ⟨_, _, _, a_off (go_off rfl rfl rfl rfl (by first | rfl | assumption | (simp; done) | (simp [*]; done))) rfl rfl rfl, rfl, ?_⟩)
    (refine ⟨_, _, _, a_off (go_off rfl rfl rfl rfl (by first | rfl | assumption | (simp; done) | (simp [*]; done))) rfl rfl rfl, rfl, ?_⟩)
    (refine ⟨_, _, _, a_off (go_off rfl rfl rfl rfl (by first | rfl | assumption | (simp; done) | (simp [*]; done))) rfl rfl rfl, rfl, ?_⟩)
    (refine ⟨_, _, _, aPt (gN rfl) rfl rfl rfl rfl rfl ?hb rfl, rfl, ?_⟩; case hb => (first | rfl | assumption | (simp; done)))
    show AWp _ _ _ _ _ _ _
    refine aC rfl (fun _ => ?_) (fun h => by cases h)
    refine aS (aR ?_)
    (refine nx (aA (gN rfl) rfl rfl rfl rfl rfl) rfl ?_)
    show AWp _ _ _ _ _ _ _
    exact aT (And.intro (.inr rfl) rfl)
  · have g : decide (i < 0) = false := decide_eq_false hi
    refine aS (aS (aR ?_))
    (refine nx (aL (gN rfl) rfl rfl rfl rfl rfl rfl rfl rfl rfl rfl rfl rfl) rfl ?_)
    (refine nx (a_lss (gN rfl) rfl rfl rfl rfl rfl rfl) rfl ?_)
    (refine nx (aM (gN rfl) rfl rfl rfl rfl rfl) rfl ?_)
    (refine nx (aL (gd_on rfl rfl rfl rfl (by first | rfl | assumption | (simp; done))) rfl rfl rfl rfl rfl rfl rfl rfl rfl rfl rfl rfl) rfl ?_)
    (refine nx (aL (gd_on rfl rfl rfl rfl (by first | rfl | assumption | (simp; done))) rfl rfl rfl rfl rfl rfl rfl rfl rfl rfl rfl rfl) rfl ?_)
    (refine nx (a_len (gd_on rfl rfl rfl rfl (by first | rfl | assumption | (simp; done))) rfl rfl rfl rfl rfl rfl rfl) rfl ?_)
    (refine nx (a_geq (gd_on rfl rfl rfl rfl (by first | rfl | assumption | (simp; done))) rfl rfl rfl rfl rfl rfl) rfl ?_)
    (refine ⟨_, _, _, aPf (gN rfl) rfl rfl rfl rfl rfl ?hb rfl, rfl, ?_⟩; case hb => (first | rfl | assumption | (simp; done)))
    show AWp _ _ _ _ _ _ _
    refine aC rfl (fun h => ?_) (fun h => ?_)
    · have h : decide (i ≥ ((c.map Lt.cv).length : Int)) = true := h
      have h := of_decide_eq_true h
      rw [List.length_map] at h
      have e : gstI c i = false := by unfold gstI; rw [if_pos (by omega), List.getElem?_eq_none (by omega)]
      rw [e]
      refine aS (aR ?_)
      (refine nx (aA (gN rfl) rfl rfl rfl rfl rfl) rfl ?_)
      show AWp _ _ _ _ _ _ _
      exact aT (And.intro (.inr rfl) rfl)
    · have h : decide (i ≥ ((c.map Lt.cv).length : Int)) = false := h
      have h := of_decide_eq_false h
      rw [List.length_map] at h
      obtain ⟨k, rfl⟩ : ∃ k : Nat, i = (k : Int) := ⟨i.toNat, by omega⟩
      have hkl : k < c.length := by omega
      obtain ⟨x, hx⟩ : ∃ x, c[k]? = some x := ⟨c[k], List.getElem?_eq_getElem hkl⟩
      have hxf := hc x (List.mem_of_getElem? hx)
      have e : gstI c (k : Int) = !(c.any fun l => mulB (tmsL l) (tmsL x)) := by unfold gstI; rw [if_pos (by omega), Int.toNat_natCast, hx]; rfl
      rw [e]
      refine aK ?_
      show AWp _ _ _ _ _ _ _
      refine AWp.wk ((wk_freeze 2 rfl rfl rfl (s' := [(3, .bp 3 0 []), (100003, .bx (.i (k : Int)))]) ⟨rfl, rfl, trivial⟩ rfl rfl rfl).trans (wk_freeze 3 rfl rfl rfl (s' := [(2, .val (.ptr (.lst (c.map Lt.cv))))]) ⟨rfl, trivial⟩ rfl rfl rfl)) ?_
      refine aS (aR ?_)
      (refine nx (a_load_ptr (gN rfl) rfl rfl rfl rfl rfl rfl rfl rfl rfl) rfl ?_)
      (refine nx (a_mkfunc (gN rfl) rfl rfl rfl rfl rfl rfl) rfl ?_)
      (refine nx (a_call (gN rfl) rfl rfl rfl rfl rfl (conL_abs w (fun l => mulB (tmsL l) (tmsL x)) (.fn 44 0 [.ptr (.lst (c.map Lt.cv)), .ptr (.i (k : Int))]) c (by omega) (fun w l hl => .inl ⟨_, _, _, rfl, oGstF_abs w c k x l hx hxf (hc l hl)⟩))) rfl ?_)
      (refine nx (a_not (gN rfl) rfl rfl rfl rfl rfl) rfl ?_)
      (refine nx (aA (gN rfl) rfl rfl rfl rfl rfl) rfl ?_)
      show AWp _ _ _ _ _ _ _
      exact aT (And.intro (.inr rfl) rfl)
noncomputable def gsK (c : List Lt) (k : Nat) : List Int := ((List.range k).filter fun i : Nat => gstI c (i : Int)).map fun i : Nat => (i : Int)
theorem gsK_len (c : List Lt) (k : Nat) : (gsK c k).length ≤ k := by
  unfold gsK
  rw [List.length_map]
  exact Nat.le_trans (List.length_filter_le _ _) (by rw [List.length_range]; exact Nat.le_refl _)
theorem gsK_succ (c : List Lt) (k : Nat) : gsK c (k + 1) = gsK c k ++ (if gstI c (k : Int) = true then [(k : Int)] else []) := by
  unfold gsK
  rw [List.range_succ, List.filter_append, List.map_append]
  congr 1
  by_cases h : gstI c (k : Int) = true
  · rw [if_pos h, List.filter_cons_of_pos (by exact h)]; rfl
  · rw [if_neg h, List.filter_cons_of_neg (by exact h)]; rfl
noncomputable def lokL (c : List Lt) : List Int := if (hvK c c.length).1 ≥ 0 then [(hvK c c.length).1] else gsK c c.length
-- 
theorem oLook_abs (W : World) (c : List Lt) (hn : c.length ≤ 100000) (hc : ∀ l ∈ c, l.fit) : AFun Try.prog W 25 [.lst (c.map Lt.cv)] (.val (.lst ((lokL c).map CV.i))) := by
  refine afun_of (rs := [.lst ((lokL c).map CV.i)]) Try.func25 Try.ntmps25 rfl rfl rfl rfl ?_
  intro w U hW
  obtain ⟨hvv, hhv⟩ : ∃ z, z = (hvK c c.length).1 := ⟨_, rfl⟩
  have hlk : lokL c = if hvv ≥ 0 then [hvv] else gsK c c.length := by unfold lokL; rw [hhv]
  have hH := oHv_abs w c hn hc
  rw [← hhv] at hH
  refine aS (aR ?_)
  (refine nx (aA (gN rfl) rfl rfl rfl rfl rfl) rfl ?_)
  show AWp _ _ _ _ _ _ _
  refine aS (aS (aR ?_))
  (refine nx (aM (gN rfl) rfl rfl rfl rfl rfl) rfl ?_)
  (refine nx (a_call (gN rfl) rfl rfl rfl rfl rfl (hH)) rfl ?_)
  (refine nx (aA (gN rfl) rfl rfl rfl rfl rfl) rfl ?_)
  show AWp _ _ _ _ _ _ _
  refine aS (aR ?_)
  (refine nx (aM (gN rfl) rfl rfl rfl rfl rfl) rfl ?_)
  (refine nx (a_geq (gN rfl) rfl rfl rfl rfl rfl rfl) rfl ?_)
  show AWp _ _ _ _ _ _ _
  refine aC rfl (fun h => ?_) (fun h => ?_)
  · have h : decide (hvv ≥ 0) = true := h
    rw [hlk, if_pos (of_decide_eq_true h)]
    refine aS (aR ?_)
    (refine nx (aM (gN rfl) rfl rfl rfl rfl rfl) rfl ?_)
    (refine nx (a_bslice (gN rfl) rfl rfl rfl rfl rfl rfl rfl rfl rfl rfl rfl rfl rfl) rfl ?_)
    (refine nx (aA (gN rfl) rfl rfl rfl rfl rfl) rfl ?_)
    show AWp _ _ _ _ _ _ _
    exact aT (And.intro (.inr rfl) rfl)
  · have h : decide (hvv ≥ 0) = false := h
    rw [hlk, if_neg (of_decide_eq_false h)]
    refine aK ?_
    show AWp _ _ _ _ _ _ _
    refine aS (aR ?_)
    (refine nx (aA (gN rfl) rfl rfl rfl rfl rfl) rfl ?_)
    show AWp _ _ _ _ _ _ _
    refine aS (aS (aR ?_))
    (refine nx (aM (gN rfl) rfl rfl rfl rfl rfl) rfl ?_)
    (refine nx (a_len (gN rfl) rfl rfl rfl rfl rfl rfl rfl) rfl ?_)
    (refine nx (aM (gN rfl) rfl rfl rfl rfl rfl) rfl ?_)
    show AWp _ _ _ _ _ _ _
    let st : Nat → AS := fun k => [(0, .val (.lst (c.map Lt.cv))), (4, .own (.lst ((gsK c k).map CV.i)) 200023), (200023, .tok 3 1), (13, .val (.i (c.map Lt.cv).length)), (14, .val (.i k))]
    refine aB (awp_count c.length st ((wk_nil 4 200023 3 1 rfl rfl rfl rfl rfl rfl rfl).trans (wk_sub ⟨rfl, rfl, rfl, rfl, rfl, trivial⟩)) ?_)
    intro k hk
    refine aS (aR ?_)
    (refine nx (a_lss (gN rfl) rfl rfl rfl rfl rfl rfl) rfl ?_)
    show AWp _ _ _ _ _ _ _
    refine aS (aC rfl (fun hlt => ?_) (fun hlt => ?_))
    · have hkl : k < c.length := by simpa using hlt
      have hl3 : ((gsK c k).map CV.i).length ≤ k := by rw [List.length_map]; exact gsK_len c k
      have hl4 := gsK_len c k
      have hsz3 : ∀ x ∈ (gsK c k).map CV.i, x.size = 1 := ints_size _
      refine aK ?_
      show AWp _ _ _ _ _ _ _
      refine aS (aB (aS (aR ?_)))
      (refine nx (aM (gN rfl) rfl rfl rfl rfl rfl) rfl ?_)
      (refine nx (aA (gN rfl) rfl rfl rfl rfl rfl) rfl ?_)
      show AWp _ _ _ _ _ _ _
      refine aS (aR ?_)
      (refine nx (aM (gN rfl) rfl rfl rfl rfl rfl) rfl ?_)
      (refine nx (aM (gN rfl) rfl rfl rfl rfl rfl) rfl ?_)
      (refine nx (a_call (gN rfl) rfl rfl rfl rfl rfl (oGst_abs w c k hn hc)) rfl ?_)
      show AWp _ _ _ _ _ _ _
      refine aC rfl (fun hg => ?_) (fun hg => ?_)
      · have hg : gstI c (k : Int) = true := hg
        refine aR ?_
        (refine nx (aM (gN rfl) rfl rfl rfl rfl rfl) rfl ?_)
        (refine nx (aM (gN rfl) rfl rfl rfl rfl rfl) rfl ?_)
        (refine nx (a_bslice (gN rfl) rfl rfl rfl rfl rfl rfl rfl rfl rfl rfl rfl rfl rfl) rfl ?_)
        (refine nx (a_app (gN rfl) rfl rfl rfl rfl rfl rfl rfl rfl rfl rfl rfl rfl rfl rfl rfl (by first | assumption | exact sZ rfl | exact Tm.size_all _ | exact Bd.size_all _ | exact ints_size _ | exact bys_size _ | exact Lt.size_all _) (by first | assumption | exact sZ rfl | exact Tm.size_all _ | exact Bd.size_all _ | exact ints_size _ | exact bys_size _ | exact Lt.size_all _) (by first | omega | (simp only [List.length_map, List.length_append, List.length_cons, List.length_nil] <;> omega) | (simp <;> omega))) rfl ?_)
        (refine nx (aA (gN rfl) rfl rfl rfl rfl rfl) rfl ?_)
        show AWp _ _ _ _ _ _ _
        refine AWp.wk ((wk_sub (s' := [(0, .val (.lst (c.map Lt.cv))), (4, .own (.lst ((gsK c k).map CV.i ++ [CV.i (k : Int)])) 300023), (300023, .tok 3 1), (13, .val (.i (c.map Lt.cv).length)), (14, .val (.i k))]) ⟨rfl, rfl, rfl, rfl, rfl, trivial⟩).trans (wk_ren 300023 200023 rfl rfl rfl rfl)) ?_
        refine aR ?_
        (refine nx (a_add (gN rfl) rfl rfl rfl rfl rfl rfl (by first | omega | (simp only [List.length_map, List.length_append, List.length_cons, List.length_nil] <;> omega) | (simp <;> omega))) rfl ?_)
        (refine nx (aM (gN rfl) rfl rfl rfl rfl rfl) rfl ?_)
        refine ⟨hkl, wk_sub ⟨rfl, ?_, rfl, rfl, rfl, trivial⟩⟩
        show some (AV.own (.lst _) _) = some (AV.own (.lst _) _)
        rw [gsK_succ, if_pos hg, List.map_append]
        rfl
      · have hg : gstI c (k : Int) = false := hg
        refine aK ?_
        show AWp _ _ _ _ _ _ _
        refine aR ?_
        (refine nx (a_add (gN rfl) rfl rfl rfl rfl rfl rfl (by first | omega | (simp only [List.length_map, List.length_append, List.length_cons, List.length_nil] <;> omega) | (simp <;> omega))) rfl ?_)
        (refine nx (aM (gN rfl) rfl rfl rfl rfl rfl) rfl ?_)
        refine ⟨hkl, wk_sub ⟨rfl, ?_, rfl, rfl, rfl, trivial⟩⟩
        show some (AV.own (.lst _) _) = some (AV.own (.lst _) _)
        rw [gsK_succ, if_neg (by rw [hg]; decide), List.append_nil]
    · have hkl : k = c.length := by
        have : ¬ k < c.length := by simpa using hlt
        omega
      subst hkl
      refine aE ?_
      show AWp _ _ _ _ _ _ _
      refine aS (aR ?_)
      (refine nx (aM (gN rfl) rfl rfl rfl rfl rfl) rfl ?_)
      (refine nx (aA (gN rfl) rfl rfl rfl rfl rfl) rfl ?_)
      show AWp _ _ _ _ _ _ _
      exact aT (And.intro (.inr rfl) rfl)
noncomputable def prC (p : Tm × Tm) : CV := .row [p.1.cw, p.2.cw]
noncomputable def orK (l : Lt) (k : Nat) : List (Tm × Tm) := (([(l.a, l.b), (l.b, l.a)].take k).filter fun p => decide (kb p.1 p.2 = 1 ∨ kb p.1 p.2 = 2)).map fun p => (p.1.strip, p.2.strip)
theorem cnt_vsK (l : List Tm) {v : Int} (hv : 0 ≤ v) : cntF (-1 - v) l = (vsL l).count v := by
  unfold cntF vsL
  induction l with
  | nil => rfl
  | cons t l ih =>
    rw [List.filter_cons, List.filter_cons]
    by_cases h : t.f = -1 - v
    · have h2 : t.f < 0 := by omega
      rw [if_pos (by simpa using h), if_pos (by simpa using h2), List.length_cons, ih, List.map_cons, List.count_cons]
      simp only [beq_iff_eq]
      rw [if_pos (by omega)]
    · rw [if_neg (by simpa using h)]
      by_cases h2 : t.f < 0
      · rw [if_pos (by simpa using h2), ih, List.map_cons, List.count_cons]
        simp only [beq_iff_eq]
        rw [if_neg (by omega)]
        rfl
      · rw [if_neg (by simpa using h2)]; exact ih
-- 
theorem rCount_abs (W : World) (t : Tm) (v : Int) (hr : t.rng) (hok : t.ok) (hts : t.size ≤ 90000000000) (hv : 0 ≤ v ∧ v ≤ 9223372036854775807) : AFun Try.prog W 77 [t.cw, .i v] (.val (.i (t.vs.count v : Nat))) := by
  rw [show t.vs.count v = cntF (-1 - v) t.flat from (cnt_vsK t.flat hv.1).symm]
  refine afun_of (rs := [.i (cntF (-1 - v) t.flat : Nat)]) Try.func77 Try.ntmps77 rfl rfl rfl rfl ?_
  intro w U hW
  refine aS (aR ?_)
  (refine nx (a_box (gN rfl) rfl rfl rfl rfl rfl) rfl ?_)
  (refine nx (aA (gN rfl) rfl rfl rfl rfl rfl) rfl ?_)
  show AWp _ _ _ _ _ _ _
  refine aS (aR ?_)
  (refine nx (aL (gN rfl) rfl rfl rfl rfl rfl rfl rfl rfl rfl rfl rfl rfl) rfl ?_)
  (refine nx (a_call (gN rfl) rfl rfl rfl rfl rfl (refFlat_abs w t hok hts)) rfl ?_)
  (refine nx (aA (gN rfl) rfl rfl rfl rfl rfl) rfl ?_)
  show AWp _ _ _ _ _ _ _
  unfold Tm.size at hts
  obtain ⟨l, hl⟩ : ∃ l, l = t.flat := ⟨_, rfl⟩
  rw [← hl] at hts ⊢
  have hsz := Tm.size_all l
  refine aS (aR ?_)
  (refine nx (aA (gN rfl) rfl rfl rfl rfl rfl) rfl ?_)
  show AWp _ _ _ _ _ _ _
  refine aS (aS (aR ?_))
  (refine nx (aA (gN rfl) rfl rfl rfl rfl rfl) rfl ?_)
  show AWp _ _ _ _ _ _ _
  refine aB (awp_count l.length (fun i => [(1, .val (.i v)), (5, .val (.lst (l.map Tm.cv))), (6, .val (.i (cntF (-1 - v) (l.take i) : Nat))), (7, .val (.i i))]) (wk_sub ⟨rfl, rfl, rfl, rfl, trivial⟩) ?_)
  intro i hi
  refine aS (aS (aR ?_))
  (refine nx (aM (gN rfl) rfl rfl rfl rfl rfl) rfl ?_)
  (refine nx (aM (gN rfl) rfl rfl rfl rfl rfl) rfl ?_)
  (refine nx (a_len (gN rfl) rfl rfl rfl rfl rfl rfl rfl) rfl ?_)
  (refine nx (a_lss (gN rfl) rfl rfl rfl rfl rfl rfl) rfl ?_)
  show AWp _ _ _ _ _ _ _
  refine aC rfl (fun hc => aK ?_) (fun hc => aE ?_)
  · have hil : i < l.length := by
      simp only [List.length_map, decide_eq_true_eq] at hc
      omega
    clear hc
    obtain ⟨s, hs⟩ : ∃ s, l[i]? = some s := ⟨l[i], List.getElem?_eq_getElem hil⟩
    have hs' := Tm.map_at hs
    have htk : l.take (i + 1) = l.take i ++ [s] := by rw [List.take_add_one, hs]; rfl
    have hcl := cntF_le (-1 - v) (l.take i)
    rw [List.length_take] at hcl
    show AWp _ _ _ _ _ _ _
    refine aS (aB (aS (aR ?_)))
    (refine nx (aM (gN rfl) rfl rfl rfl rfl rfl) rfl ?_)
    (refine nx (aM (gN rfl) rfl rfl rfl rfl rfl) rfl ?_)
    (refine nx (a_index (gN rfl) rfl rfl rfl rfl rfl rfl rfl rfl rfl (by assumption) rfl (by first | assumption | exact sZ rfl | exact Tm.size_all _ | exact Bd.size_all _ | exact ints_size _ | exact bys_size _ | exact Lt.size_all _)) rfl ?_)
    (refine nx (a_field_ad (gN rfl) rfl rfl rfl rfl rfl rfl rfl rfl rfl rfl rfl) rfl ?_)
    (refine nx (a_load_ad (gN rfl) rfl rfl rfl rfl rfl rfl rfl rfl rfl) rfl ?_)
    (refine nx (aM (gN rfl) rfl rfl rfl rfl rfl) rfl ?_)
    (refine nx (a_sub (gN rfl) rfl rfl rfl rfl rfl rfl (by first | omega | (simp only [List.length_map, List.length_append, List.length_cons, List.length_nil] <;> omega) | (simp <;> omega))) rfl ?_)
    (refine nx (a_eql (gN rfl) rfl rfl rfl rfl rfl rfl) rfl ?_)
    show AWp _ _ _ _ _ _ _
    refine aC rfl (fun hc => ?_) (fun hc => aK ?_)
    · have hsf : s.f = -1 - v := by simpa using hc
      refine aR ?_
      (refine nx (aM (gN rfl) rfl rfl rfl rfl rfl) rfl ?_)
      (refine nx (a_add (gN rfl) rfl rfl rfl rfl rfl rfl (by first | omega | (simp only [List.length_map, List.length_append, List.length_cons, List.length_nil] <;> omega) | (simp <;> omega))) rfl ?_)
      (refine nx (aA (gN rfl) rfl rfl rfl rfl rfl) rfl ?_)
      show AWp _ _ _ _ _ _ _
      refine aR ?_
      (refine nx (aM (gN rfl) rfl rfl rfl rfl rfl) rfl ?_)
      (refine nx (a_add (gN rfl) rfl rfl rfl rfl rfl rfl (by first | omega | (simp only [List.length_map, List.length_append, List.length_cons, List.length_nil] <;> omega) | (simp <;> omega))) rfl ?_)
      (refine nx (aA (gN rfl) rfl rfl rfl rfl rfl) rfl ?_)
      refine ⟨hil, wk_sub ⟨rfl, rfl, ?_, rfl, trivial⟩⟩
      rw [htk, cntF_snoc, if_pos hsf]
      rfl
    · have hsf : ¬ s.f = -1 - v := by simpa using hc
      show AWp _ _ _ _ _ _ _
      refine aR ?_
      (refine nx (aM (gN rfl) rfl rfl rfl rfl rfl) rfl ?_)
      (refine nx (a_add (gN rfl) rfl rfl rfl rfl rfl rfl (by first | omega | (simp only [List.length_map, List.length_append, List.length_cons, List.length_nil] <;> omega) | (simp <;> omega))) rfl ?_)
      (refine nx (aA (gN rfl) rfl rfl rfl rfl rfl) rfl ?_)
      refine ⟨hil, wk_sub ⟨rfl, rfl, ?_, rfl, trivial⟩⟩
      rw [htk, cntF_snoc, if_neg hsf]
      rfl
  · have hil : i = l.length := by
      simp only [List.length_map, decide_eq_false_iff_not] at hc
      omega
    subst hil
    rw [List.take_length]
    show AWp _ _ _ _ _ _ _
    refine aS (aR ?_)
    (refine nx (aM (gN rfl) rfl rfl rfl rfl rfl) rfl ?_)
    (refine nx (aA (gN rfl) rfl rfl rfl rfl rfl) rfl ?_)
    show AWp _ _ _ _ _ _ _
    exact aT ⟨.inr rfl, rfl⟩
theorem cov_vars (a b : Tm) : cov a b ↔ ∀ v ∈ b.nv, b.vs.count v ≤ a.vs.count v := by
  unfold cov Tm.nv
  constructor
  · intro h v _; exact h v
  · intro h v
    by_cases hv : v ∈ b.vs
    · exact h v ((mem_nub _ v).2 hv)
    · rw [List.count_eq_zero_of_not_mem hv]; omega
theorem vs_rng {t : Tm} (hr : t.rng) : ∀ v ∈ t.vs, 0 ≤ v ∧ v ≤ 9223372036854775807 := by
  intro v hv
  unfold Tm.vs vsL at hv
  obtain ⟨s, hs, rfl⟩ := List.mem_map.1 hv
  rw [List.mem_filter] at hs
  have h1 := Tm.rng_flat hr s hs.1
  have h2 : s.f < 0 := by simpa using hs.2
  omega
-- 
theorem rCovers_abs (W : World) (a b : Tm) (ha : a.rng) (hao : a.ok) (has : a.size ≤ 90000000000) (hb : b.rng) (hbo : b.ok) (hbs : b.size ≤ 90000000000) : AFun Try.prog W 57 [a.cw, b.cw] (.val (.b (covB a b))) := by
  refine afun_of (rs := [.b (covB a b)]) Try.func57 Try.ntmps57 rfl rfl rfl rfl ?_
  intro w U hW
  have hvl := varsF_len b.flat
  refine aS (aR ?_)
  (refine nx (a_box (gN rfl) rfl rfl rfl rfl rfl) rfl ?_)
  (refine nx (a_box (gN rfl) rfl rfl rfl rfl rfl) rfl ?_)
  (refine nx (aA (gN rfl) rfl rfl rfl rfl rfl) rfl ?_)
  show AWp _ _ _ _ _ _ _
  have f1 := refVars_abs w b hb hbo hbs
  rw [nv_vars] at f1 hvl
  refine aS (aR ?_)
  (refine nx (aL (gN rfl) rfl rfl rfl rfl rfl rfl rfl rfl rfl rfl rfl rfl) rfl ?_)
  (refine nx (a_call (gN rfl) rfl rfl rfl rfl rfl (f1)) rfl ?_)
  (refine nx (aA (gN rfl) rfl rfl rfl rfl rfl) rfl ?_)
  show AWp _ _ _ _ _ _ _
  have hvr : ∀ v ∈ b.nv, 0 ≤ v ∧ v ≤ 9223372036854775807 := fun v hv => vs_rng hb v ((mem_nub _ v).1 hv)
  have hcv := cov_vars a b
  obtain ⟨l, hl⟩ : ∃ l, l = b.nv := ⟨_, rfl⟩
  rw [← hl] at hvl hvr hcv ⊢
  unfold Tm.size at hbs
  have hsz := ints_size l
  refine aS (aS (aR ?_))
  (refine nx (aA (gN rfl) rfl rfl rfl rfl rfl) rfl ?_)
  show AWp _ _ _ _ _ _ _
  refine aB (awp_countI l.length (fun i => ∀ j v, j < i → l[j]? = some v → b.vs.count v ≤ a.vs.count v) (fun i => [(2, .bp 2 0 []), (100002, .bx a.cw), (3, .bp 3 0 []), (100003, .bx b.cw), (5, .val (.lst (l.map CV.i))), (6, .val (.i i))]) (wk_sub ⟨rfl, rfl, rfl, rfl, rfl, rfl, trivial⟩) (fun j v hj => by omega) ?_)
  intro i hi hI
  refine aS (aS (aR ?_))
  (refine nx (aM (gN rfl) rfl rfl rfl rfl rfl) rfl ?_)
  (refine nx (aM (gN rfl) rfl rfl rfl rfl rfl) rfl ?_)
  (refine nx (a_len (gN rfl) rfl rfl rfl rfl rfl rfl rfl) rfl ?_)
  (refine nx (a_lss (gN rfl) rfl rfl rfl rfl rfl rfl) rfl ?_)
  show AWp _ _ _ _ _ _ _
  refine aC rfl (fun hc => aK ?_) (fun hc => aE ?_)
  · have hil : i < l.length := by
      simp only [List.length_map, decide_eq_true_eq] at hc
      omega
    clear hc
    obtain ⟨v, hv⟩ : ∃ v, l[i]? = some v := ⟨l[i], List.getElem?_eq_getElem hil⟩
    have hv' := ints_at hv
    have hvm := List.mem_of_getElem? hv
    have c1 := rCount_abs w b v hb hbo (by unfold Tm.size; omega) (hvr v hvm)
    have c2 := rCount_abs w a v ha hao has (hvr v hvm)
    show AWp _ _ _ _ _ _ _
    refine aS (aB (aS (aD (by kernel_rfl) (by kernel_rfl) ?_)))
    (refine nx (aL (gN rfl) rfl rfl rfl rfl rfl rfl rfl rfl rfl rfl rfl rfl) rfl ?_)
    (refine nx (aM (gN rfl) rfl rfl rfl rfl rfl) rfl ?_)
    (refine nx (aM (gN rfl) rfl rfl rfl rfl rfl) rfl ?_)
    (refine nx (a_index (j := i) (gN rfl) rfl rfl rfl rfl rfl rfl rfl rfl rfl (hv') rfl (hsz)) rfl ?_)
    (refine nx (a_load_ad (gN rfl) rfl rfl rfl rfl rfl rfl rfl rfl rfl) rfl ?_)
    (refine nx (a_call (gN rfl) rfl rfl rfl rfl rfl (c1)) rfl ?_)
    (refine nx (aL (gN rfl) rfl rfl rfl rfl rfl rfl rfl rfl rfl rfl rfl rfl) rfl ?_)
    (refine nx (aM (gN rfl) rfl rfl rfl rfl rfl) rfl ?_)
    (refine nx (aM (gN rfl) rfl rfl rfl rfl rfl) rfl ?_)
    (refine nx (a_index (j := i) (gN rfl) rfl rfl rfl rfl rfl rfl rfl rfl rfl (hv') rfl (hsz)) rfl ?_)
    (refine nx (a_load_ad (gN rfl) rfl rfl rfl rfl rfl rfl rfl rfl rfl) rfl ?_)
    (refine nx (a_call (gN rfl) rfl rfl rfl rfl rfl (c2)) rfl ?_)
    (refine nx (a_gtr (gN rfl) rfl rfl rfl rfl rfl rfl) rfl ?_)
    refine ⟨by kernel_rfl, ?_⟩
    show AWp _ _ _ _ _ _ _
    refine aC rfl (fun hc => ?_) (fun hc => aK ?_)
    · have hn : ¬ b.vs.count v ≤ a.vs.count v := by
        have := of_decide_eq_true hc
        omega
      have hcf : covB a b = false := by
        rw [← Bool.not_eq_true, covB_iff, hcv]
        exact fun h => hn (h v hvm)
      rw [hcf]
      refine aS (aR ?_)
      (refine nx (aA (gN rfl) rfl rfl rfl rfl rfl) rfl ?_)
      show AWp _ _ _ _ _ _ _
      exact aT ⟨.inr rfl, rfl⟩
    · have hn : b.vs.count v ≤ a.vs.count v := by
        have := of_decide_eq_false hc
        omega
      show AWp _ _ _ _ _ _ _
      refine aR ?_
      (refine nx (aM (gN rfl) rfl rfl rfl rfl rfl) rfl ?_)
      (refine nx (a_add (gN rfl) rfl rfl rfl rfl rfl rfl (by first | omega | (simp only [List.length_map, List.length_append, List.length_cons, List.length_nil] <;> omega) | (simp <;> omega))) rfl ?_)
      (refine nx (aA (gN rfl) rfl rfl rfl rfl rfl) rfl ?_)
      refine ⟨hil, fun j u hj hu => ?_, wk_sub ⟨rfl, rfl, rfl, rfl, rfl, rfl, trivial⟩⟩
      rcases Nat.lt_or_ge j i with h | h
      · exact hI j u h hu
      · have : j = i := by omega
        subst this
        rw [hv] at hu
        cases hu
        exact hn
  · have hil : i = l.length := by
      simp only [List.length_map, decide_eq_false_iff_not] at hc
      omega
    subst hil
    have hcf : covB a b = true := by
      rw [covB_iff, hcv]
      intro v hv
      obtain ⟨j, hj⟩ := List.getElem?_of_mem hv
      refine hI j v ?_ hj
      rcases Nat.lt_or_ge j l.length with h | h
      · exact h
      · rw [List.getElem?_eq_none h] at hj; cases hj
    rw [hcf]
    show AWp _ _ _ _ _ _ _
    refine aS (aR ?_)
    (refine nx (aA (gN rfl) rfl rfl rfl rfl rfl) rfl ?_)
    show AWp _ _ _ _ _ _ _
    exact aT ⟨.inr rfl, rfl⟩
theorem same_kb (a b : Tm) : sameT a b = decide (kb a b = 0) := by rw [Bool.eq_iff_iff, sameT_iff, decide_eq_true_iff, kb_zero]
-- 
set_option maxHeartbeats 2000000 in
theorem rGreater_abs (W : World) : ∀ a : Tm, a.rng → a.ok → a.size ≤ 90000000000 → ∀ b : Tm, b.rng → b.ok → b.size ≤ 90000000000 → AFun Try.prog W 41 [a.cw, b.cw] (.val (.b (decide (kb a b = 1)))) := by
  intro a
  induction a using Tm.ind generalizing W with
  | h f l ih =>
  intro ha hao has b hb hbo hbs
  obtain ⟨a, hae⟩ : ∃ a, a = Tm.mk f l := ⟨_, rfl⟩
  have hfa : a.f = f := by rw [hae]
  have hla : a.l = l := by rw [hae]
  rw [← hae] at ha hao has ⊢
  rw [← hla] at ih
  clear hae hfa hla
  have hok' := (Tm.ok_iff _).1 hao
  have hr' := (Tm.rng_iff _).1 ha
  have hbok' := (Tm.ok_iff _).1 hbo
  have hbr' := (Tm.rng_iff _).1 hb
  have hsz := Tm.size_all a.l
  have hsz2 := Tm.size_all b.l
  obtain ⟨K, hK⟩ : ∃ K, K = decide (kb a b = 1) := ⟨_, rfl⟩
  rw [← hK]
  refine afun_of (rs := [.b K]) Try.func41 Try.ntmps41 rfl rfl rfl rfl ?_
  intro w U hW
  refine aS (aR ?_)
  (refine nx (a_box (gN rfl) rfl rfl rfl rfl rfl) rfl ?_)
  (refine nx (a_box (gN rfl) rfl rfl rfl rfl rfl) rfl ?_)
  (refine nx (aA (gN rfl) rfl rfl rfl rfl rfl) rfl ?_)
  show AWp _ _ _ _ _ _ _
  have s1 := refSame_abs w a b hao hbo
  have c1 := rCovers_abs w a b ha hao has hb hbo hbs
  by_cases hs : sameT a b = true
  · have hk : kb a b = 0 := by rw [same_kb] at hs; exact of_decide_eq_true hs
    rw [hs] at s1
    rw [hK, hk]
    refine aS (aS (aR ?_))
    (refine nx (aL (gN rfl) rfl rfl rfl rfl rfl rfl rfl rfl rfl rfl rfl rfl) rfl ?_)
    (refine nx (aL (gN rfl) rfl rfl rfl rfl rfl rfl rfl rfl rfl rfl rfl rfl) rfl ?_)
    (refine nx (a_call (gN rfl) rfl rfl rfl rfl rfl (s1)) rfl ?_)
    (refine nx (aM (gN rfl) rfl rfl rfl rfl rfl) rfl ?_)
    (refine ⟨_, _, _, a_off (go_off rfl rfl rfl rfl (by first | rfl | assumption | (simp; done) | (simp [*]; done))) rfl rfl rfl, rfl, ?_⟩)
    (refine ⟨_, _, _, a_off (go_off rfl rfl rfl rfl (by first | rfl | assumption | (simp; done) | (simp [*]; done))) rfl rfl rfl, rfl, ?_⟩)
    (refine ⟨_, _, _, a_off (go_off rfl rfl rfl rfl (by first | rfl | assumption | (simp; done) | (simp [*]; done))) rfl rfl rfl, rfl, ?_⟩)
    (refine ⟨_, _, _, a_off (go_off rfl rfl rfl rfl (by first | rfl | assumption | (simp; done) | (simp [*]; done))) rfl rfl rfl, rfl, ?_⟩)
    (refine ⟨_, _, _, aPt (gN rfl) rfl rfl rfl rfl rfl ?hb rfl, rfl, ?_⟩; case hb => (first | rfl | assumption | (simp; done)))
    show AWp _ _ _ _ _ _ _
    refine aC rfl (fun hc => ?_) (fun hc => by cases hc)
    refine aS (aR ?_)
    (refine nx (aA (gN rfl) rfl rfl rfl rfl rfl) rfl ?_)
    show AWp _ _ _ _ _ _ _
    exact aT ⟨.inr rfl, rfl⟩
  have hs : sameT a b = false := by simpa using hs
  have hk0 : kb a b ≠ 0 := by rw [same_kb] at hs; exact of_decide_eq_false hs
  rw [hs] at s1
  by_cases hcv : covB a b = true
  case neg =>
    have hk : ¬ kb a b = 1 := fun h => hcv ((covB_iff a b).2 ((kb_one a b).1 h).1)
    have hcv : covB a b = false := by simpa using hcv
    rw [hcv] at c1
    have hK0 : K = false := by rw [hK]; simpa using hk
    rw [hK0]
    refine aS (aS (aR ?_))
    (refine nx (aL (gN rfl) rfl rfl rfl rfl rfl rfl rfl rfl rfl rfl rfl rfl) rfl ?_)
    (refine nx (aL (gN rfl) rfl rfl rfl rfl rfl rfl rfl rfl rfl rfl rfl rfl) rfl ?_)
    (refine nx (a_call (gN rfl) rfl rfl rfl rfl rfl (s1)) rfl ?_)
    (refine nx (aM (gN rfl) rfl rfl rfl rfl rfl) rfl ?_)
    (refine nx (aL (gd_on rfl rfl rfl rfl (by first | rfl | assumption | (simp; done))) rfl rfl rfl rfl rfl rfl rfl rfl rfl rfl rfl rfl) rfl ?_)
    (refine nx (aL (gd_on rfl rfl rfl rfl (by first | rfl | assumption | (simp; done))) rfl rfl rfl rfl rfl rfl rfl rfl rfl rfl rfl rfl) rfl ?_)
    (refine nx (a_call (gd_on rfl rfl rfl rfl (by first | rfl | assumption | (simp; done))) rfl rfl rfl rfl rfl (c1)) rfl ?_)
    (refine nx (a_not (gd_on rfl rfl rfl rfl (by first | rfl | assumption | (simp; done))) rfl rfl rfl rfl rfl) rfl ?_)
    (refine ⟨_, _, _, aPf (gN rfl) rfl rfl rfl rfl rfl ?hb rfl, rfl, ?_⟩; case hb => (first | rfl | assumption | (simp; done)))
    show AWp _ _ _ _ _ _ _
    refine aC rfl (fun hc => ?_) (fun hc => by cases hc)
    refine aS (aR ?_)
    (refine nx (aA (gN rfl) rfl rfl rfl rfl rfl) rfl ?_)
    show AWp _ _ _ _ _ _ _
    exact aT ⟨.inr rfl, rfl⟩
  have hcov := (covB_iff a b).1 hcv
  rw [hcv] at c1
  refine aS (aS (aR ?_))
  (refine nx (aL (gN rfl) rfl rfl rfl rfl rfl rfl rfl rfl rfl rfl rfl rfl) rfl ?_)
  (refine nx (aL (gN rfl) rfl rfl rfl rfl rfl rfl rfl rfl rfl rfl rfl rfl) rfl ?_)
  (refine nx (a_call (gN rfl) rfl rfl rfl rfl rfl (s1)) rfl ?_)
  (refine nx (aM (gN rfl) rfl rfl rfl rfl rfl) rfl ?_)
  (refine nx (aL (gd_on rfl rfl rfl rfl (by first | rfl | assumption | (simp; done))) rfl rfl rfl rfl rfl rfl rfl rfl rfl rfl rfl rfl) rfl ?_)
  (refine nx (aL (gd_on rfl rfl rfl rfl (by first | rfl | assumption | (simp; done))) rfl rfl rfl rfl rfl rfl rfl rfl rfl rfl rfl rfl) rfl ?_)
  (refine nx (a_call (gd_on rfl rfl rfl rfl (by first | rfl | assumption | (simp; done))) rfl rfl rfl rfl rfl (c1)) rfl ?_)
  (refine nx (a_not (gd_on rfl rfl rfl rfl (by first | rfl | assumption | (simp; done))) rfl rfl rfl rfl rfl) rfl ?_)
  (refine ⟨_, _, _, aPf (gN rfl) rfl rfl rfl rfl rfl ?hb rfl, rfl, ?_⟩; case hb => (first | rfl | assumption | (simp; done)))
  show AWp _ _ _ _ _ _ _
  refine aC rfl (fun hc => by cases hc) (fun hc => aK ?_)
  show AWp _ _ _ _ _ _ _
  refine aS (aD (by kernel_rfl) (by kernel_rfl) ?_)
  (refine nx (aL (gN rfl) rfl rfl rfl rfl rfl rfl rfl rfl rfl rfl rfl rfl) rfl ?_)
  (refine nx (a_call (gN rfl) rfl rfl rfl rfl rfl (refFlat_abs w a hao has)) rfl ?_)
  (refine nx (a_len (gN rfl) rfl rfl rfl rfl rfl rfl rfl) rfl ?_)
  (refine nx (aL (gN rfl) rfl rfl rfl rfl rfl rfl rfl rfl rfl rfl rfl rfl) rfl ?_)
  (refine nx (a_call (gN rfl) rfl rfl rfl rfl rfl (refFlat_abs w b hbo hbs)) rfl ?_)
  (refine nx (a_len (gN rfl) rfl rfl rfl rfl rfl rfl rfl) rfl ?_)
  (refine nx (aA (gN rfl) rfl rfl rfl rfl rfl) rfl ?_)
  (refine nx (aA (gN rfl) rfl rfl rfl rfl rfl) rfl ?_)
  refine ⟨by kernel_rfl, ?_⟩
  show AWp _ _ _ _ _ _ _
  have ea : (a.flat.map Tm.cv).length = a.size := List.length_map ..
  have eb : (b.flat.map Tm.cv).length = b.size := List.length_map ..
  have hKeq : K = true ↔ b.size < a.size ∨ (a.size = b.size ∧ wi a b = 1) := by
    rw [hK, decide_eq_true_iff, kb_one]
    exact ⟨fun h => h.2, fun h => ⟨hcov, h⟩⟩
  refine AWp.wk (wk_sub (s' := [(2, AV.bp 2 0 []), (100002, .bx a.cw), (3, .bp 3 0 []), (100003, .bx b.cw), (5, .val (.i (a.size : Int))), (6, .val (.i (b.size : Int)))]) ⟨rfl, rfl, rfl, rfl, ?_, ?_, trivial⟩) ?_
  · rw [← ea]; rfl
  · rw [← eb]; rfl
  by_cases hmn : a.size = b.size
  case neg =>
    have g : decide ((a.size : Int) ≠ (b.size : Int)) = true := by simp; omega
    have hr : decide ((a.size : Int) > (b.size : Int)) = K := by
      rw [Bool.eq_iff_iff, decide_eq_true_iff, hKeq]
      omega
    refine aS (aS (aR ?_))
    (refine nx (aM (gN rfl) rfl rfl rfl rfl rfl) rfl ?_)
    (refine nx (aM (gN rfl) rfl rfl rfl rfl rfl) rfl ?_)
    (refine nx (a_neq (gN rfl) rfl rfl rfl rfl rfl rfl) rfl ?_)
    (refine nx (aM (gN rfl) rfl rfl rfl rfl rfl) rfl ?_)
    (refine ⟨_, _, _, a_off (go_off rfl rfl rfl rfl (by first | rfl | assumption | (simp; done) | (simp [*]; done))) rfl rfl rfl, rfl, ?_⟩)
    (refine ⟨_, _, _, a_off (go_off rfl rfl rfl rfl (by first | rfl | assumption | (simp; done) | (simp [*]; done))) rfl rfl rfl, rfl, ?_⟩)
    (refine ⟨_, _, _, a_off (go_off rfl rfl rfl rfl (by first | rfl | assumption | (simp; done) | (simp [*]; done))) rfl rfl rfl, rfl, ?_⟩)
    (refine ⟨_, _, _, aPt (gN rfl) rfl rfl rfl rfl rfl ?hb rfl, rfl, ?_⟩; case hb => (first | rfl | assumption | (simp; done)))
    (refine nx (aM (gN rfl) rfl rfl rfl rfl rfl) rfl ?_)
    (refine ⟨_, _, _, a_off (go_off rfl rfl rfl rfl (by first | rfl | assumption | (simp; done) | (simp [*]; done))) rfl rfl rfl, rfl, ?_⟩)
    (refine ⟨_, _, _, a_off (go_off rfl rfl rfl rfl (by first | rfl | assumption | (simp; done) | (simp [*]; done))) rfl rfl rfl, rfl, ?_⟩)
    (refine ⟨_, _, _, a_off (go_off rfl rfl rfl rfl (by first | rfl | assumption | (simp; done) | (simp [*]; done))) rfl rfl rfl, rfl, ?_⟩)
    (refine ⟨_, _, _, aPt (gN rfl) rfl rfl rfl rfl rfl ?hb rfl, rfl, ?_⟩; case hb => (first | rfl | assumption | (simp; done)))
    show AWp _ _ _ _ _ _ _
    refine aC rfl (fun hc => ?_) (fun hc => by cases hc)
    refine aS (aR ?_)
    (refine nx (aM (gN rfl) rfl rfl rfl rfl rfl) rfl ?_)
    (refine nx (aM (gN rfl) rfl rfl rfl rfl rfl) rfl ?_)
    (refine nx (a_gtr (gN rfl) rfl rfl rfl rfl rfl rfl) rfl ?_)
    (refine nx (aA (gN rfl) rfl rfl rfl rfl rfl) rfl ?_)
    show AWp _ _ _ _ _ _ _
    refine aT ⟨.inr rfl, ?_⟩
    rw [← hr]; rfl
  have g : decide ((a.size : Int) ≠ (b.size : Int)) = false := by simp; omega
  have hr : decide ((a.size : Int) > (b.size : Int)) = false := by simp; omega
  by_cases haf : a.f < 0
  · have g2 : decide (a.f < 0) = true := by simpa using haf
    have hK0 : K = false := by
      rw [← Bool.not_eq_true, hKeq, wi_one]
      omega
    refine aS (aS (aR ?_))
    (refine nx (aM (gN rfl) rfl rfl rfl rfl rfl) rfl ?_)
    (refine nx (aM (gN rfl) rfl rfl rfl rfl rfl) rfl ?_)
    (refine nx (a_neq (gN rfl) rfl rfl rfl rfl rfl rfl) rfl ?_)
    (refine nx (aM (gN rfl) rfl rfl rfl rfl rfl) rfl ?_)
    (refine nx (aF (gd_on rfl rfl rfl rfl (by first | rfl | assumption | (simp; done))) rfl rfl rfl rfl rfl rfl rfl rfl rfl) rfl ?_)
    (refine nx (aLb (gd_on rfl rfl rfl rfl (by first | rfl | assumption | (simp; done))) rfl rfl rfl rfl rfl rfl rfl rfl rfl rfl rfl rfl) rfl ?_)
    (refine nx (a_lss (gd_on rfl rfl rfl rfl (by first | rfl | assumption | (simp; done))) rfl rfl rfl rfl rfl rfl) rfl ?_)
    (refine ⟨_, _, _, aPf (gN rfl) rfl rfl rfl rfl rfl ?hb rfl, rfl, ?_⟩; case hb => (first | rfl | assumption | (simp; done)))
    (refine nx (aM (gN rfl) rfl rfl rfl rfl rfl) rfl ?_)
    (refine ⟨_, _, _, a_off (go_off rfl rfl rfl rfl (by first | rfl | assumption | (simp; done) | (simp [*]; done))) rfl rfl rfl, rfl, ?_⟩)
    (refine ⟨_, _, _, a_off (go_off rfl rfl rfl rfl (by first | rfl | assumption | (simp; done) | (simp [*]; done))) rfl rfl rfl, rfl, ?_⟩)
    (refine ⟨_, _, _, a_off (go_off rfl rfl rfl rfl (by first | rfl | assumption | (simp; done) | (simp [*]; done))) rfl rfl rfl, rfl, ?_⟩)
    (refine ⟨_, _, _, aPt (gN rfl) rfl rfl rfl rfl rfl ?hb rfl, rfl, ?_⟩; case hb => (first | rfl | assumption | (simp; done)))
    show AWp _ _ _ _ _ _ _
    refine aC rfl (fun hc => ?_) (fun hc => by cases hc)
    refine aS (aR ?_)
    (refine nx (aM (gN rfl) rfl rfl rfl rfl rfl) rfl ?_)
    (refine nx (aM (gN rfl) rfl rfl rfl rfl rfl) rfl ?_)
    (refine nx (a_gtr (gN rfl) rfl rfl rfl rfl rfl rfl) rfl ?_)
    (refine nx (aA (gN rfl) rfl rfl rfl rfl rfl) rfl ?_)
    show AWp _ _ _ _ _ _ _
    refine aT ⟨.inr rfl, ?_⟩
    rw [hK0, ← hr]; rfl
  have g2 : decide (a.f < 0) = false := by simpa using haf
  refine aS (aS (aR ?_))
  (refine nx (aM (gN rfl) rfl rfl rfl rfl rfl) rfl ?_)
  (refine nx (aM (gN rfl) rfl rfl rfl rfl rfl) rfl ?_)
  (refine nx (a_neq (gN rfl) rfl rfl rfl rfl rfl rfl) rfl ?_)
  (refine nx (aM (gN rfl) rfl rfl rfl rfl rfl) rfl ?_)
  (refine nx (aF (gd_on rfl rfl rfl rfl (by first | rfl | assumption | (simp; done))) rfl rfl rfl rfl rfl rfl rfl rfl rfl) rfl ?_)
  (refine nx (aLb (gd_on rfl rfl rfl rfl (by first | rfl | assumption | (simp; done))) rfl rfl rfl rfl rfl rfl rfl rfl rfl rfl rfl rfl) rfl ?_)
  (refine nx (a_lss (gd_on rfl rfl rfl rfl (by first | rfl | assumption | (simp; done))) rfl rfl rfl rfl rfl rfl) rfl ?_)
  (refine ⟨_, _, _, aPf (gN rfl) rfl rfl rfl rfl rfl ?hb rfl, rfl, ?_⟩; case hb => (first | rfl | assumption | (simp; done)))
  (refine nx (aM (gN rfl) rfl rfl rfl rfl rfl) rfl ?_)
  (refine nx (aF (gd_on rfl rfl rfl rfl (by first | rfl | assumption | (simp; done))) rfl rfl rfl rfl rfl rfl rfl rfl rfl) rfl ?_)
  (refine nx (aLb (gd_on rfl rfl rfl rfl (by first | rfl | assumption | (simp; done))) rfl rfl rfl rfl rfl rfl rfl rfl rfl rfl rfl rfl) rfl ?_)
  (refine nx (a_lss (gd_on rfl rfl rfl rfl (by first | rfl | assumption | (simp; done))) rfl rfl rfl rfl rfl rfl) rfl ?_)
  (refine ⟨_, _, _, aPf (gN rfl) rfl rfl rfl rfl rfl ?hb rfl, rfl, ?_⟩; case hb => (first | rfl | assumption | (simp; done)))
  show AWp _ _ _ _ _ _ _
  refine aC rfl (fun hc => ?_) (fun hc => aK ?_)
  · have hbf : b.f < 0 := by simpa using hc
    have hK0 : K = false := by
      rw [← Bool.not_eq_true, hKeq, wi_one]
      omega
    refine aS (aR ?_)
    (refine nx (aM (gN rfl) rfl rfl rfl rfl rfl) rfl ?_)
    (refine nx (aM (gN rfl) rfl rfl rfl rfl rfl) rfl ?_)
    (refine nx (a_gtr (gN rfl) rfl rfl rfl rfl rfl rfl) rfl ?_)
    (refine nx (aA (gN rfl) rfl rfl rfl rfl rfl) rfl ?_)
    show AWp _ _ _ _ _ _ _
    refine aT ⟨.inr rfl, ?_⟩
    rw [hK0, ← hr]; rfl
  have hbf : ¬ b.f < 0 := by simpa using hc
  clear hc
  have hKw : K = true ↔ b.f < a.f ∨ (a.f = b.f ∧ (b.l.length < a.l.length ∨ (a.l.length = b.l.length ∧ kbs a.l b.l = 1))) := by
    rw [hKeq, wi_one]
    constructor
    · rintro (h | ⟨_, _, _, h⟩)
      · omega
      · exact h
    · intro h; exact .inr ⟨hmn, haf, hbf, h⟩
  show AWp _ _ _ _ _ _ _
  refine aS (aS (aR ?_))
  (refine nx (aF (gN rfl) rfl rfl rfl rfl rfl rfl rfl rfl rfl) rfl ?_)
  (refine nx (aLb (gN rfl) rfl rfl rfl rfl rfl rfl rfl rfl rfl rfl rfl rfl) rfl ?_)
  (refine nx (aF (gN rfl) rfl rfl rfl rfl rfl rfl rfl rfl rfl) rfl ?_)
  (refine nx (aLb (gN rfl) rfl rfl rfl rfl rfl rfl rfl rfl rfl rfl rfl rfl) rfl ?_)
  (refine nx (a_neq (gN rfl) rfl rfl rfl rfl rfl rfl) rfl ?_)
  show AWp _ _ _ _ _ _ _
  refine aC rfl (fun hc => ?_) (fun hc => aK ?_)
  · have hne : a.f ≠ b.f := by simpa using hc
    have hr : decide (a.f > b.f) = K := by
      rw [Bool.eq_iff_iff, decide_eq_true_iff, hKw]
      omega
    refine aS (aR ?_)
    (refine nx (aF (gN rfl) rfl rfl rfl rfl rfl rfl rfl rfl rfl) rfl ?_)
    (refine nx (aLb (gN rfl) rfl rfl rfl rfl rfl rfl rfl rfl rfl rfl rfl rfl) rfl ?_)
    (refine nx (aF (gN rfl) rfl rfl rfl rfl rfl rfl rfl rfl rfl) rfl ?_)
    (refine nx (aLb (gN rfl) rfl rfl rfl rfl rfl rfl rfl rfl rfl rfl rfl rfl) rfl ?_)
    (refine nx (a_gtr (gN rfl) rfl rfl rfl rfl rfl rfl) rfl ?_)
    (refine nx (aA (gN rfl) rfl rfl rfl rfl rfl) rfl ?_)
    show AWp _ _ _ _ _ _ _
    refine aT ⟨.inr rfl, ?_⟩
    rw [← hr]; rfl
  have hff : a.f = b.f := by simpa using hc
  clear hc
  show AWp _ _ _ _ _ _ _
  refine aS (aS (aR ?_))
  (refine nx (aF (gN rfl) rfl rfl rfl rfl rfl rfl rfl rfl rfl) rfl ?_)
  (refine nx (aLb (gN rfl) rfl rfl rfl rfl rfl rfl rfl rfl rfl rfl rfl rfl) rfl ?_)
  (refine nx (a_len (gN rfl) rfl rfl rfl rfl rfl rfl rfl) rfl ?_)
  (refine nx (aF (gN rfl) rfl rfl rfl rfl rfl rfl rfl rfl rfl) rfl ?_)
  (refine nx (aLb (gN rfl) rfl rfl rfl rfl rfl rfl rfl rfl rfl rfl rfl rfl) rfl ?_)
  (refine nx (a_len (gN rfl) rfl rfl rfl rfl rfl rfl rfl) rfl ?_)
  (refine nx (a_neq (gN rfl) rfl rfl rfl rfl rfl rfl) rfl ?_)
  show AWp _ _ _ _ _ _ _
  refine aC rfl (fun hc => ?_) (fun hc => aK ?_)
  · have hne : a.l.length ≠ b.l.length := by
      have := of_decide_eq_true hc
      simp only [List.length_map] at this
      omega
    have hr : decide (((a.l.map Tm.cv).length : Int) > ((b.l.map Tm.cv).length : Int)) = K := by
      rw [Bool.eq_iff_iff, decide_eq_true_iff, hKw, List.length_map, List.length_map]
      omega
    refine aS (aR ?_)
    (refine nx (aF (gN rfl) rfl rfl rfl rfl rfl rfl rfl rfl rfl) rfl ?_)
    (refine nx (aLb (gN rfl) rfl rfl rfl rfl rfl rfl rfl rfl rfl rfl rfl rfl) rfl ?_)
    (refine nx (a_len (gN rfl) rfl rfl rfl rfl rfl rfl rfl) rfl ?_)
    (refine nx (aF (gN rfl) rfl rfl rfl rfl rfl rfl rfl rfl rfl) rfl ?_)
    (refine nx (aLb (gN rfl) rfl rfl rfl rfl rfl rfl rfl rfl rfl rfl rfl rfl) rfl ?_)
    (refine nx (a_len (gN rfl) rfl rfl rfl rfl rfl rfl rfl) rfl ?_)
    (refine nx (a_gtr (gN rfl) rfl rfl rfl rfl rfl rfl) rfl ?_)
    (refine nx (aA (gN rfl) rfl rfl rfl rfl rfl) rfl ?_)
    show AWp _ _ _ _ _ _ _
    refine aT ⟨.inr rfl, ?_⟩
    rw [← hr]; rfl
  have hll : a.l.length = b.l.length := by
    have := of_decide_eq_false hc
    simp only [List.length_map] at this
    omega
  clear hc
  show AWp _ _ _ _ _ _ _
  refine aS (aR ?_)
  (refine nx (aA (gN rfl) rfl rfl rfl rfl rfl) rfl ?_)
  show AWp _ _ _ _ _ _ _
  refine aS ?_
  refine aB (awp_countI a.l.length (fun k => ∀ (j : Nat) u v, j < k → a.l[j]? = some u → b.l[j]? = some v → kb u v = 0) (fun k => [(2, .bp 2 0 []), (100002, .bx a.cw), (3, .bp 3 0 []), (100003, .bx b.cw), (7, .val (.i k))]) (wk_sub ⟨rfl, rfl, rfl, rfl, rfl, trivial⟩) (fun j u v hj => by omega) ?_)
  intro k hk hI
  have hkl : k < a.l.length := by
    rcases Nat.lt_or_ge k a.l.length with h | h
    · exact h
    · exfalso
      obtain ⟨e1, e2⟩ := scs_none (l := a.l) (m := b.l) fun j u v hu hv => hI j u v (by
        rcases Nat.lt_or_ge j a.l.length with h | h
        · omega
        · rw [List.getElem?_eq_none h] at hu; cases hu) hu hv
      apply hk0
      rw [kb_eq, verd_zero]
      unfold wi
      rw [Tm.ps_of_sym (t := a) (by omega), Tm.ps_of_sym (t := b) (by omega), if_neg (by omega)]
      exact e2
  obtain ⟨x, hx⟩ : ∃ x, a.l[k]? = some x := ⟨a.l[k], List.getElem?_eq_getElem hkl⟩
  obtain ⟨y, hy⟩ : ∃ y, b.l[k]? = some y := ⟨b.l[k]'(by omega), List.getElem?_eq_getElem (by omega)⟩
  have hx' := Tm.map_at hx
  have hy' := Tm.map_at hy
  have hxm := List.mem_of_getElem? hx
  have hym := List.mem_of_getElem? hy
  have hxs := Tm.size_part (t := a) (s := x) (by rw [Tm.ps_of_sym (by omega)]; exact hxm)
  have hys := Tm.size_part (t := b) (s := y) (by rw [Tm.ps_of_sym (by omega)]; exact hym)
  have s2 := refSame_abs w x y (hok'.2 x hxm) (hbok'.2 y hym)
  have hrec := ih x hxm w (hr'.2 x hxm) (hok'.2 x hxm) (by omega) y (hbr'.2 y hym) (hbok'.2 y hym) (by omega)
  refine aS (aS (aD (by kernel_rfl) (by kernel_rfl) ?_))
  (refine nx (aF (gN rfl) rfl rfl rfl rfl rfl rfl rfl rfl rfl) rfl ?_)
  (refine nx (aLb (gN rfl) rfl rfl rfl rfl rfl rfl rfl rfl rfl rfl rfl rfl) rfl ?_)
  (refine nx (aM (gN rfl) rfl rfl rfl rfl rfl) rfl ?_)
  (refine nx (a_index (j := k) (gN rfl) rfl rfl rfl rfl rfl rfl rfl rfl rfl (hx') rfl (hsz)) rfl ?_)
  (refine nx (a_load_ad (gN rfl) rfl rfl rfl rfl rfl rfl rfl rfl rfl) rfl ?_)
  (refine nx (aF (gN rfl) rfl rfl rfl rfl rfl rfl rfl rfl rfl) rfl ?_)
  (refine nx (aLb (gN rfl) rfl rfl rfl rfl rfl rfl rfl rfl rfl rfl rfl rfl) rfl ?_)
  (refine nx (aM (gN rfl) rfl rfl rfl rfl rfl) rfl ?_)
  (refine nx (a_index (j := k) (gN rfl) rfl rfl rfl rfl rfl rfl rfl rfl rfl (hy') rfl (hsz2)) rfl ?_)
  (refine nx (a_load_ad (gN rfl) rfl rfl rfl rfl rfl rfl rfl rfl rfl) rfl ?_)
  (refine nx (a_call (gN rfl) rfl rfl rfl rfl rfl (s2)) rfl ?_)
  refine ⟨by kernel_rfl, ?_⟩
  show AWp _ _ _ _ _ _ _
  refine aC rfl (fun hc => aK ?_) (fun hc => aE ?_)
  · have h0 : kb x y = 0 := by rw [same_kb] at hc; exact of_decide_eq_true hc
    show AWp _ _ _ _ _ _ _
    refine aB (aR ?_)
    (refine nx (aM (gN rfl) rfl rfl rfl rfl rfl) rfl ?_)
    (refine nx (a_add (gN rfl) rfl rfl rfl rfl rfl rfl (by first | omega | (simp only [List.length_map, List.length_append, List.length_cons, List.length_nil] <;> omega) | (simp <;> omega))) rfl ?_)
    (refine nx (aA (gN rfl) rfl rfl rfl rfl rfl) rfl ?_)
    refine ⟨hkl, fun j u v hj hu hv => ?_, wk_sub ⟨rfl, rfl, rfl, rfl, rfl, trivial⟩⟩
    rcases Nat.lt_or_ge j k with h | h
    · exact hI j u v h hu hv
    · have : j = k := by omega
      subst this
      rw [hx] at hu
      rw [hy] at hv
      cases hu; cases hv
      exact h0
  · have hne : kb x y ≠ 0 := by rw [same_kb] at hc; exact of_decide_eq_false hc
    obtain ⟨e1, e2⟩ := scs_at hx hy hne hI
    have hr : decide (kb x y = 1) = K := by
      rw [Bool.eq_iff_iff, decide_eq_true_iff, hKw, e2]
      omega
    rw [hr] at hrec
    show AWp _ _ _ _ _ _ _
    refine aS (aD (by kernel_rfl) (by kernel_rfl) ?_)
    (refine nx (aF (gN rfl) rfl rfl rfl rfl rfl rfl rfl rfl rfl) rfl ?_)
    (refine nx (aLb (gN rfl) rfl rfl rfl rfl rfl rfl rfl rfl rfl rfl rfl rfl) rfl ?_)
    (refine nx (aM (gN rfl) rfl rfl rfl rfl rfl) rfl ?_)
    (refine nx (a_index (j := k) (gN rfl) rfl rfl rfl rfl rfl rfl rfl rfl rfl (hx') rfl (hsz)) rfl ?_)
    (refine nx (a_load_ad (gN rfl) rfl rfl rfl rfl rfl rfl rfl rfl rfl) rfl ?_)
    (refine nx (aF (gN rfl) rfl rfl rfl rfl rfl rfl rfl rfl rfl) rfl ?_)
    (refine nx (aLb (gN rfl) rfl rfl rfl rfl rfl rfl rfl rfl rfl rfl rfl rfl) rfl ?_)
    (refine nx (aM (gN rfl) rfl rfl rfl rfl rfl) rfl ?_)
    (refine nx (a_index (j := k) (gN rfl) rfl rfl rfl rfl rfl rfl rfl rfl rfl (hy') rfl (hsz2)) rfl ?_)
    (refine nx (a_load_ad (gN rfl) rfl rfl rfl rfl rfl rfl rfl rfl rfl) rfl ?_)
    (refine nx (a_call (gN rfl) rfl rfl rfl rfl rfl (hrec)) rfl ?_)
    (refine nx (aA (gN rfl) rfl rfl rfl rfl rfl) rfl ?_)
    refine ⟨by kernel_rfl, ?_⟩
    show AWp _ _ _ _ _ _ _
    exact aT ⟨.inr rfl, rfl⟩
end Go.Proofs.Ytglbohajmccehaa
namespace Go.Proofs.Ytglbohajmccehaa
open Go.RowKit
set_option linter.unusedVariables false
set_option linter.unusedSimpArgs false
section
variable {P : Program} {w0 : World} {U0 : UX} {nt : Nat} {ops : Array Oper} {o : Oper} {S : Nat → Option AV} {gs : List Nat} {d : Nat}
variable (hg : Gd w0 U0 nt ops o gs S) (hd : o.dst = some d) (hn : Nat.blt d nt = true) (h5 : Nat.blt d 100000 = true)
include hg hd hn h5
end
end Go.Proofs.Ytglbohajmccehaa
namespace Go.Proofs.Ytglbohajmccehaa
set_option linter.unusedVariables false
def ub : Nat → Nat → List Int
  | 0, n => [(n : Int)]
  | k + 1, n => if n < 128 then [(n : Int)] else ((128 + n % 128 : Nat) : Int) :: ub k (n / 128)

def ubytes (n : Nat) : List Int := ub 9 n

def lenz (n : Nat) : Nat := if n = 0 then 0 else (ubytes n).length

def zz (n : Int) : Nat := if 0 ≤ n then (2 * n).toNat else (-2 * n - 1).toNat
end Go.Proofs.Ytglbohajmccehaa
namespace Go.Proofs.Ytglbohajmccehaa
open Go.RowKit
set_option linter.unusedVariables false






def lastAt : List Int → Option Nat
  | [] => none
  | b :: r => if b < 128 then some 0 else (lastAt r).map (· + 1)

def lastInt (l : List Int) : Int := match lastAt l with | none => -1 | some i => (i : Int)

def val : List Int → Nat
  | [] => 0
  | b :: r => (b % 128).toNat + 128 * val r

def okNum (l : List Int) : Bool := decide (l.length ≤ 10 ∧ (l.length = 10 → l.getD (l.length - 1) 0 ≤ 1) ∧ (l.getD (l.length - 1) 0 ≠ 0 ∨ l.length = 1))

def unzz (n : Nat) : Int := if n % 2 = 0 then ((n / 2 : Nat) : Int) else -((n / 2 : Nat) : Int) - 1


def rdU (l : List Int) : Nat × Nat × Nat :=
  match lastAt l with
  | none => (0, 0, 10)
  | some i => if okNum (l.take (i + 1)) then (val (l.take (i + 1)), i + 1, 0) else (0, 0, 7)
def canon : List Int → Prop
  | [] => False
  | b :: r => match r with
    | [] => 0 < b ∧ b < 128
    | _ :: _ => 128 ≤ b ∧ b ≤ 255 ∧ canon r
end Go.Proofs.Ytglbohajmccehaa
namespace Go.Proofs.Ytglbohajmccehaa
set_option linter.unusedVariables false
set_option linter.unusedSimpArgs false
def wT : Tm → List Int
  | ⟨f, l⟩ => ubytes (zz f) ++ (if f < 0 then [] else ubytes l.length ++ (l.map wT).flatten)
def wL (l : Lt) : List Int := (if l.neg then 1 else 0) :: (wT l.a ++ wT l.b)
def wC (c : List Lt) : List Int := ubytes c.length ++ c.flatMap wL

def rN (most : Nat) (l : List Int) : Except Nat (Nat × Nat) := match rdU l with
  | (v, c, 0) => if v > most then .error 7 else .ok (v, c)
  | (_, _, e + 1) => .error (e + 1)
def rH (l : List Int) : Except Nat (Int × Nat) := match rdU l with
  | (v, c, 0) => if -2147483648 ≤ unzz v ∧ unzz v ≤ 2147483647 then .ok (unzz v, c) else .error 7
  | (_, _, e + 1) => .error (e + 1)
def rMany {α : Type} (g : List Int → Except Nat (α × Nat)) : Nat → List Int → Except Nat (List α × Nat)
  | 0, _ => .ok ([], 0)
  | n + 1, l => match g l with
    | .error e => .error e
    | .ok (x, c) => match rMany g n (l.drop c) with
      | .error e => .error e
      | .ok (xs, c') => .ok (x :: xs, c + c')
def rList {α : Type} (g : List Int → Except Nat (α × Nat)) (l : List Int) : Except Nat (List α × Nat) := match rN 4096 l with
  | .error e => .error e
  | .ok (n, c) => match rMany g n (l.drop c) with
    | .error e => .error e
    | .ok (xs, c') => .ok (xs, c + c')
def rT : Nat → List Int → Except Nat (Tm × Nat)
  | 0, _ => .error 7
  | d + 1, l => match rH l with
    | .error e => .error e
    | .ok (f, c) => if f < 0 then .ok (⟨f, []⟩, c) else match rList (rT d) (l.drop c) with
      | .error e => .error e
      | .ok (xs, c') => .ok (⟨f, xs⟩, c + c')
def rL (l : List Int) : Except Nat (Lt × Nat) := match rN 1 l with
  | .error e => .error e
  | .ok (n, c) => match rT 257 (l.drop c) with
    | .error e => .error e
    | .ok (a, c1) => match rT 257 (l.drop (c + c1)) with
      | .error e => .error e
      | .ok (b, c2) => .ok (⟨decide (n = 1), a, b⟩, c + c1 + c2)
def rC (l : List Int) : Except Nat (List Lt × Nat) := rList rL l

def wfB (l : List Int) : Prop := ∀ z ∈ l, 0 ≤ z ∧ z ≤ 255
def Rt {α : Type} (w : α → List Int) (l : List Int) (r : Except Nat (α × Nat)) : Prop := ∀ x c, r = .ok (x, c) → c ≤ l.length ∧ w x = l.take c
def Er {α : Type} (r : Except Nat (α × Nat)) : Prop := ∀ e, r = .error e → e = 7 ∨ e = 10
structure Thru {α : Type} (g : List Int → Except Nat (α × Nat)) (w : List Int) (x : α) : Prop where
  back : ∀ r, g (w ++ r) = .ok (x, w.length)
  cut : ∀ j, j < w.length → g (w.take j) = .error 10
end Go.Proofs.Ytglbohajmccehaa
namespace Go.Proofs.Ytglbohajmccehaa
open Go.RowKit
set_option linter.unusedVariables false
set_option linter.unusedSimpArgs false
set_option maxRecDepth 100000
abbrev by8 (z : Int) : CV := .sc (.int .u8 z)
def gU (zs : List Int) (p : Int) : Int × Int × Int :=
  if p < 0 ∨ p > zs.length then (0, 0, 1) else match rdU (zs.drop p.toNat) with
    | (v, c, 0) => (v, p + c, 0)
    | (_, _, e + 1) => (0, 0, ((e + 1 : Nat) : Int))
def gI (zs : List Int) (p : Int) : Int × Int × Int :=
  if p < 0 ∨ p > zs.length then (0, 0, 1) else match rdU (zs.drop p.toNat) with
    | (v, c, 0) => (unzz v, p + c, 0)
    | (_, _, e + 1) => (0, 0, ((e + 1 : Nat) : Int))
noncomputable abbrev rB (zs : List Int) : AS := [(300001, .mrow 5 1 (zs.map by8))]
def zT : Tm := ⟨0, []⟩
def zL : Lt := ⟨false, zT, zT⟩
def okP {α : Type} (q : Nat) : Except Nat (α × Nat) → Int
  | .ok (_, c) => ((q + c : Nat) : Int)
  | .error _ => 0
def okE {α : Type} : Except Nat (α × Nat) → Int
  | .ok _ => 0
  | .error e => (e : Int)
def okN : Except Nat (Nat × Nat) → Int
  | .ok (v, _) => (v : Int)
  | .error _ => 0
noncomputable def okT : Except Nat (Tm × Nat) → CV
  | .ok (x, _) => x.cw
  | .error _ => .row [.i 0, .lst []]
noncomputable def okG : Except Nat (Lt × Nat) → CV
  | .ok (x, _) => x.cw
  | .error _ => .row [.b false, .row [.i 0, .lst []], .row [.i 0, .lst []]]
noncomputable def okLT : Except Nat (List Tm × Nat) → List CV
  | .ok (x, _) => x.map Tm.cv
  | .error _ => []
noncomputable def okLG : Except Nat (List Lt × Nat) → List CV
  | .ok (x, _) => x.map Lt.cv
  | .error _ => []
noncomputable abbrev tupN (q : Nat) (r : Except Nat (Nat × Nat)) : List CV := [.sc (.int .u64 (okN r)), .i (okP q r), by8 (okE r)]
noncomputable abbrev tupT (q : Nat) (r : Except Nat (Tm × Nat)) : List CV := [okT r, .i (okP q r), by8 (okE r)]
noncomputable abbrev tupG (q : Nat) (r : Except Nat (Lt × Nat)) : List CV := [okG r, .i (okP q r), by8 (okE r)]
noncomputable abbrev tupLT (q : Nat) (r : Except Nat (List Tm × Nat)) : List CV := [.lst (okLT r), .i (okP q r), by8 (okE r)]
noncomputable abbrev tupLG (q : Nat) (r : Except Nat (List Lt × Nat)) : List CV := [.lst (okLG r), .i (okP q r), by8 (okE r)]
def rHd (l : List Int) : Except Nat (Tm × Nat) := match rH l with
  | .error e => .error e
  | .ok (f, c) => .ok (⟨f, []⟩, c)
def cmb {α : Type} (xs : List α) (q0 q : Nat) : Except Nat (List α × Nat) → Except Nat (List α × Nat)
  | .error e => .error e
  | .ok (ys, c) => .ok (xs ++ ys, q - q0 + c)
def gC (zs : List Int) (p : Int) : Except Nat (List Lt × Nat) := if p < 0 ∨ p > zs.length then .error 1 else rC (zs.drop p.toNat)
def exC : Lt := ⟨false, ⟨3, [⟨-1, []⟩]⟩, ⟨1, []⟩⟩
def finL (size : Int) (l : Lt) : Bool := decide (0 ≤ smallT l.a size 8) && decide (0 ≤ smallT l.b size 8)
def fineC (c : List Lt) (most : Nat) (size : Int) : Bool := decide (c.length ≤ most) && c.all (finL size)
-- 
set_option maxHeartbeats 1000000 in
theorem fine11_abs (W : World) (c : List Lt) (most : Nat) (size : Int) (hm : most ≤ 1000) (h0 : 0 ≤ size) (h1 : size ≤ 60) (hr : okC c) : AFun Try.prog W 9 [.lst (c.map Lt.cv), .i (most : Int), .i size] (.val (.b (fineC c most size))) := by
  have hsz := Lt.size_all c
  refine afun_of (rs := [.b (fineC c most size)]) Try.func9 Try.ntmps9 rfl rfl rfl rfl ?_
  intro w U hW
  refine aS (aR ?_)
  (refine nx (aA (gN rfl) rfl rfl rfl rfl rfl) rfl ?_)
  show AWp _ _ _ _ _ _ _
  refine aS (aS (aR ?_))
  (refine nx (aM (gN rfl) rfl rfl rfl rfl rfl) rfl ?_)
  (refine nx (a_len (gN rfl) rfl rfl rfl rfl rfl rfl rfl) rfl ?_)
  (refine nx (aM (gN rfl) rfl rfl rfl rfl rfl) rfl ?_)
  (refine nx (a_gtr (gN rfl) rfl rfl rfl rfl rfl rfl) rfl ?_)
  show AWp _ _ _ _ _ _ _
  refine aC rfl (fun hc => ?_) (fun hc => ?_)
  · have hno : fineC c most size = false := by
      have := of_decide_eq_true hc
      rw [List.length_map] at this
      unfold fineC
      rw [show decide (c.length ≤ most) = false by rw [decide_eq_false_iff_not]; omega]
      rfl
    rw [hno]
    refine aS (aR ?_)
    (refine nx (aA (gN rfl) rfl rfl rfl rfl rfl) rfl ?_)
    show AWp _ _ _ _ _ _ _
    exact aT (And.intro (.inr rfl) rfl)
  have hl : c.length ≤ most := by
    have := of_decide_eq_false hc
    rw [List.length_map] at this
    omega
  refine aK ?_
  show AWp _ _ _ _ _ _ _
  refine aS (aS (aR ?_))
  (refine nx (aA (gN rfl) rfl rfl rfl rfl rfl) rfl ?_)
  show AWp _ _ _ _ _ _ _
  refine aB (awp_countI c.length (fun k => ∀ l ∈ c.take k, finL size l = true) (fun k => [(0, .val (.lst (c.map Lt.cv))), (2, .val (.i size)), (7, .val (.i k))]) (wk_sub ⟨rfl, rfl, rfl, trivial⟩) (by simp) ?_)
  intro k hk hI
  refine aS (aS (aR ?_))
  (refine nx (aM (gN rfl) rfl rfl rfl rfl rfl) rfl ?_)
  (refine nx (aM (gN rfl) rfl rfl rfl rfl rfl) rfl ?_)
  (refine nx (a_len (gN rfl) rfl rfl rfl rfl rfl rfl rfl) rfl ?_)
  (refine nx (a_lss (gN rfl) rfl rfl rfl rfl rfl rfl) rfl ?_)
  show AWp _ _ _ _ _ _ _
  refine aC rfl (fun hlt => ?_) (fun hlt => ?_)
  · have hkl : k < c.length := by simpa using hlt
    obtain ⟨x, hx⟩ : ∃ x, c[k]? = some x := ⟨c[k], List.getElem?_eq_getElem hkl⟩
    have hx' := Lt.map_at hx
    have hxm := List.mem_of_getElem? hx
    have sa := small_abs w x.a size 8 (hr x hxm).1 h0 h1 (by decide) (by decide)
    have sb := small_abs w x.b size 8 (hr x hxm).2 h0 h1 (by decide) (by decide)
    have hno : finL size x = false → fineC c most size = false := fun h => by
      unfold fineC
      rw [show c.all (finL size) = false from List.all_eq_false.2 ⟨x, hxm, by rw [h]; simp⟩, Bool.and_false]
    refine aK ?_
    show AWp _ _ _ _ _ _ _
    by_cases ha : smallT x.a size 8 < 0
    · have ga : decide (smallT x.a size 8 < 0) = true := by simpa using ha
      rw [hno (by unfold finL; rw [show decide (0 ≤ smallT x.a size 8) = false by rw [decide_eq_false_iff_not]; omega]; rfl)]
      refine aS (aB (aS (aR ?_)))
      (refine nx (aM (gN rfl) rfl rfl rfl rfl rfl) rfl ?_)
      (refine nx (aM (gN rfl) rfl rfl rfl rfl rfl) rfl ?_)
      (refine nx (a_index (j := k) (gN rfl) rfl rfl rfl rfl rfl rfl rfl rfl rfl (hx') rfl (hsz)) rfl ?_)
      (refine nx (a_field_ad (gN rfl) rfl rfl rfl rfl rfl rfl rfl rfl rfl rfl rfl) rfl ?_)
      (refine nx (a_load_ad (gN rfl) rfl rfl rfl rfl rfl rfl rfl rfl rfl) rfl ?_)
      (refine nx (aM (gN rfl) rfl rfl rfl rfl rfl) rfl ?_)
      (refine nx (a_call (gN rfl) rfl rfl rfl rfl rfl (sa)) rfl ?_)
      (refine nx (a_lss (gN rfl) rfl rfl rfl rfl rfl rfl) rfl ?_)
      (refine nx (aM (gN rfl) rfl rfl rfl rfl rfl) rfl ?_)
      (refine ⟨_, _, _, a_off (go_off rfl rfl rfl rfl (by first | rfl | assumption | (simp; done) | (simp [*]; done))) rfl rfl rfl, rfl, ?_⟩)
      (refine ⟨_, _, _, a_off (go_off rfl rfl rfl rfl (by first | rfl | assumption | (simp; done) | (simp [*]; done))) rfl rfl rfl, rfl, ?_⟩)
      (refine ⟨_, _, _, a_off (go_off rfl rfl rfl rfl (by first | rfl | assumption | (simp; done) | (simp [*]; done))) rfl rfl rfl, rfl, ?_⟩)
      (refine ⟨_, _, _, a_off (go_off rfl rfl rfl rfl (by first | rfl | assumption | (simp; done) | (simp [*]; done))) rfl rfl rfl, rfl, ?_⟩)
      (refine ⟨_, _, _, a_off (go_off rfl rfl rfl rfl (by first | rfl | assumption | (simp; done) | (simp [*]; done))) rfl rfl rfl, rfl, ?_⟩)
      (refine ⟨_, _, _, a_off (go_off rfl rfl rfl rfl (by first | rfl | assumption | (simp; done) | (simp [*]; done))) rfl rfl rfl, rfl, ?_⟩)
      (refine ⟨_, _, _, a_off (go_off rfl rfl rfl rfl (by first | rfl | assumption | (simp; done) | (simp [*]; done))) rfl rfl rfl, rfl, ?_⟩)
      (refine ⟨_, _, _, a_off (go_off rfl rfl rfl rfl (by first | rfl | assumption | (simp; done) | (simp [*]; done))) rfl rfl rfl, rfl, ?_⟩)
      (refine ⟨_, _, _, aPt (gN rfl) rfl rfl rfl rfl rfl ?hb rfl, rfl, ?_⟩; case hb => (first | rfl | assumption | (simp; done)))
      show AWp _ _ _ _ _ _ _
      refine aC rfl (fun hc2 => ?_) (fun hc2 => by cases hc2)
      refine aS (aR ?_)
      (refine nx (aA (gN rfl) rfl rfl rfl rfl rfl) rfl ?_)
      show AWp _ _ _ _ _ _ _
      exact aT (And.intro (.inr rfl) rfl)
    · have ga : decide (smallT x.a size 8 < 0) = false := by simpa using ha
      refine aS (aB (aS (aR ?_)))
      (refine nx (aM (gN rfl) rfl rfl rfl rfl rfl) rfl ?_)
      (refine nx (aM (gN rfl) rfl rfl rfl rfl rfl) rfl ?_)
      (refine nx (a_index (j := k) (gN rfl) rfl rfl rfl rfl rfl rfl rfl rfl rfl (hx') rfl (hsz)) rfl ?_)
      (refine nx (a_field_ad (gN rfl) rfl rfl rfl rfl rfl rfl rfl rfl rfl rfl rfl) rfl ?_)
      (refine nx (a_load_ad (gN rfl) rfl rfl rfl rfl rfl rfl rfl rfl rfl) rfl ?_)
      (refine nx (aM (gN rfl) rfl rfl rfl rfl rfl) rfl ?_)
      (refine nx (a_call (gN rfl) rfl rfl rfl rfl rfl (sa)) rfl ?_)
      (refine nx (a_lss (gN rfl) rfl rfl rfl rfl rfl rfl) rfl ?_)
      (refine nx (aM (gN rfl) rfl rfl rfl rfl rfl) rfl ?_)
      (refine nx (aM (gd_on rfl rfl rfl rfl (by first | rfl | assumption | (simp; done))) rfl rfl rfl rfl rfl) rfl ?_)
      (refine nx (aM (gd_on rfl rfl rfl rfl (by first | rfl | assumption | (simp; done))) rfl rfl rfl rfl rfl) rfl ?_)
      (refine nx (a_index (j := k) (gd_on rfl rfl rfl rfl (by first | rfl | assumption | (simp; done))) rfl rfl rfl rfl rfl rfl rfl rfl rfl (hx') rfl (hsz)) rfl ?_)
      (refine nx (a_field_ad (gd_on rfl rfl rfl rfl (by first | rfl | assumption | (simp; done))) rfl rfl rfl rfl rfl rfl rfl rfl rfl rfl rfl) rfl ?_)
      (refine nx (a_load_ad (gd_on rfl rfl rfl rfl (by first | rfl | assumption | (simp; done))) rfl rfl rfl rfl rfl rfl rfl rfl rfl) rfl ?_)
      (refine nx (aM (gd_on rfl rfl rfl rfl (by first | rfl | assumption | (simp; done))) rfl rfl rfl rfl rfl) rfl ?_)
      (refine nx (a_call (gd_on rfl rfl rfl rfl (by first | rfl | assumption | (simp; done))) rfl rfl rfl rfl rfl (sb)) rfl ?_)
      (refine nx (a_lss (gd_on rfl rfl rfl rfl (by first | rfl | assumption | (simp; done))) rfl rfl rfl rfl rfl rfl) rfl ?_)
      (refine ⟨_, _, _, aPf (gN rfl) rfl rfl rfl rfl rfl ?hb rfl, rfl, ?_⟩; case hb => (first | rfl | assumption | (simp; done)))
      show AWp _ _ _ _ _ _ _
      refine aC rfl (fun hc2 => ?_) (fun hc2 => ?_)
      · have hb := of_decide_eq_true hc2
        rw [hno (by unfold finL; rw [show decide (0 ≤ smallT x.b size 8) = false by rw [decide_eq_false_iff_not]; omega]; simp)]
        refine aS (aR ?_)
        (refine nx (aA (gN rfl) rfl rfl rfl rfl rfl) rfl ?_)
        show AWp _ _ _ _ _ _ _
        exact aT (And.intro (.inr rfl) rfl)
      · have hb := of_decide_eq_false hc2
        refine aK ?_
        show AWp _ _ _ _ _ _ _
        refine aR ?_
        (refine nx (aM (gN rfl) rfl rfl rfl rfl rfl) rfl ?_)
        (refine nx (a_add (gN rfl) rfl rfl rfl rfl rfl rfl (by first | omega | (simp only [List.length_map, List.length_append, List.length_cons, List.length_nil] <;> omega) | (simp <;> omega))) rfl ?_)
        (refine nx (aA (gN rfl) rfl rfl rfl rfl rfl) rfl ?_)
        refine ⟨hkl, ?_, wk_sub ⟨rfl, rfl, rfl, trivial⟩⟩
        intro y hy
        rw [List.take_add_one, hx, List.mem_append] at hy
        rcases hy with hy | hy
        · exact hI y hy
        · simp at hy
          rw [hy]
          unfold finL
          rw [show decide (0 ≤ smallT x.a size 8) = true by rw [decide_eq_true_eq]; omega, show decide (0 ≤ smallT x.b size 8) = true by rw [decide_eq_true_eq]; omega]
          rfl
  · have hkl : k = c.length := by
      have : ¬ k < c.length := by simpa using hlt
      omega
    subst hkl
    rw [List.take_length] at hI
    have hyes : fineC c most size = true := by
      unfold fineC
      rw [show decide (c.length ≤ most) = true by simpa using hl, Bool.true_and]
      exact List.all_eq_true.2 hI
    rw [hyes]
    refine aE ?_
    show AWp _ _ _ _ _ _ _
    refine aS (aR ?_)
    (refine nx (aA (gN rfl) rfl rfl rfl rfl rfl) rfl ?_)
    show AWp _ _ _ _ _ _ _
    exact aT (And.intro (.inr rfl) rfl)
theorem fineC_facts {c : List Lt} {most : Nat} {size : Int} (h0 : 0 ≤ size) (h1 : size ≤ 60) (h : fineC c most size = true) : c.length ≤ most ∧ ∀ l ∈ c, ((l.a.sm ∧ l.a.rng ∧ l.a.ok) ∧ (l.a.wt : Int) ≤ size ∧ (l.a.size : Int) ≤ size) ∧ ((l.b.sm ∧ l.b.rng ∧ l.b.ok) ∧ (l.b.wt : Int) ≤ size ∧ (l.b.size : Int) ≤ size) := by
  unfold fineC at h
  rw [Bool.and_eq_true, decide_eq_true_eq] at h
  refine ⟨h.1, fun l hl => ?_⟩
  have hf := List.all_eq_true.1 h.2 l hl
  unfold finL at hf
  rw [Bool.and_eq_true, decide_eq_true_eq, decide_eq_true_eq] at hf
  have key : ∀ t : Tm, 0 ≤ smallT t size 8 → (t.sm ∧ t.rng ∧ t.ok) ∧ (t.wt : Int) ≤ size ∧ (t.size : Int) ≤ size := fun t ht => by
    have hsm := small_sm t _ _ ht
    have hwt : (t.wt : Int) ≤ size := by have := (small_bounds t size 8 h0).2.2 ht; omega
    have := t.size_wt
    exact ⟨⟨hsm, Tm.sm_rng hsm, Tm.wt_ok (t := t) (by omega)⟩, hwt, by omega⟩
  exact ⟨key _ hf.1, key _ hf.2⟩
-- 
set_option maxHeartbeats 1000000 in
theorem of11I_abs (W : World) (c : List Lt) (hl : c.length ≤ 1000000) (hc : ∀ l ∈ c, l.a.ok ∧ l.b.ok) : AFun Try.prog W 23 [.lst (c.map Lt.cv)] (.val (.lst ((c.map id).map Lt.cv))) := by
  have hsz := Lt.size_all c
  refine afun_of (rs := [.lst ((c.map id).map Lt.cv)]) Try.func23 Try.ntmps23 rfl rfl rfl rfl ?_
  intro w U hW
  refine aS (aR ?_)
  (refine nx (aA (gN rfl) rfl rfl rfl rfl rfl) rfl ?_)
  show AWp _ _ _ _ _ _ _
  refine aS (aR ?_)
  (refine nx (aA (gN rfl) rfl rfl rfl rfl rfl) rfl ?_)
  show AWp _ _ _ _ _ _ _
  refine aS (aS (aR ?_))
  (refine nx (aA (gN rfl) rfl rfl rfl rfl rfl) rfl ?_)
  show AWp _ _ _ _ _ _ _
  refine aB (awp_count c.length (fun k => [(0, .val (.lst (c.map Lt.cv))), (3, .own (.lst (((c.take k).map id).map Lt.cv)) 200031), (200031, .tok 35 5), (4, .val (.i k))]) ((wk_nil 3 200031 35 5 rfl rfl rfl rfl rfl rfl rfl).trans (wk_sub ⟨rfl, rfl, rfl, rfl, trivial⟩)) ?_)
  intro k hk
  have hks := Lt.size_all ((c.take k).map id)
  refine aS (aS (aR ?_))
  (refine nx (aM (gN rfl) rfl rfl rfl rfl rfl) rfl ?_)
  (refine nx (aM (gN rfl) rfl rfl rfl rfl rfl) rfl ?_)
  (refine nx (a_len (gN rfl) rfl rfl rfl rfl rfl rfl rfl) rfl ?_)
  (refine nx (a_lss (gN rfl) rfl rfl rfl rfl rfl rfl) rfl ?_)
  show AWp _ _ _ _ _ _ _
  refine aC rfl (fun hlt => ?_) (fun hlt => ?_)
  · have hkl : k < c.length := by simpa using hlt
    obtain ⟨x, hx⟩ : ∃ x, c[k]? = some x := ⟨c[k], List.getElem?_eq_getElem hkl⟩
    have hx' := Lt.map_at hx
    have hxm := List.mem_of_getElem? hx
    have hkn : (((c.take k).map id).map Lt.cv).length ≤ 1000000 := by rw [List.length_map, List.length_map, List.length_take]; omega
    refine aK ?_
    show AWp _ _ _ _ _ _ _
    refine aS (aB (aD (by kernel_rfl) (by kernel_rfl) ?_))
    (refine nx (aM (gN rfl) rfl rfl rfl rfl rfl) rfl ?_)
    (refine nx (aM (gN rfl) rfl rfl rfl rfl rfl) rfl ?_)
    (refine nx (aM (gN rfl) rfl rfl rfl rfl rfl) rfl ?_)
    (refine nx (a_index (j := k) (gN rfl) rfl rfl rfl rfl rfl rfl rfl rfl rfl (hx') rfl (hsz)) rfl ?_)
    (refine nx (a_field_ad (gN rfl) rfl rfl rfl rfl rfl rfl rfl rfl rfl rfl rfl) rfl ?_)
    (refine nx (a_load_ad (gN rfl) rfl rfl rfl rfl rfl rfl rfl rfl rfl) rfl ?_)
    (refine nx (aM (gN rfl) rfl rfl rfl rfl rfl) rfl ?_)
    (refine nx (aM (gN rfl) rfl rfl rfl rfl rfl) rfl ?_)
    (refine nx (a_index (j := k) (gN rfl) rfl rfl rfl rfl rfl rfl rfl rfl rfl (hx') rfl (hsz)) rfl ?_)
    (refine nx (a_field_ad (gN rfl) rfl rfl rfl rfl rfl rfl rfl rfl rfl rfl rfl) rfl ?_)
    (refine nx (a_load_ad (gN rfl) rfl rfl rfl rfl rfl rfl rfl rfl rfl) rfl ?_)
    (refine nx (a_call (gN rfl) rfl rfl rfl rfl rfl (of_abs w x.a (hc x hxm).1)) rfl ?_)
    (refine nx (aM (gN rfl) rfl rfl rfl rfl rfl) rfl ?_)
    (refine nx (aM (gN rfl) rfl rfl rfl rfl rfl) rfl ?_)
    (refine nx (a_index (j := k) (gN rfl) rfl rfl rfl rfl rfl rfl rfl rfl rfl (hx') rfl (hsz)) rfl ?_)
    (refine nx (a_field_ad (gN rfl) rfl rfl rfl rfl rfl rfl rfl rfl rfl rfl rfl) rfl ?_)
    (refine nx (a_load_ad (gN rfl) rfl rfl rfl rfl rfl rfl rfl rfl rfl) rfl ?_)
    (refine nx (a_call (gN rfl) rfl rfl rfl rfl rfl (of_abs w x.b (hc x hxm).2)) rfl ?_)
    (refine nx (a_build (gN rfl) rfl rfl rfl rfl rfl rfl rfl rfl rfl rfl rfl) rfl ?_)
    (refine nx (a_bslice (gN rfl) rfl rfl rfl rfl rfl rfl rfl rfl rfl rfl rfl rfl rfl) rfl ?_)
    (refine nx (a_app (gN rfl) rfl rfl rfl rfl rfl rfl rfl rfl rfl rfl rfl rfl rfl rfl rfl (by first | assumption | exact sZ rfl | exact Tm.size_all _ | exact Bd.size_all _ | exact ints_size _ | exact bys_size _ | exact Lt.size_all _) (by first | assumption | exact sZ rfl | exact Tm.size_all _ | exact Bd.size_all _ | exact ints_size _ | exact bys_size _ | exact Lt.size_all _) (by first | omega | (simp only [List.length_map, List.length_append, List.length_cons, List.length_nil] <;> omega) | (simp <;> omega))) rfl ?_)
    (refine nx (aA (gN rfl) rfl rfl rfl rfl rfl) rfl ?_)
    refine ⟨by kernel_rfl, ?_⟩
    show AWp _ _ _ _ _ _ _
    refine aR ?_
    (refine nx (aM (gN rfl) rfl rfl rfl rfl rfl) rfl ?_)
    (refine nx (a_add (gN rfl) rfl rfl rfl rfl rfl rfl (by first | omega | (simp only [List.length_map, List.length_append, List.length_cons, List.length_nil] <;> omega) | (simp <;> omega))) rfl ?_)
    (refine nx (aA (gN rfl) rfl rfl rfl rfl rfl) rfl ?_)
    refine ⟨hkl, Wk.trans (wk_sub (s' := [(0, .val (.lst (c.map Lt.cv))), (3, .own (.lst (((c.take (k + 1)).map id).map Lt.cv)) 300031), (300031, .tok 35 5), (4, .val (.i ((k + 1 : Nat) : Int)))]) ⟨rfl, ?_, rfl, rfl, trivial⟩) (wk_ren 300031 200031 rfl rfl rfl rfl)⟩
    rw [List.take_add_one, hx, List.map_append, List.map_append]
    rfl
  · have hkl : k = c.length := by
      have : ¬ k < c.length := by simpa using hlt
      omega
    subst hkl
    rw [List.take_length]
    refine aE ?_
    show AWp _ _ _ _ _ _ _
    refine aS (aR ?_)
    (refine nx (aM (gN rfl) rfl rfl rfl rfl rfl) rfl ?_)
    (refine nx (aA (gN rfl) rfl rfl rfl rfl rfl) rfl ?_)
    show AWp _ _ _ _ _ _ _
    exact aT (And.intro (.inr rfl) rfl)
theorem of11_abs (W : World) (c : List Lt) (hl : c.length ≤ 1000000) (hc : ∀ l ∈ c, l.a.ok ∧ l.b.ok) : AFun Try.prog W 23 [.lst (c.map Lt.cv)] (.val (.lst (c.map Lt.cv))) := by
  have := of11I_abs W c hl hc
  rw [List.map_id] at this
  exact this
def sameL (x y : Lt) : Bool := (x.neg == y.neg) && (sameT x.a y.a && sameT x.b y.b)
def sameC : List Lt → List Lt → Bool
  | [], [] => true
  | x :: l, y :: m => sameL x y && sameC l m
  | _, _ => false
-- 
theorem rTms_abs (W : World) (l : Lt) : AFun Try.prog W 14 [l.cw] (.val (.lst ((tmsL l).map Tm.cv))) := by
  refine afun_of (rs := [.lst ((tmsL l).map Tm.cv)]) Try.func14 Try.ntmps14 rfl rfl rfl rfl ?_
  intro w U hW
  refine aS (aR ?_)
  (refine nx (a_box (gN rfl) rfl rfl rfl rfl rfl) rfl ?_)
  (refine nx (aA (gN rfl) rfl rfl rfl rfl rfl) rfl ?_)
  show AWp _ _ _ _ _ _ _
  refine aS (aS (aR ?_))
  (refine nx (aF (gN rfl) rfl rfl rfl rfl rfl rfl rfl rfl rfl) rfl ?_)
  (refine nx (aLb (gN rfl) rfl rfl rfl rfl rfl rfl rfl rfl rfl rfl rfl rfl) rfl ?_)
  show AWp _ _ _ _ _ _ _
  refine aC rfl (fun hc => ?_) (fun hc => ?_)
  · have hc : l.neg = true := hc
    have e : CV.lst ((tmsL l).map Tm.cv) = .lst [l.a.cw, l.a.cw, l.b.cw, l.b.cw] := by unfold tmsL; rw [if_pos hc]; simp only [List.map_cons, List.map_nil, Tm.cv_eq]
    rw [e]
    refine aS (aR ?_)
    (refine nx (aF (gN rfl) rfl rfl rfl rfl rfl rfl rfl rfl rfl) rfl ?_)
    (refine nx (aLb (gN rfl) rfl rfl rfl rfl rfl rfl rfl rfl rfl rfl rfl rfl) rfl ?_)
    (refine nx (aF (gN rfl) rfl rfl rfl rfl rfl rfl rfl rfl rfl) rfl ?_)
    (refine nx (aLb (gN rfl) rfl rfl rfl rfl rfl rfl rfl rfl rfl rfl rfl rfl) rfl ?_)
    (refine nx (aF (gN rfl) rfl rfl rfl rfl rfl rfl rfl rfl rfl) rfl ?_)
    (refine nx (aLb (gN rfl) rfl rfl rfl rfl rfl rfl rfl rfl rfl rfl rfl rfl) rfl ?_)
    (refine nx (aF (gN rfl) rfl rfl rfl rfl rfl rfl rfl rfl rfl) rfl ?_)
    (refine nx (aLb (gN rfl) rfl rfl rfl rfl rfl rfl rfl rfl rfl rfl rfl rfl) rfl ?_)
    (refine nx (a_bslice (gN rfl) rfl rfl rfl rfl rfl rfl rfl rfl rfl rfl rfl rfl rfl) rfl ?_)
    (refine nx (aA (gN rfl) rfl rfl rfl rfl rfl) rfl ?_)
    show AWp _ _ _ _ _ _ _
    exact aT (And.intro (.inr rfl) rfl)
  · have hc : l.neg = false := hc
    have e : CV.lst ((tmsL l).map Tm.cv) = .lst [l.a.cw, l.b.cw] := by unfold tmsL; rw [if_neg (by rw [hc]; decide)]; simp only [List.map_cons, List.map_nil, Tm.cv_eq]
    rw [e]
    refine aK ?_
    show AWp _ _ _ _ _ _ _
    refine aS (aR ?_)
    (refine nx (aF (gN rfl) rfl rfl rfl rfl rfl rfl rfl rfl rfl) rfl ?_)
    (refine nx (aLb (gN rfl) rfl rfl rfl rfl rfl rfl rfl rfl rfl rfl rfl rfl) rfl ?_)
    (refine nx (aF (gN rfl) rfl rfl rfl rfl rfl rfl rfl rfl rfl) rfl ?_)
    (refine nx (aLb (gN rfl) rfl rfl rfl rfl rfl rfl rfl rfl rfl rfl rfl rfl) rfl ?_)
    (refine nx (a_bslice (gN rfl) rfl rfl rfl rfl rfl rfl rfl rfl rfl rfl rfl rfl rfl) rfl ?_)
    (refine nx (aA (gN rfl) rfl rfl rfl rfl rfl) rfl ?_)
    show AWp _ _ _ _ _ _ _
    exact aT (And.intro (.inr rfl) rfl)

def htK (h : Option Nat) (k : Nat) : Bool := match h with | some i => decide (i < k) | none => false
def usK (h : Option Nat) (u : List Bool) (k : Nat) : List Bool := match h with | some i => if i < k then u.set i true else u | none => u
theorem htK_zero (h : Option Nat) : htK h 0 = false := by cases h <;> rfl
theorem usK_zero (h : Option Nat) (u : List Bool) : usK h u 0 = u := by cases h <;> rfl
theorem ht_yes {h : Option Nat} {k : Nat} (e : htK h k = true) (u : List Bool) : htK h (k + 1) = true ∧ usK h u (k + 1) = usK h u k := by
  cases h with
  | none => cases e
  | some i =>
    have hi : i < k := by simpa [htK] using e
    exact ⟨by simp [htK]; omega, by simp only [usK]; rw [if_pos (by omega), if_pos hi]⟩
theorem ht_no {h : Option Nat} {k : Nat} (e : htK h k = false) (u : List Bool) : usK h u k = u := by
  cases h with
  | none => rfl
  | some i =>
    have hi : ¬ i < k := by simpa [htK] using e
    simp only [usK]; rw [if_neg hi]
theorem ht_next {h : Option Nat} {k : Nat} (e : htK h k = false) (hn : h ≠ some k) (u : List Bool) : htK h (k + 1) = false ∧ usK h u (k + 1) = u := by
  cases h with
  | none => exact ⟨rfl, rfl⟩
  | some i =>
    have hi : ¬ i < k := by simpa [htK] using e
    have hik : i ≠ k := fun h => hn (by rw [h])
    exact ⟨by simp [htK]; omega, by simp only [usK]; rw [if_neg (by omega)]⟩
theorem ht_here {k : Nat} (u : List Bool) : htK (some k) (k + 1) = true ∧ usK (some k) u (k + 1) = u.set k true := ⟨by simp [htK], by simp only [usK]; rw [if_pos (by omega)]⟩
theorem hit_at {b : List Tm} {u : List Bool} {t : Tm} {k : Nat} {y : Tm} {f : Bool} (hy : b[k]? = some y) (hu : u[k]? = some f) (e : htK (hitI b u t) k = false) : hitI b u t = some k ↔ (!f && sameT t y) = true := by
  have hz : (b.zip u)[k]? = some (y, f) := by rw [List.getElem?_zip_eq_some]; exact ⟨hy, hu⟩
  obtain ⟨hk, hke⟩ := List.getElem?_eq_some_iff.1 hz
  constructor
  · intro h
    unfold hitI at h
    obtain ⟨h1, h2, _⟩ := List.findIdx?_eq_some_iff_getElem.1 h
    rw [hke] at h2
    exact h2
  · intro h
    cases hh : hitI b u t with
    | none =>
      unfold hitI at hh
      have := List.findIdx?_eq_none_iff.1 hh _ (List.mem_of_getElem? hz)
      rw [h] at this; cases this
    | some i =>
      rw [hh] at e
      have hi : ¬ i < k := by simpa [htK] using e
      unfold hitI at hh
      obtain ⟨h1, h2, h3⟩ := List.findIdx?_eq_some_iff_getElem.1 hh
      by_cases hik : k < i
      · have h4 := h3 k hik
        rw [hke] at h4
        exact absurd h h4
      · have : i = k := by omega
        rw [this]
theorem hit_lt {b : List Tm} {u : List Bool} {t : Tm} {i : Nat} (h : hitI b u t = some i) : i < b.length := by
  unfold hitI at h
  obtain ⟨h1, _⟩ := List.findIdx?_eq_some_iff_getElem.1 h
  rw [List.length_zip] at h1
  omega
theorem bls_at {u : List Bool} {k : Nat} {f : Bool} (h : u[k]? = some f) : (u.map CV.b)[k]? = some (.b f) := by rw [List.getElem?_map, h]; rfl
theorem usK_len (h : Option Nat) (u : List Bool) (k : Nat) : (usK h u k).length = u.length := by
  cases h with
  | none => rfl
  | some i => simp only [usK]; split <;> simp
-- 
theorem rLess14_abs (W : World) (a b : List Tm) (ha : ∀ t ∈ a, t.ok) (hb : ∀ t ∈ b, t.ok) (hal : a.length ≤ 100000) (hbl : b.length ≤ 100000) : AFun Try.prog W 40 [.lst (a.map Tm.cv), .lst (b.map Tm.cv)] (.val (.lst ((lessD a b).map Tm.cv))) := by
  have hsa := Tm.size_all a
  have hsb := Tm.size_all b
  refine afun_of (rs := [.lst ((lessD a b).map Tm.cv)]) Try.func40 Try.ntmps40 rfl rfl rfl rfl ?_
  intro w U hW
  refine aS (aR ?_)
  (refine nx (aA (gN rfl) rfl rfl rfl rfl rfl) rfl ?_)
  show AWp _ _ _ _ _ _ _
  refine aS (aR ?_)
  (refine nx (aM (gN rfl) rfl rfl rfl rfl rfl) rfl ?_)
  (refine nx (a_len (gN rfl) rfl rfl rfl rfl rfl rfl rfl) rfl ?_)
  (refine nx (a_mkM 300005 (k := b.length) (gN rfl) rfl rfl rfl rfl rfl rfl rfl rfl rfl rfl rfl rfl rfl rfl (by first | rfl | omega | (simp only [List.length_set, List.length_map, List.length_append, List.length_cons, List.length_nil] <;> omega) | (simp <;> omega)) (by first | rfl | omega | (simp only [List.length_set, List.length_map, List.length_append, List.length_cons, List.length_nil] <;> omega) | (simp <;> omega)) rfl (by first | rfl | omega | (simp only [List.length_set, List.length_map, List.length_append, List.length_cons, List.length_nil] <;> omega) | (simp <;> omega))) rfl ?_)
  (refine nx (aA (gN rfl) rfl rfl rfl rfl rfl) rfl ?_)
  show AWp _ _ _ _ _ _ _
  refine aS (aR ?_)
  (refine nx (aA (gN rfl) rfl rfl rfl rfl rfl) rfl ?_)
  show AWp _ _ _ _ _ _ _
  refine aS (aS (aR ?_))
  (refine nx (aA (gN rfl) rfl rfl rfl rfl rfl) rfl ?_)
  show AWp _ _ _ _ _ _ _
  let st : Nat → List Tm → List Bool → AS := fun i out u => [(0, .val (.lst (a.map Tm.cv))), (1, .val (.lst (b.map Tm.cv))), (5, .sl 300005 0 b.length 1), (300005, .mrow 4 1 (u.map CV.b)), (6, .own (.lst (out.map Tm.cv)) 200056), (200056, .tok 29 2), (7, .val (.i i))]
  refine aB (awp_loop (fun j s => ∃ i out u, j = a.length - i ∧ i ≤ a.length ∧ u.length = b.length ∧ out ++ lsD (a.drop i) b u = lessD a b ∧ out.length ≤ i ∧ s = st i out u) (s' := st 0 [] (List.replicate b.length false)) ((wk_nil 6 200056 29 2 rfl rfl rfl rfl rfl rfl rfl).trans (wk_sub ⟨rfl, rfl, rfl, ?_, rfl, rfl, rfl, trivial⟩)) ⟨0, [], _, rfl, Nat.zero_le _, by simp, rfl, Nat.le_refl _, rfl⟩ ?_)
  · show some (AV.mrow _ _ _) = some (AV.mrow _ _ _)
    rw [List.map_replicate]
    rfl
  rintro j s ⟨i, out, u, rfl, hi, hul, hout, hol, rfl⟩
  refine aS (aS (aR ?_))
  (refine nx (aM (gN rfl) rfl rfl rfl rfl rfl) rfl ?_)
  (refine nx (aM (gN rfl) rfl rfl rfl rfl rfl) rfl ?_)
  (refine nx (a_len (gN rfl) rfl rfl rfl rfl rfl rfl rfl) rfl ?_)
  (refine nx (a_lss (gN rfl) rfl rfl rfl rfl rfl rfl) rfl ?_)
  show AWp _ _ _ _ _ _ _
  refine aC rfl (fun hlt => ?_) (fun hlt => ?_)
  · have hil : i < a.length := by simpa using hlt
    obtain ⟨t, ht⟩ : ∃ t, a[i]? = some t := ⟨a[i], List.getElem?_eq_getElem hil⟩
    have ht' := Tm.map_at ht
    have hto := ha t (List.mem_of_getElem? ht)
    have hdr : a.drop i = t :: a.drop (i + 1) := drop_atT ht
    obtain ⟨h, hh⟩ : ∃ h, h = hitI b u t := ⟨_, rfl⟩
    have hls1 : h = none → lsD (a.drop i) b u = t :: lsD (a.drop (i + 1)) b u := fun e => by rw [hdr, lsD, ← hh, e]
    have hls2 : ∀ k, h = some k → lsD (a.drop i) b u = lsD (a.drop (i + 1)) b (u.set k true) := fun k e => by rw [hdr, lsD, ← hh, e]
    refine aK ?_
    show AWp _ _ _ _ _ _ _
    refine aS (aB (aS (aR ?_)))
    (refine nx (aA (gN rfl) rfl rfl rfl rfl rfl) rfl ?_)
    show AWp _ _ _ _ _ _ _
    refine aS (aS (aR ?_))
    (refine nx (aA (gN rfl) rfl rfl rfl rfl rfl) rfl ?_)
    show AWp _ _ _ _ _ _ _
    let st2 : Nat → AS := fun k => [(0, .val (.lst (a.map Tm.cv))), (1, .val (.lst (b.map Tm.cv))), (5, .sl 300005 0 b.length 1), (300005, .mrow 4 1 ((usK h u k).map CV.b)), (6, .own (.lst (out.map Tm.cv)) 200056), (200056, .tok 29 2), (7, .val (.i i)), (8, .val (.b (htK h k))), (9, .val (.i k))]
    refine aB (awp_count b.length st2 (wk_sub ⟨rfl, rfl, rfl, by rw [usK_zero]; rfl, rfl, rfl, rfl, by rw [htK_zero]; rfl, rfl, trivial⟩) ?_)
    intro k hk
    have hulk := usK_len h u k
    refine aS (aS (aR ?_))
    (refine nx (aM (gN rfl) rfl rfl rfl rfl rfl) rfl ?_)
    (refine nx (aM (gN rfl) rfl rfl rfl rfl rfl) rfl ?_)
    (refine nx (a_len (gN rfl) rfl rfl rfl rfl rfl rfl rfl) rfl ?_)
    (refine nx (a_lss (gN rfl) rfl rfl rfl rfl rfl rfl) rfl ?_)
    show AWp _ _ _ _ _ _ _
    refine aC rfl (fun hlt2 => ?_) (fun hlt2 => ?_)
    · have hkl : k < b.length := by simpa using hlt2
      obtain ⟨y, hy⟩ : ∃ y, b[k]? = some y := ⟨b[k], List.getElem?_eq_getElem hkl⟩
      have hy' := Tm.map_at hy
      have hyo := hb y (List.mem_of_getElem? hy)
      refine aK ?_
      show AWp _ _ _ _ _ _ _
      refine aS (aB ?_)
      cases hht : htK h k with
      | true =>
        obtain ⟨n1, n2⟩ := ht_yes hht u
        refine AWp.wk (wk_sub (s' := [(0, .val (.lst (a.map Tm.cv))), (1, .val (.lst (b.map Tm.cv))), (5, .sl 300005 0 b.length 1), (300005, .mrow 4 1 ((usK h u k).map CV.b)), (6, .own (.lst (out.map Tm.cv)) 200056), (200056, .tok 29 2), (7, .val (.i i)), (8, .val (.b true)), (9, .val (.i k))]) ⟨rfl, rfl, rfl, rfl, rfl, rfl, rfl, by rw [← hht]; rfl, rfl, trivial⟩) ?_
        refine aS (aD (by kernel_rfl) (by kernel_rfl) ?_)
        (refine nx (aM (gN rfl) rfl rfl rfl rfl rfl) rfl ?_)
        (refine nx (a_not (gN rfl) rfl rfl rfl rfl rfl) rfl ?_)
        (refine nx (aM (gN rfl) rfl rfl rfl rfl rfl) rfl ?_)
        (refine ⟨_, _, _, a_off (go_off rfl rfl rfl rfl (by first | rfl | assumption | (simp; done) | (simp [*]; done))) rfl rfl rfl, rfl, ?_⟩)
        (refine ⟨_, _, _, a_off (go_off rfl rfl rfl rfl (by first | rfl | assumption | (simp; done) | (simp [*]; done))) rfl rfl rfl, rfl, ?_⟩)
        (refine ⟨_, _, _, a_off (go_off rfl rfl rfl rfl (by first | rfl | assumption | (simp; done) | (simp [*]; done))) rfl rfl rfl, rfl, ?_⟩)
        (refine ⟨_, _, _, a_off (go_off rfl rfl rfl rfl (by first | rfl | assumption | (simp; done) | (simp [*]; done))) rfl rfl rfl, rfl, ?_⟩)
        (refine ⟨_, _, _, a_off (go_off rfl rfl rfl rfl (by first | rfl | assumption | (simp; done) | (simp [*]; done))) rfl rfl rfl, rfl, ?_⟩)
        (refine ⟨_, _, _, aPf (gN rfl) rfl rfl rfl rfl rfl ?hb rfl, rfl, ?_⟩; case hb => (first | rfl | assumption | (simp; done)))
        (refine nx (aM (gN rfl) rfl rfl rfl rfl rfl) rfl ?_)
        (refine ⟨_, _, _, a_off (go_off rfl rfl rfl rfl (by first | rfl | assumption | (simp; done) | (simp [*]; done))) rfl rfl rfl, rfl, ?_⟩)
        (refine ⟨_, _, _, a_off (go_off rfl rfl rfl rfl (by first | rfl | assumption | (simp; done) | (simp [*]; done))) rfl rfl rfl, rfl, ?_⟩)
        (refine ⟨_, _, _, a_off (go_off rfl rfl rfl rfl (by first | rfl | assumption | (simp; done) | (simp [*]; done))) rfl rfl rfl, rfl, ?_⟩)
        (refine ⟨_, _, _, a_off (go_off rfl rfl rfl rfl (by first | rfl | assumption | (simp; done) | (simp [*]; done))) rfl rfl rfl, rfl, ?_⟩)
        (refine ⟨_, _, _, a_off (go_off rfl rfl rfl rfl (by first | rfl | assumption | (simp; done) | (simp [*]; done))) rfl rfl rfl, rfl, ?_⟩)
        (refine ⟨_, _, _, a_off (go_off rfl rfl rfl rfl (by first | rfl | assumption | (simp; done) | (simp [*]; done))) rfl rfl rfl, rfl, ?_⟩)
        (refine ⟨_, _, _, a_off (go_off rfl rfl rfl rfl (by first | rfl | assumption | (simp; done) | (simp [*]; done))) rfl rfl rfl, rfl, ?_⟩)
        (refine ⟨_, _, _, a_off (go_off rfl rfl rfl rfl (by first | rfl | assumption | (simp; done) | (simp [*]; done))) rfl rfl rfl, rfl, ?_⟩)
        (refine ⟨_, _, _, a_off (go_off rfl rfl rfl rfl (by first | rfl | assumption | (simp; done) | (simp [*]; done))) rfl rfl rfl, rfl, ?_⟩)
        (refine ⟨_, _, _, aPf (gN rfl) rfl rfl rfl rfl rfl ?hb rfl, rfl, ?_⟩; case hb => (first | rfl | assumption | (simp; done)))
        refine ⟨by kernel_rfl, ?_⟩
        show AWp _ _ _ _ _ _ _
        refine aC rfl (fun h => by cases h) (fun _ => ?_)
        refine aK ?_
        show AWp _ _ _ _ _ _ _
        refine aR ?_
        (refine nx (aM (gN rfl) rfl rfl rfl rfl rfl) rfl ?_)
        (refine nx (a_add (gN rfl) rfl rfl rfl rfl rfl rfl (by first | omega | (simp only [List.length_map, List.length_append, List.length_cons, List.length_nil] <;> omega) | (simp <;> omega))) rfl ?_)
        (refine nx (aA (gN rfl) rfl rfl rfl rfl rfl) rfl ?_)
        refine ⟨hkl, wk_sub ⟨rfl, rfl, rfl, ?_, rfl, rfl, rfl, ?_, rfl, trivial⟩⟩
        · rw [n2]; rfl
        · rw [n1]; rfl
      | false =>
        have hus := ht_no hht u
        obtain ⟨f, hf⟩ : ∃ f, u[k]? = some f := ⟨u[k]'(by omega), List.getElem?_eq_getElem (by omega)⟩
        have hf' := bls_at hf
        have hat := hit_at hy hf (by rw [← hh]; exact hht)
        rw [← hh] at hat
        have hum : (u.map CV.b).length = b.length := by rw [List.length_map]; exact hul
        refine AWp.wk (wk_sub (s' := [(0, .val (.lst (a.map Tm.cv))), (1, .val (.lst (b.map Tm.cv))), (5, .sl 300005 0 b.length 1), (300005, .mrow 4 1 (u.map CV.b)), (6, .own (.lst (out.map Tm.cv)) 200056), (200056, .tok 29 2), (7, .val (.i i)), (8, .val (.b false)), (9, .val (.i k))]) ⟨rfl, rfl, rfl, by show some (AV.mrow _ _ _) = some (AV.mrow _ _ _); rw [hus], rfl, rfl, rfl, by rw [← hht]; rfl, rfl, trivial⟩) ?_
        cases f with
        | true =>
          obtain ⟨n1, n2⟩ := ht_next hht (fun e => by have := hat.1 e; cases this) u
          refine aS (aD (by kernel_rfl) (by kernel_rfl) ?_)
          (refine nx (aM (gN rfl) rfl rfl rfl rfl rfl) rfl ?_)
          (refine nx (a_not (gN rfl) rfl rfl rfl rfl rfl) rfl ?_)
          (refine nx (aM (gN rfl) rfl rfl rfl rfl rfl) rfl ?_)
          (refine nx (aM (gd_on rfl rfl rfl rfl (by first | rfl | assumption | (simp; done))) rfl rfl rfl rfl rfl) rfl ?_)
          (refine nx (aM (gd_on rfl rfl rfl rfl (by first | rfl | assumption | (simp; done))) rfl rfl rfl rfl rfl) rfl ?_)
          (refine nx (aIm (k := k) (gd_on rfl rfl rfl rfl (by first | rfl | assumption | (simp; done))) rfl rfl rfl rfl rfl rfl rfl rfl rfl (by first | rfl | omega | (simp only [List.length_set, List.length_map, List.length_append, List.length_cons, List.length_nil] <;> omega) | (simp <;> omega))) rfl ?_)
          (refine nx (a_loadM (gd_on rfl rfl rfl rfl (by first | rfl | assumption | (simp; done))) rfl rfl rfl rfl rfl rfl rfl rfl (hf') rfl (by first | rfl | omega | (simp only [List.length_set, List.length_map, List.length_append, List.length_cons, List.length_nil] <;> omega) | (simp <;> omega)) rfl rfl) rfl ?_)
          (refine nx (a_not (gd_on rfl rfl rfl rfl (by first | rfl | assumption | (simp; done))) rfl rfl rfl rfl rfl) rfl ?_)
          (refine ⟨_, _, _, aPt (gN rfl) rfl rfl rfl rfl rfl ?hb rfl, rfl, ?_⟩; case hb => (first | rfl | assumption | (simp; done)))
          (refine nx (aM (gN rfl) rfl rfl rfl rfl rfl) rfl ?_)
          (refine ⟨_, _, _, a_off (go_off rfl rfl rfl rfl (by first | rfl | assumption | (simp; done) | (simp [*]; done))) rfl rfl rfl, rfl, ?_⟩)
          (refine ⟨_, _, _, a_off (go_off rfl rfl rfl rfl (by first | rfl | assumption | (simp; done) | (simp [*]; done))) rfl rfl rfl, rfl, ?_⟩)
          (refine ⟨_, _, _, a_off (go_off rfl rfl rfl rfl (by first | rfl | assumption | (simp; done) | (simp [*]; done))) rfl rfl rfl, rfl, ?_⟩)
          (refine ⟨_, _, _, a_off (go_off rfl rfl rfl rfl (by first | rfl | assumption | (simp; done) | (simp [*]; done))) rfl rfl rfl, rfl, ?_⟩)
          (refine ⟨_, _, _, a_off (go_off rfl rfl rfl rfl (by first | rfl | assumption | (simp; done) | (simp [*]; done))) rfl rfl rfl, rfl, ?_⟩)
          (refine ⟨_, _, _, a_off (go_off rfl rfl rfl rfl (by first | rfl | assumption | (simp; done) | (simp [*]; done))) rfl rfl rfl, rfl, ?_⟩)
          (refine ⟨_, _, _, a_off (go_off rfl rfl rfl rfl (by first | rfl | assumption | (simp; done) | (simp [*]; done))) rfl rfl rfl, rfl, ?_⟩)
          (refine ⟨_, _, _, a_off (go_off rfl rfl rfl rfl (by first | rfl | assumption | (simp; done) | (simp [*]; done))) rfl rfl rfl, rfl, ?_⟩)
          (refine ⟨_, _, _, a_off (go_off rfl rfl rfl rfl (by first | rfl | assumption | (simp; done) | (simp [*]; done))) rfl rfl rfl, rfl, ?_⟩)
          (refine ⟨_, _, _, aPf (gN rfl) rfl rfl rfl rfl rfl ?hb rfl, rfl, ?_⟩; case hb => (first | rfl | assumption | (simp; done)))
          refine ⟨by kernel_rfl, ?_⟩
          show AWp _ _ _ _ _ _ _
          refine aC rfl (fun h => by cases h) (fun _ => ?_)
          refine aK ?_
          show AWp _ _ _ _ _ _ _
          refine aR ?_
          (refine nx (aM (gN rfl) rfl rfl rfl rfl rfl) rfl ?_)
          (refine nx (a_add (gN rfl) rfl rfl rfl rfl rfl rfl (by first | omega | (simp only [List.length_map, List.length_append, List.length_cons, List.length_nil] <;> omega) | (simp <;> omega))) rfl ?_)
          (refine nx (aA (gN rfl) rfl rfl rfl rfl rfl) rfl ?_)
          refine ⟨hkl, wk_sub ⟨rfl, rfl, rfl, ?_, rfl, rfl, rfl, ?_, rfl, trivial⟩⟩
          · rw [n2]; rfl
          · rw [n1]; rfl
        | false =>
          refine aS (aD (by kernel_rfl) (by kernel_rfl) ?_)
          (refine nx (aM (gN rfl) rfl rfl rfl rfl rfl) rfl ?_)
          (refine nx (a_not (gN rfl) rfl rfl rfl rfl rfl) rfl ?_)
          (refine nx (aM (gN rfl) rfl rfl rfl rfl rfl) rfl ?_)
          (refine nx (aM (gd_on rfl rfl rfl rfl (by first | rfl | assumption | (simp; done))) rfl rfl rfl rfl rfl) rfl ?_)
          (refine nx (aM (gd_on rfl rfl rfl rfl (by first | rfl | assumption | (simp; done))) rfl rfl rfl rfl rfl) rfl ?_)
          (refine nx (aIm (k := k) (gd_on rfl rfl rfl rfl (by first | rfl | assumption | (simp; done))) rfl rfl rfl rfl rfl rfl rfl rfl rfl (by first | rfl | omega | (simp only [List.length_set, List.length_map, List.length_append, List.length_cons, List.length_nil] <;> omega) | (simp <;> omega))) rfl ?_)
          (refine nx (a_loadM (gd_on rfl rfl rfl rfl (by first | rfl | assumption | (simp; done))) rfl rfl rfl rfl rfl rfl rfl rfl (hf') rfl (by first | rfl | omega | (simp only [List.length_set, List.length_map, List.length_append, List.length_cons, List.length_nil] <;> omega) | (simp <;> omega)) rfl rfl) rfl ?_)
          (refine nx (a_not (gd_on rfl rfl rfl rfl (by first | rfl | assumption | (simp; done))) rfl rfl rfl rfl rfl) rfl ?_)
          (refine ⟨_, _, _, aPt (gN rfl) rfl rfl rfl rfl rfl ?hb rfl, rfl, ?_⟩; case hb => (first | rfl | assumption | (simp; done)))
          (refine nx (aM (gN rfl) rfl rfl rfl rfl rfl) rfl ?_)
          (refine nx (aM (gd_on rfl rfl rfl rfl (by first | rfl | assumption | (simp; done))) rfl rfl rfl rfl rfl) rfl ?_)
          (refine nx (aM (gd_on rfl rfl rfl rfl (by first | rfl | assumption | (simp; done))) rfl rfl rfl rfl rfl) rfl ?_)
          (refine nx (a_index (j := i) (gd_on rfl rfl rfl rfl (by first | rfl | assumption | (simp; done))) rfl rfl rfl rfl rfl rfl rfl rfl rfl (ht') rfl (hsa)) rfl ?_)
          (refine nx (a_load_ad (gd_on rfl rfl rfl rfl (by first | rfl | assumption | (simp; done))) rfl rfl rfl rfl rfl rfl rfl rfl rfl) rfl ?_)
          (refine nx (aM (gd_on rfl rfl rfl rfl (by first | rfl | assumption | (simp; done))) rfl rfl rfl rfl rfl) rfl ?_)
          (refine nx (aM (gd_on rfl rfl rfl rfl (by first | rfl | assumption | (simp; done))) rfl rfl rfl rfl rfl) rfl ?_)
          (refine nx (a_index (j := k) (gd_on rfl rfl rfl rfl (by first | rfl | assumption | (simp; done))) rfl rfl rfl rfl rfl rfl rfl rfl rfl (hy') rfl (hsb)) rfl ?_)
          (refine nx (a_load_ad (gd_on rfl rfl rfl rfl (by first | rfl | assumption | (simp; done))) rfl rfl rfl rfl rfl rfl rfl rfl rfl) rfl ?_)
          (refine nx (a_call (gd_on rfl rfl rfl rfl (by first | rfl | assumption | (simp; done))) rfl rfl rfl rfl rfl (refSame_abs w t y hto hyo)) rfl ?_)
          (refine ⟨_, _, _, aPt (gN rfl) rfl rfl rfl rfl rfl ?hb rfl, rfl, ?_⟩; case hb => (first | rfl | assumption | (simp; done)))
          refine ⟨by kernel_rfl, ?_⟩
          show AWp _ _ _ _ _ _ _
          refine aC rfl (fun hsm => ?_) (fun hsm => ?_)
          · have hsm : sameT t y = true := hsm
            have he : h = some k := hat.2 (by rw [hsm]; rfl)
            obtain ⟨n1, n2⟩ := ht_here (k := k) u
            refine aS (aR ?_)
            (refine nx (aM (gN rfl) rfl rfl rfl rfl rfl) rfl ?_)
            (refine nx (aM (gN rfl) rfl rfl rfl rfl rfl) rfl ?_)
            (refine nx (aIm (k := k) (gN rfl) rfl rfl rfl rfl rfl rfl rfl rfl rfl (by first | rfl | omega | (simp only [List.length_set, List.length_map, List.length_append, List.length_cons, List.length_nil] <;> omega) | (simp <;> omega))) rfl ?_)
            (refine nx (a_storeM (gN rfl) rfl rfl rfl rfl rfl rfl (hf') rfl rfl (by first | rfl | omega | (simp only [List.length_set, List.length_map, List.length_append, List.length_cons, List.length_nil] <;> omega) | (simp <;> omega)) rfl) rfl ?_)
            show AWp _ _ _ _ _ _ _
            refine aR ?_
            (refine nx (aA (gN rfl) rfl rfl rfl rfl rfl) rfl ?_)
            show AWp _ _ _ _ _ _ _
            refine aR ?_
            (refine nx (aM (gN rfl) rfl rfl rfl rfl rfl) rfl ?_)
            (refine nx (a_add (gN rfl) rfl rfl rfl rfl rfl rfl (by first | omega | (simp only [List.length_map, List.length_append, List.length_cons, List.length_nil] <;> omega) | (simp <;> omega))) rfl ?_)
            (refine nx (aA (gN rfl) rfl rfl rfl rfl rfl) rfl ?_)
            refine ⟨hkl, wk_sub ⟨rfl, rfl, rfl, ?_, rfl, rfl, rfl, ?_, rfl, trivial⟩⟩
            · show some (AV.mrow _ _ _) = some (AV.mrow _ _ _)
              rw [he, n2, List.map_set]
              rfl
            · rw [he, n1]; rfl
          · have hsm : sameT t y = false := hsm
            obtain ⟨n1, n2⟩ := ht_next hht (fun e => by have := hat.1 e; rw [hsm] at this; cases this) u
            refine aK ?_
            show AWp _ _ _ _ _ _ _
            refine aR ?_
            (refine nx (aM (gN rfl) rfl rfl rfl rfl rfl) rfl ?_)
            (refine nx (a_add (gN rfl) rfl rfl rfl rfl rfl rfl (by first | omega | (simp only [List.length_map, List.length_append, List.length_cons, List.length_nil] <;> omega) | (simp <;> omega))) rfl ?_)
            (refine nx (aA (gN rfl) rfl rfl rfl rfl rfl) rfl ?_)
            refine ⟨hkl, wk_sub ⟨rfl, rfl, rfl, ?_, rfl, rfl, rfl, ?_, rfl, trivial⟩⟩
            · rw [n2]; rfl
            · rw [n1]; rfl
    · have hkl : k = b.length := by
        have : ¬ k < b.length := by simpa using hlt2
        omega
      subst hkl
      refine aE ?_
      show AWp _ _ _ _ _ _ _
      refine aS (aR ?_)
      (refine nx (aM (gN rfl) rfl rfl rfl rfl rfl) rfl ?_)
      (refine nx (a_not (gN rfl) rfl rfl rfl rfl rfl) rfl ?_)
      show AWp _ _ _ _ _ _ _
      have hol2 : (out.map Tm.cv).length ≤ i := by rw [List.length_map]; exact hol
      have hso := Tm.size_all out
      refine aC rfl (fun hn => ?_) (fun hn => ?_)
      · have hn : (!htK h b.length) = true := hn
        have hnone : h = none := by
          cases hc : h with
          | none => rfl
          | some q =>
            rw [hc] at hn
            have := hit_lt (hh.symm.trans hc)
            simp [htK] at hn
            omega
        have hls := hls1 hnone
        have hus : usK h u b.length = u := by rw [hnone]; rfl
        refine aR ?_
        (refine nx (aM (gN rfl) rfl rfl rfl rfl rfl) rfl ?_)
        (refine nx (aM (gN rfl) rfl rfl rfl rfl rfl) rfl ?_)
        (refine nx (aM (gN rfl) rfl rfl rfl rfl rfl) rfl ?_)
        (refine nx (a_index (j := i) (gN rfl) rfl rfl rfl rfl rfl rfl rfl rfl rfl (ht') rfl (hsa)) rfl ?_)
        (refine nx (a_load_ad (gN rfl) rfl rfl rfl rfl rfl rfl rfl rfl rfl) rfl ?_)
        (refine nx (a_bslice (gN rfl) rfl rfl rfl rfl rfl rfl rfl rfl rfl rfl rfl rfl rfl) rfl ?_)
        (refine nx (a_app (gN rfl) rfl rfl rfl rfl rfl rfl rfl rfl rfl rfl rfl rfl rfl rfl rfl (by first | assumption | exact sZ rfl | exact Tm.size_all _ | exact Bd.size_all _ | exact ints_size _ | exact bys_size _ | exact Lt.size_all _) (by first | assumption | exact sZ rfl | exact Tm.size_all _ | exact Bd.size_all _ | exact ints_size _ | exact bys_size _ | exact Lt.size_all _) (by first | omega | (simp only [List.length_map, List.length_append, List.length_cons, List.length_nil] <;> omega) | (simp <;> omega))) rfl ?_)
        (refine nx (aA (gN rfl) rfl rfl rfl rfl rfl) rfl ?_)
        show AWp _ _ _ _ _ _ _
        refine AWp.wk ((wk_sub (s' := [(0, .val (.lst (a.map Tm.cv))), (1, .val (.lst (b.map Tm.cv))), (5, .sl 300005 0 b.length 1), (300005, .mrow 4 1 (u.map CV.b)), (6, .own (.lst ((out ++ [t]).map Tm.cv)) 300056), (300056, .tok 29 2), (7, .val (.i i))]) ⟨rfl, rfl, rfl, by show some (AV.mrow _ _ _) = some (AV.mrow _ _ _); rw [hus], ?_, rfl, rfl, trivial⟩).trans (wk_ren 300056 200056 rfl rfl rfl rfl)) ?_
        · show some (AV.own (.lst _) _) = some (AV.own (.lst _) _)
          rw [List.map_append, List.map_cons, List.map_nil, Tm.cv_eq t]
        refine aR ?_
        (refine nx (aM (gN rfl) rfl rfl rfl rfl rfl) rfl ?_)
        (refine nx (a_add (gN rfl) rfl rfl rfl rfl rfl rfl (by first | omega | (simp only [List.length_map, List.length_append, List.length_cons, List.length_nil] <;> omega) | (simp <;> omega))) rfl ?_)
        (refine nx (aA (gN rfl) rfl rfl rfl rfl rfl) rfl ?_)
        refine ⟨a.length - (i + 1), st (i + 1) (out ++ [t]) u, by omega, ⟨i + 1, out ++ [t], u, rfl, by omega, hul, ?_, by simp; omega, rfl⟩, wk_sub ⟨rfl, rfl, rfl, rfl, rfl, rfl, rfl, trivial⟩⟩
        rw [← hout, hls, List.append_assoc]; rfl
      · have hn : (!htK h b.length) = false := hn
        obtain ⟨q, hq⟩ : ∃ q, h = some q := by
          cases hc : h with
          | none => rw [hc] at hn; cases hn
          | some q => exact ⟨q, rfl⟩
        have hql := hit_lt (hh.symm.trans hq)
        have hls := hls2 q hq
        have hus : usK h u b.length = u.set q true := by rw [hq]; simp only [usK]; rw [if_pos hql]
        refine aK ?_
        show AWp _ _ _ _ _ _ _
        refine AWp.wk (wk_sub (s' := [(0, .val (.lst (a.map Tm.cv))), (1, .val (.lst (b.map Tm.cv))), (5, .sl 300005 0 b.length 1), (300005, .mrow 4 1 ((u.set q true).map CV.b)), (6, .own (.lst (out.map Tm.cv)) 200056), (200056, .tok 29 2), (7, .val (.i i))]) ⟨rfl, rfl, rfl, by show some (AV.mrow _ _ _) = some (AV.mrow _ _ _); rw [hus], rfl, rfl, rfl, trivial⟩) ?_
        refine aR ?_
        (refine nx (aM (gN rfl) rfl rfl rfl rfl rfl) rfl ?_)
        (refine nx (a_add (gN rfl) rfl rfl rfl rfl rfl rfl (by first | omega | (simp only [List.length_map, List.length_append, List.length_cons, List.length_nil] <;> omega) | (simp <;> omega))) rfl ?_)
        (refine nx (aA (gN rfl) rfl rfl rfl rfl rfl) rfl ?_)
        refine ⟨a.length - (i + 1), st (i + 1) out (u.set q true), by omega, ⟨i + 1, out, u.set q true, rfl, by omega, by simp [hul], ?_, by omega, rfl⟩, wk_sub ⟨rfl, rfl, rfl, rfl, rfl, rfl, rfl, trivial⟩⟩
        rw [← hout, hls]
  · have hil : i = a.length := by
      have : ¬ i < a.length := by simpa using hlt
      omega
    subst hil
    have he : lessD a b = out := by rw [← hout, List.drop_length, lsD, List.append_nil]
    rw [he]
    refine aE ?_
    show AWp _ _ _ _ _ _ _
    refine aS (aR ?_)
    (refine nx (aM (gN rfl) rfl rfl rfl rfl rfl) rfl ?_)
    (refine nx (aA (gN rfl) rfl rfl rfl rfl rfl) rfl ?_)
    show AWp _ _ _ _ _ _ _
    exact aT (And.intro (.inr rfl) rfl)
theorem lsD_mem : ∀ {a b : List Tm} {u : List Bool} {t : Tm}, t ∈ lsD a b u → t ∈ a
  | [], b, u, t, h => by unfold lsD at h; exact h
  | x :: a, b, u, t, h => by
    unfold lsD at h
    split at h
    · rcases List.mem_cons.1 h with rfl | h
      · exact List.mem_cons_self
      · exact List.mem_cons_of_mem _ (lsD_mem h)
    · exact List.mem_cons_of_mem _ (lsD_mem h)
theorem lsD_len : ∀ (a b : List Tm) (u : List Bool), (lsD a b u).length ≤ a.length
  | [], b, u => by unfold lsD; exact Nat.le_refl _
  | x :: a, b, u => by
    unfold lsD
    split
    · have := lsD_len a b u; simp; omega
    · rename_i k _; have := lsD_len a b (u.set k true); simp; omega
noncomputable def undB14 (X : List Tm) (y : Tm) : Bool := X.any fun x => decide (kb x y = 1)
theorem out_und (X Y : List Tm) : outB X Y = (decide (0 < X.length) && Y.all (undB14 X)) := by
  rw [Bool.eq_iff_iff, outB_iff, Bool.and_eq_true, decide_eq_true_iff, List.all_eq_true, List.length_pos_iff]
  refine and_congr_right fun _ => forall_congr' fun y => forall_congr' fun _ => ?_
  unfold undB14
  rw [List.any_eq_true]
  exact exists_congr fun x => and_congr_right fun _ => (decide_eq_true_iff).symm
theorem und_take {X : List Tm} {k : Nat} {x : Tm} (h : X[k]? = some x) (y : Tm) : undB14 (X.take (k + 1)) y = (undB14 (X.take k) y || decide (kb x y = 1)) := by
  unfold undB14
  rw [List.take_add_one, h, List.any_append]
  simp
-- 
theorem rMulti14_abs (W : World) (a b : List Tm) (ha : ∀ t ∈ a, t.fit) (hb : ∀ t ∈ b, t.fit) (hal : a.length ≤ 100000) (hbl : b.length ≤ 100000) : AFun Try.prog W 22 [.lst (a.map Tm.cv), .lst (b.map Tm.cv)] (.val (.b (mulB a b))) := by
  rw [← mul_doc, out_und]
  obtain ⟨X, hX⟩ : ∃ X, X = lessD a b := ⟨_, rfl⟩
  obtain ⟨Y, hY⟩ : ∃ Y, Y = lessD b a := ⟨_, rfl⟩
  have hXf : ∀ t ∈ X, t.fit := fun t h => ha t (by rw [hX] at h; exact lsD_mem h)
  have hYf : ∀ t ∈ Y, t.fit := fun t h => hb t (by rw [hY] at h; exact lsD_mem h)
  have hXl : X.length ≤ 100000 := by rw [hX]; exact Nat.le_trans (lsD_len _ _ _) hal
  have hYl : Y.length ≤ 100000 := by rw [hY]; exact Nat.le_trans (lsD_len _ _ _) hbl
  have hsX := Tm.size_all X
  have hsY := Tm.size_all Y
  have hl1 : ∀ w, AFun Try.prog w 40 [.lst (a.map Tm.cv), .lst (b.map Tm.cv)] (.val (.lst (X.map Tm.cv))) := fun w => by rw [hX]; exact rLess14_abs w a b (fun t h => (ha t h).2.1) (fun t h => (hb t h).2.1) hal hbl
  have hl2 : ∀ w, AFun Try.prog w 40 [.lst (b.map Tm.cv), .lst (a.map Tm.cv)] (.val (.lst (Y.map Tm.cv))) := fun w => by rw [hY]; exact rLess14_abs w b a (fun t h => (hb t h).2.1) (fun t h => (ha t h).2.1) hbl hal
  rw [← hX, ← hY]
  refine afun_of (rs := [.b (decide (0 < X.length) && Y.all (undB14 X))]) Try.func22 Try.ntmps22 rfl rfl rfl rfl ?_
  intro w U hW
  refine aS (aR ?_)
  (refine nx (aA (gN rfl) rfl rfl rfl rfl rfl) rfl ?_)
  show AWp _ _ _ _ _ _ _
  refine aS (aR ?_)
  (refine nx (aM (gN rfl) rfl rfl rfl rfl rfl) rfl ?_)
  (refine nx (aM (gN rfl) rfl rfl rfl rfl rfl) rfl ?_)
  (refine nx (a_call (gN rfl) rfl rfl rfl rfl rfl (hl1 w)) rfl ?_)
  (refine nx (aM (gN rfl) rfl rfl rfl rfl rfl) rfl ?_)
  (refine nx (aM (gN rfl) rfl rfl rfl rfl rfl) rfl ?_)
  (refine nx (a_call (gN rfl) rfl rfl rfl rfl rfl (hl2 w)) rfl ?_)
  (refine nx (aA (gN rfl) rfl rfl rfl rfl rfl) rfl ?_)
  (refine nx (aA (gN rfl) rfl rfl rfl rfl rfl) rfl ?_)
  show AWp _ _ _ _ _ _ _
  refine aS (aS (aR ?_))
  (refine nx (aA (gN rfl) rfl rfl rfl rfl rfl) rfl ?_)
  show AWp _ _ _ _ _ _ _
  let st : Nat → AS := fun i => [(5, .val (.lst (X.map Tm.cv))), (6, .val (.lst (Y.map Tm.cv))), (7, .val (.i i))]
  refine aB (awp_countI Y.length (fun i => ∀ y ∈ Y.take i, undB14 X y = true) st (wk_sub ⟨rfl, rfl, rfl, trivial⟩) (by simp) ?_)
  intro i hi hI
  refine aS (aS (aR ?_))
  (refine nx (aM (gN rfl) rfl rfl rfl rfl rfl) rfl ?_)
  (refine nx (aM (gN rfl) rfl rfl rfl rfl rfl) rfl ?_)
  (refine nx (a_len (gN rfl) rfl rfl rfl rfl rfl rfl rfl) rfl ?_)
  (refine nx (a_lss (gN rfl) rfl rfl rfl rfl rfl rfl) rfl ?_)
  show AWp _ _ _ _ _ _ _
  refine aC rfl (fun hlt => ?_) (fun hlt => ?_)
  · have hil : i < Y.length := by simpa using hlt
    obtain ⟨y, hy⟩ : ∃ y, Y[i]? = some y := ⟨Y[i], List.getElem?_eq_getElem hil⟩
    have hy' := Tm.map_at hy
    have hyf := hYf y (List.mem_of_getElem? hy)
    refine aK ?_
    show AWp _ _ _ _ _ _ _
    refine aS (aB (aS (aR ?_)))
    (refine nx (aA (gN rfl) rfl rfl rfl rfl rfl) rfl ?_)
    show AWp _ _ _ _ _ _ _
    refine aS (aS (aR ?_))
    (refine nx (aA (gN rfl) rfl rfl rfl rfl rfl) rfl ?_)
    show AWp _ _ _ _ _ _ _
    let st2 : Nat → AS := fun k => [(5, .val (.lst (X.map Tm.cv))), (6, .val (.lst (Y.map Tm.cv))), (7, .val (.i i)), (8, .val (.b (undB14 (X.take k) y))), (9, .val (.i k))]
    refine aB (awp_count X.length st2 (wk_sub ⟨rfl, rfl, rfl, rfl, rfl, trivial⟩) ?_)
    intro k hk
    refine aS (aS (aR ?_))
    (refine nx (aM (gN rfl) rfl rfl rfl rfl rfl) rfl ?_)
    (refine nx (aM (gN rfl) rfl rfl rfl rfl rfl) rfl ?_)
    (refine nx (a_len (gN rfl) rfl rfl rfl rfl rfl rfl rfl) rfl ?_)
    (refine nx (a_lss (gN rfl) rfl rfl rfl rfl rfl rfl) rfl ?_)
    show AWp _ _ _ _ _ _ _
    refine aC rfl (fun hlt2 => ?_) (fun hlt2 => ?_)
    · have hkl : k < X.length := by simpa using hlt2
      obtain ⟨x, hx⟩ : ∃ x, X[k]? = some x := ⟨X[k], List.getElem?_eq_getElem hkl⟩
      have hx' := Tm.map_at hx
      have hxf := hXf x (List.mem_of_getElem? hx)
      have hut := und_take hx y
      refine aK ?_
      show AWp _ _ _ _ _ _ _
      refine aS (aB ?_)
      cases hu : undB14 (X.take k) y with
      | true =>
        rw [hu, Bool.true_or] at hut
        refine AWp.wk (wk_sub (s' := [(5, .val (.lst (X.map Tm.cv))), (6, .val (.lst (Y.map Tm.cv))), (7, .val (.i i)), (8, .val (.b true)), (9, .val (.i k))]) ⟨rfl, rfl, rfl, by rw [← hu]; rfl, rfl, trivial⟩) ?_
        refine aD (by kernel_rfl) (by kernel_rfl) ?_
        (refine nx (aM (gN rfl) rfl rfl rfl rfl rfl) rfl ?_)
        (refine nx (aM (gN rfl) rfl rfl rfl rfl rfl) rfl ?_)
        (refine ⟨_, _, _, a_off (go_off rfl rfl rfl rfl (by first | rfl | assumption | (simp; done) | (simp [*]; done))) rfl rfl rfl, rfl, ?_⟩)
        (refine ⟨_, _, _, a_off (go_off rfl rfl rfl rfl (by first | rfl | assumption | (simp; done) | (simp [*]; done))) rfl rfl rfl, rfl, ?_⟩)
        (refine ⟨_, _, _, a_off (go_off rfl rfl rfl rfl (by first | rfl | assumption | (simp; done) | (simp [*]; done))) rfl rfl rfl, rfl, ?_⟩)
        (refine ⟨_, _, _, a_off (go_off rfl rfl rfl rfl (by first | rfl | assumption | (simp; done) | (simp [*]; done))) rfl rfl rfl, rfl, ?_⟩)
        (refine ⟨_, _, _, a_off (go_off rfl rfl rfl rfl (by first | rfl | assumption | (simp; done) | (simp [*]; done))) rfl rfl rfl, rfl, ?_⟩)
        (refine ⟨_, _, _, a_off (go_off rfl rfl rfl rfl (by first | rfl | assumption | (simp; done) | (simp [*]; done))) rfl rfl rfl, rfl, ?_⟩)
        (refine ⟨_, _, _, a_off (go_off rfl rfl rfl rfl (by first | rfl | assumption | (simp; done) | (simp [*]; done))) rfl rfl rfl, rfl, ?_⟩)
        (refine ⟨_, _, _, a_off (go_off rfl rfl rfl rfl (by first | rfl | assumption | (simp; done) | (simp [*]; done))) rfl rfl rfl, rfl, ?_⟩)
        (refine ⟨_, _, _, a_off (go_off rfl rfl rfl rfl (by first | rfl | assumption | (simp; done) | (simp [*]; done))) rfl rfl rfl, rfl, ?_⟩)
        (refine ⟨_, _, _, aPt (gN rfl) rfl rfl rfl rfl rfl ?hb rfl, rfl, ?_⟩; case hb => (first | rfl | assumption | (simp; done)))
        (refine nx (aA (gN rfl) rfl rfl rfl rfl rfl) rfl ?_)
        refine ⟨by kernel_rfl, ?_⟩
        show AWp _ _ _ _ _ _ _
        refine aR ?_
        (refine nx (aM (gN rfl) rfl rfl rfl rfl rfl) rfl ?_)
        (refine nx (a_add (gN rfl) rfl rfl rfl rfl rfl rfl (by first | omega | (simp only [List.length_map, List.length_append, List.length_cons, List.length_nil] <;> omega) | (simp <;> omega))) rfl ?_)
        (refine nx (aA (gN rfl) rfl rfl rfl rfl rfl) rfl ?_)
        refine ⟨hkl, wk_sub ⟨rfl, rfl, rfl, ?_, rfl, trivial⟩⟩
        rw [hut]; rfl
      | false =>
        rw [hu, Bool.false_or] at hut
        refine AWp.wk (wk_sub (s' := [(5, .val (.lst (X.map Tm.cv))), (6, .val (.lst (Y.map Tm.cv))), (7, .val (.i i)), (8, .val (.b false)), (9, .val (.i k))]) ⟨rfl, rfl, rfl, by rw [← hu]; rfl, rfl, trivial⟩) ?_
        refine aD (by kernel_rfl) (by kernel_rfl) ?_
        (refine nx (aM (gN rfl) rfl rfl rfl rfl rfl) rfl ?_)
        (refine nx (aM (gN rfl) rfl rfl rfl rfl rfl) rfl ?_)
        (refine nx (aM (gd_on rfl rfl rfl rfl (by first | rfl | assumption | (simp; done))) rfl rfl rfl rfl rfl) rfl ?_)
        (refine nx (aM (gd_on rfl rfl rfl rfl (by first | rfl | assumption | (simp; done))) rfl rfl rfl rfl rfl) rfl ?_)
        (refine nx (a_index (j := k) (gd_on rfl rfl rfl rfl (by first | rfl | assumption | (simp; done))) rfl rfl rfl rfl rfl rfl rfl rfl rfl (hx') rfl (hsX)) rfl ?_)
        (refine nx (a_load_ad (gd_on rfl rfl rfl rfl (by first | rfl | assumption | (simp; done))) rfl rfl rfl rfl rfl rfl rfl rfl rfl) rfl ?_)
        (refine nx (aM (gd_on rfl rfl rfl rfl (by first | rfl | assumption | (simp; done))) rfl rfl rfl rfl rfl) rfl ?_)
        (refine nx (aM (gd_on rfl rfl rfl rfl (by first | rfl | assumption | (simp; done))) rfl rfl rfl rfl rfl) rfl ?_)
        (refine nx (a_index (j := i) (gd_on rfl rfl rfl rfl (by first | rfl | assumption | (simp; done))) rfl rfl rfl rfl rfl rfl rfl rfl rfl (hy') rfl (hsY)) rfl ?_)
        (refine nx (a_load_ad (gd_on rfl rfl rfl rfl (by first | rfl | assumption | (simp; done))) rfl rfl rfl rfl rfl rfl rfl rfl rfl) rfl ?_)
        (refine nx (a_call (gd_on rfl rfl rfl rfl (by first | rfl | assumption | (simp; done))) rfl rfl rfl rfl rfl (rGreater_abs w x hxf.1 hxf.2.1 hxf.2.2 y hyf.1 hyf.2.1 hyf.2.2)) rfl ?_)
        (refine ⟨_, _, _, aPf (gN rfl) rfl rfl rfl rfl rfl ?hb rfl, rfl, ?_⟩; case hb => (first | rfl | assumption | (simp; done)))
        (refine nx (aA (gN rfl) rfl rfl rfl rfl rfl) rfl ?_)
        refine ⟨by kernel_rfl, ?_⟩
        show AWp _ _ _ _ _ _ _
        refine aR ?_
        (refine nx (aM (gN rfl) rfl rfl rfl rfl rfl) rfl ?_)
        (refine nx (a_add (gN rfl) rfl rfl rfl rfl rfl rfl (by first | omega | (simp only [List.length_map, List.length_append, List.length_cons, List.length_nil] <;> omega) | (simp <;> omega))) rfl ?_)
        (refine nx (aA (gN rfl) rfl rfl rfl rfl rfl) rfl ?_)
        refine ⟨hkl, wk_sub ⟨rfl, rfl, rfl, ?_, rfl, trivial⟩⟩
        rw [hut]; rfl
    · have hkl : k = X.length := by
        have : ¬ k < X.length := by simpa using hlt2
        omega
      subst hkl
      refine aE ?_
      show AWp _ _ _ _ _ _ _
      refine aS (aR ?_)
      (refine nx (aM (gN rfl) rfl rfl rfl rfl rfl) rfl ?_)
      (refine nx (a_not (gN rfl) rfl rfl rfl rfl rfl) rfl ?_)
      show AWp _ _ _ _ _ _ _
      refine aC rfl (fun hn => ?_) (fun hn => ?_)
      · have hn : (!undB14 (X.take X.length) y) = true := hn
        rw [List.take_length] at hn
        have hno : Y.all (undB14 X) = false := by
          rw [← Bool.not_eq_true, List.all_eq_true]
          intro h
          rw [h y (List.mem_of_getElem? hy)] at hn; cases hn
        rw [hno, Bool.and_false]
        refine aS (aR ?_)
        (refine nx (aA (gN rfl) rfl rfl rfl rfl rfl) rfl ?_)
        show AWp _ _ _ _ _ _ _
        exact aT (And.intro (.inr rfl) rfl)
      · have hn : (!undB14 (X.take X.length) y) = false := hn
        rw [List.take_length] at hn
        refine aK ?_
        show AWp _ _ _ _ _ _ _
        refine aR ?_
        (refine nx (aM (gN rfl) rfl rfl rfl rfl rfl) rfl ?_)
        (refine nx (a_add (gN rfl) rfl rfl rfl rfl rfl rfl (by first | omega | (simp only [List.length_map, List.length_append, List.length_cons, List.length_nil] <;> omega) | (simp <;> omega))) rfl ?_)
        (refine nx (aA (gN rfl) rfl rfl rfl rfl rfl) rfl ?_)
        refine ⟨hil, ?_, wk_sub ⟨rfl, rfl, rfl, trivial⟩⟩
        intro z hz
        rw [List.take_add_one, hy, List.mem_append] at hz
        rcases hz with hz | hz
        · exact hI z hz
        · simp at hz; rw [hz]; simpa using hn
  · have hil : i = Y.length := by
      have : ¬ i < Y.length := by simpa using hlt
      omega
    subst hil
    rw [List.take_length] at hI
    rw [List.all_eq_true.2 hI, Bool.and_true]
    have e : decide (0 < X.length) = decide (((X.map Tm.cv).length : Int) > 0) := by simp
    rw [e]
    refine aE ?_
    show AWp _ _ _ _ _ _ _
    refine aS (aR ?_)
    (refine nx (aM (gN rfl) rfl rfl rfl rfl rfl) rfl ?_)
    (refine nx (a_len (gN rfl) rfl rfl rfl rfl rfl rfl rfl) rfl ?_)
    (refine nx (a_gtr (gN rfl) rfl rfl rfl rfl rfl rfl) rfl ?_)
    (refine nx (aA (gN rfl) rfl rfl rfl rfl rfl) rfl ?_)
    show AWp _ _ _ _ _ _ _
    exact aT (And.intro (.inr rfl) rfl)
-- 
theorem rGr14_abs (W : World) (x y : Lt) (hx : x.fit) (hy : y.fit) : AFun Try.prog W 18 [x.cw, y.cw] (.val (.b (mulB (tmsL x) (tmsL y)))) := by
  have l1 := tmsL_len x
  have l2 := tmsL_len y
  refine afun_of (rs := [.b (mulB (tmsL x) (tmsL y))]) Try.func18 Try.ntmps18 rfl rfl rfl rfl ?_
  intro w U hW
  refine aS (aR ?_)
  (refine nx (a_box (gN rfl) rfl rfl rfl rfl rfl) rfl ?_)
  (refine nx (a_box (gN rfl) rfl rfl rfl rfl rfl) rfl ?_)
  (refine nx (aA (gN rfl) rfl rfl rfl rfl rfl) rfl ?_)
  show AWp _ _ _ _ _ _ _
  refine aS (aD (by kernel_rfl) (by kernel_rfl) ?_)
  (refine nx (aL (gN rfl) rfl rfl rfl rfl rfl rfl rfl rfl rfl rfl rfl rfl) rfl ?_)
  (refine nx (a_call (gN rfl) rfl rfl rfl rfl rfl (rTms_abs w x)) rfl ?_)
  (refine nx (aL (gN rfl) rfl rfl rfl rfl rfl rfl rfl rfl rfl rfl rfl rfl) rfl ?_)
  (refine nx (a_call (gN rfl) rfl rfl rfl rfl rfl (rTms_abs w y)) rfl ?_)
  (refine nx (a_call (gN rfl) rfl rfl rfl rfl rfl (rMulti14_abs w (tmsL x) (tmsL y) (tmsL_mem hx) (tmsL_mem hy) (by omega) (by omega))) rfl ?_)
  (refine nx (aA (gN rfl) rfl rfl rfl rfl rfl) rfl ?_)
  refine ⟨by kernel_rfl, ?_⟩
  show AWp _ _ _ _ _ _ _
  exact aT (And.intro (.inr rfl) rfl)
-- 
theorem rWt14_abs (W : World) (l : Lt) (h : l.fit) : AFun Try.prog W 45 [l.cw] (.val (.i (wtL l))) := by
  have h1 := h.1.2.2
  have h2 := h.2.2.2
  have f1 : l.a.flat.length = l.a.size := rfl
  have f2 : l.b.flat.length = l.b.size := rfl
  have e : wtL l = ((l.a.flat.map Tm.cv).length : Int) + ((l.b.flat.map Tm.cv).length : Int) := by unfold wtL; rw [List.length_map, List.length_map]; rfl
  rw [e]
  refine afun_of (rs := [.i (((l.a.flat.map Tm.cv).length : Int) + ((l.b.flat.map Tm.cv).length : Int))]) Try.func45 Try.ntmps45 rfl rfl rfl rfl ?_
  intro w U hW
  refine aS (aR ?_)
  (refine nx (a_box (gN rfl) rfl rfl rfl rfl rfl) rfl ?_)
  (refine nx (aA (gN rfl) rfl rfl rfl rfl rfl) rfl ?_)
  show AWp _ _ _ _ _ _ _
  refine aS (aD (by kernel_rfl) (by kernel_rfl) ?_)
  (refine nx (aF (gN rfl) rfl rfl rfl rfl rfl rfl rfl rfl rfl) rfl ?_)
  (refine nx (aLb (gN rfl) rfl rfl rfl rfl rfl rfl rfl rfl rfl rfl rfl rfl) rfl ?_)
  (refine nx (a_call (gN rfl) rfl rfl rfl rfl rfl (refFlat_abs w l.a h.1.2.1 h1)) rfl ?_)
  (refine nx (a_len (gN rfl) rfl rfl rfl rfl rfl rfl rfl) rfl ?_)
  (refine nx (aF (gN rfl) rfl rfl rfl rfl rfl rfl rfl rfl rfl) rfl ?_)
  (refine nx (aLb (gN rfl) rfl rfl rfl rfl rfl rfl rfl rfl rfl rfl rfl rfl) rfl ?_)
  (refine nx (a_call (gN rfl) rfl rfl rfl rfl rfl (refFlat_abs w l.b h.2.2.1 h2)) rfl ?_)
  (refine nx (a_len (gN rfl) rfl rfl rfl rfl rfl rfl rfl) rfl ?_)
  (refine nx (a_add (gN rfl) rfl rfl rfl rfl rfl rfl (by first | omega | (simp only [List.length_map, List.length_append, List.length_cons, List.length_nil] <;> omega) | (simp <;> omega))) rfl ?_)
  (refine nx (aA (gN rfl) rfl rfl rfl rfl rfl) rfl ?_)
  refine ⟨by kernel_rfl, ?_⟩
  show AWp _ _ _ _ _ _ _
  exact aT (And.intro (.inr rfl) rfl)
-- 
theorem rGst14_abs (W : World) (c : List Lt) (q : Nat) (x : Lt) (hq : c[q]? = some x) (hn : c.length ≤ 100000) (hc : ∀ l ∈ c, l.fit) : AFun Try.prog W 24 [.lst (c.map Lt.cv), .i (q : Int)] (.val (.b (gstL c x))) := by
  have hsz := Lt.size_all c
  have hq' := Lt.map_at hq
  have hxf := hc x (List.mem_of_getElem? hq)
  refine afun_of (rs := [.b (gstL c x)]) Try.func24 Try.ntmps24 rfl rfl rfl rfl ?_
  intro w U hW
  refine aS (aR ?_)
  (refine nx (aA (gN rfl) rfl rfl rfl rfl rfl) rfl ?_)
  show AWp _ _ _ _ _ _ _
  refine aS (aS (aR ?_))
  (refine nx (aA (gN rfl) rfl rfl rfl rfl rfl) rfl ?_)
  show AWp _ _ _ _ _ _ _
  let st : Nat → AS := fun k => [(0, .val (.lst (c.map Lt.cv))), (1, .val (.i q)), (5, .val (.i k))]
  refine aB (awp_countI c.length (fun k => ∀ l ∈ c.take k, mulB (tmsL l) (tmsL x) = false) st (wk_sub ⟨rfl, rfl, rfl, trivial⟩) (by simp) ?_)
  intro k hk hI
  refine aS (aS (aR ?_))
  (refine nx (aM (gN rfl) rfl rfl rfl rfl rfl) rfl ?_)
  (refine nx (aM (gN rfl) rfl rfl rfl rfl rfl) rfl ?_)
  (refine nx (a_len (gN rfl) rfl rfl rfl rfl rfl rfl rfl) rfl ?_)
  (refine nx (a_lss (gN rfl) rfl rfl rfl rfl rfl rfl) rfl ?_)
  show AWp _ _ _ _ _ _ _
  refine aC rfl (fun hlt => ?_) (fun hlt => ?_)
  · have hkl : k < c.length := by simpa using hlt
    obtain ⟨l, hl⟩ : ∃ l, c[k]? = some l := ⟨c[k], List.getElem?_eq_getElem hkl⟩
    have hl' := Lt.map_at hl
    have hlf := hc l (List.mem_of_getElem? hl)
    refine aK ?_
    show AWp _ _ _ _ _ _ _
    refine aS (aB (aS (aD (by kernel_rfl) (by kernel_rfl) ?_)))
    (refine nx (aM (gN rfl) rfl rfl rfl rfl rfl) rfl ?_)
    (refine nx (aM (gN rfl) rfl rfl rfl rfl rfl) rfl ?_)
    (refine nx (a_index (j := k) (gN rfl) rfl rfl rfl rfl rfl rfl rfl rfl rfl (hl') rfl (hsz)) rfl ?_)
    (refine nx (a_load_ad (gN rfl) rfl rfl rfl rfl rfl rfl rfl rfl rfl) rfl ?_)
    (refine nx (aM (gN rfl) rfl rfl rfl rfl rfl) rfl ?_)
    (refine nx (aM (gN rfl) rfl rfl rfl rfl rfl) rfl ?_)
    (refine nx (a_index (j := q) (gN rfl) rfl rfl rfl rfl rfl rfl rfl rfl rfl (hq') rfl (hsz)) rfl ?_)
    (refine nx (a_load_ad (gN rfl) rfl rfl rfl rfl rfl rfl rfl rfl rfl) rfl ?_)
    (refine nx (a_call (gN rfl) rfl rfl rfl rfl rfl (rGr14_abs w l x hlf hxf)) rfl ?_)
    refine ⟨by kernel_rfl, ?_⟩
    show AWp _ _ _ _ _ _ _
    refine aC rfl (fun hg => ?_) (fun hg => ?_)
    · have hg : mulB (tmsL l) (tmsL x) = true := hg
      have hno : gstL c x = false := by unfold gstL; rw [List.any_eq_true.2 ⟨l, List.mem_of_getElem? hl, hg⟩]; rfl
      rw [hno]
      refine aS (aR ?_)
      (refine nx (aA (gN rfl) rfl rfl rfl rfl rfl) rfl ?_)
      show AWp _ _ _ _ _ _ _
      exact aT (And.intro (.inr rfl) rfl)
    · have hg : mulB (tmsL l) (tmsL x) = false := hg
      refine aK ?_
      show AWp _ _ _ _ _ _ _
      refine aR ?_
      (refine nx (aM (gN rfl) rfl rfl rfl rfl rfl) rfl ?_)
      (refine nx (a_add (gN rfl) rfl rfl rfl rfl rfl rfl (by first | omega | (simp only [List.length_map, List.length_append, List.length_cons, List.length_nil] <;> omega) | (simp <;> omega))) rfl ?_)
      (refine nx (aA (gN rfl) rfl rfl rfl rfl rfl) rfl ?_)
      refine ⟨hkl, ?_, wk_sub ⟨rfl, rfl, rfl, trivial⟩⟩
      intro z hz
      rw [List.take_add_one, hl, List.mem_append] at hz
      rcases hz with hz | hz
      · exact hI z hz
      · simp at hz; rw [hz]; exact hg
  · have hkl : k = c.length := by
      have : ¬ k < c.length := by simpa using hlt
      omega
    subst hkl
    rw [List.take_length] at hI
    have hyes : gstL c x = true := by
      unfold gstL
      rw [List.any_eq_false.2 fun l hl => by rw [hI l hl]; decide]; rfl
    rw [hyes]
    refine aE ?_
    show AWp _ _ _ _ _ _ _
    refine aS (aR ?_)
    (refine nx (aA (gN rfl) rfl rfl rfl rfl rfl) rfl ?_)
    show AWp _ _ _ _ _ _ _
    exact aT (And.intro (.inr rfl) rfl)
theorem gstI_at {c : List Lt} {k : Nat} {x : Lt} (h : c[k]? = some x) : gstI c (k : Int) = gstL c x := by unfold gstI; rw [if_pos (by omega), Int.toNat_natCast, h]
theorem wtL_pos (l : Lt) : 0 < wtL l := by have := l.a.size_pos; unfold wtL; omega
theorem hv_facts (c : List Lt) : ∀ k, k ≤ c.length → (hvK c k = (-1, 0) ∧ ∀ j l, j < k → c[j]? = some l → l.neg = false) ∨ ∃ p x, p < k ∧ c[p]? = some x ∧ x.neg = true ∧ hvK c k = ((p : Int), wtL x) ∧ (∀ j l, j < k → c[j]? = some l → l.neg = true → wtL l ≤ wtL x) ∧ ∀ j l, j < p → c[j]? = some l → l.neg = true → wtL l < wtL x
  | 0, _ => .inl ⟨rfl, fun j l h => by omega⟩
  | k + 1, hk => by
    obtain ⟨y, hy⟩ : ∃ y, c[k]? = some y := ⟨c[k], List.getElem?_eq_getElem (by omega)⟩
    have hK : hvK c (k + 1) = if y.neg = true ∧ (hvK c k).2 < wtL y then ((k : Int), wtL y) else hvK c k := by conv => lhs; unfold hvK; rw [hy]
    have hwp := wtL_pos y
    rcases hv_facts c k (by omega) with ⟨h1, h2⟩ | ⟨p, x, hp, hx, hxn, h1, h2, h3⟩
    · by_cases hn : y.neg = true
      · right
        refine ⟨k, y, by omega, hy, hn, by rw [hK, if_pos ⟨hn, by rw [h1]; exact hwp⟩], fun j l hj hl hln => ?_, fun j l hj hl hln => ?_⟩
        · by_cases hjk : j = k
          · subst hjk; rw [hy] at hl; cases hl; exact Int.le_refl _
          · rw [h2 j l (by omega) hl] at hln; cases hln
        · rw [h2 j l hj hl] at hln; cases hln
      · left
        refine ⟨by rw [hK, if_neg (fun h => hn h.1), h1], fun j l hj hl => ?_⟩
        by_cases hjk : j = k
        · subst hjk; rw [hy] at hl; cases hl; simpa using hn
        · exact h2 j l (by omega) hl
    · right
      by_cases hc : y.neg = true ∧ (hvK c k).2 < wtL y
      · rw [h1] at hc
        have hlt : wtL x < wtL y := hc.2
        refine ⟨k, y, by omega, hy, hc.1, by rw [hK, h1, if_pos hc], fun j l hj hl hln => ?_, fun j l hj hl hln => ?_⟩
        · by_cases hjk : j = k
          · subst hjk; rw [hy] at hl; cases hl; exact Int.le_refl _
          · have := h2 j l (by omega) hl hln; omega
        · have := h2 j l hj hl hln; omega
      · refine ⟨p, x, by omega, hx, hxn, by rw [hK, if_neg hc, h1], fun j l hj hl hln => ?_, h3⟩
        by_cases hjk : j = k
        · subst hjk; rw [hy] at hl; cases hl
          rw [h1] at hc
          have : ¬ wtL x < wtL y := fun h => hc ⟨hln, h⟩
          omega
        · exact h2 j l (by omega) hl hln
-- 
theorem rLook14_abs (W : World) (c : List Lt) (hn : c.length ≤ 100000) (hc : ∀ l ∈ c, l.fit) : AFun Try.prog W 28 [.lst (c.map Lt.cv)] (.val (.lst ((lokL c).map CV.i))) := by
  have hsz := Lt.size_all c
  refine afun_of (rs := [.lst ((lokL c).map CV.i)]) Try.func28 Try.ntmps28 rfl rfl rfl rfl ?_
  intro w U hW
  refine aS (aR ?_)
  (refine nx (aA (gN rfl) rfl rfl rfl rfl rfl) rfl ?_)
  show AWp _ _ _ _ _ _ _
  refine aS (aR ?_)
  (refine nx (aA (gN rfl) rfl rfl rfl rfl rfl) rfl ?_)
  show AWp _ _ _ _ _ _ _
  refine aS (aS (aR ?_))
  (refine nx (aA (gN rfl) rfl rfl rfl rfl rfl) rfl ?_)
  show AWp _ _ _ _ _ _ _
  let st : Nat → AS := fun k => [(0, .val (.lst (c.map Lt.cv))), (3, .val (.i (hvK c k).2)), (4, .val (.i k))]
  refine aB (awp_count c.length st (wk_sub ⟨rfl, rfl, rfl, trivial⟩) ?_)
  intro k hk
  refine aS (aS (aR ?_))
  (refine nx (aM (gN rfl) rfl rfl rfl rfl rfl) rfl ?_)
  (refine nx (aM (gN rfl) rfl rfl rfl rfl rfl) rfl ?_)
  (refine nx (a_len (gN rfl) rfl rfl rfl rfl rfl rfl rfl) rfl ?_)
  (refine nx (a_lss (gN rfl) rfl rfl rfl rfl rfl rfl) rfl ?_)
  show AWp _ _ _ _ _ _ _
  refine aC rfl (fun hlt => ?_) (fun hlt => ?_)
  · have hkl : k < c.length := by simpa using hlt
    obtain ⟨x, hx⟩ : ∃ x, c[k]? = some x := ⟨c[k], List.getElem?_eq_getElem hkl⟩
    have hx' := Lt.map_at hx
    have hxf := hc x (List.mem_of_getElem? hx)
    have hK : hvK c (k + 1) = if x.neg = true ∧ (hvK c k).2 < wtL x then ((k : Int), wtL x) else hvK c k := by conv => lhs; unfold hvK; rw [hx]
    refine aK ?_
    show AWp _ _ _ _ _ _ _
    refine aS (aB ?_)
    cases hng : x.neg with
    | true =>
      refine aS (aR ?_)
      (refine nx (aM (gN rfl) rfl rfl rfl rfl rfl) rfl ?_)
      (refine nx (aM (gN rfl) rfl rfl rfl rfl rfl) rfl ?_)
      (refine nx (a_index (j := k) (gN rfl) rfl rfl rfl rfl rfl rfl rfl rfl rfl (hx') rfl (hsz)) rfl ?_)
      (refine nx (a_field_ad (gN rfl) rfl rfl rfl rfl rfl rfl rfl rfl rfl rfl rfl) rfl ?_)
      (refine nx (a_load_ad (gN rfl) rfl rfl rfl rfl rfl rfl rfl rfl rfl) rfl ?_)
      (refine nx (aM (gN rfl) rfl rfl rfl rfl rfl) rfl ?_)
      (refine nx (aM (gd_on rfl rfl rfl rfl (by first | rfl | assumption | (simp; done))) rfl rfl rfl rfl rfl) rfl ?_)
      (refine nx (aM (gd_on rfl rfl rfl rfl (by first | rfl | assumption | (simp; done))) rfl rfl rfl rfl rfl) rfl ?_)
      (refine nx (a_index (j := k) (gd_on rfl rfl rfl rfl (by first | rfl | assumption | (simp; done))) rfl rfl rfl rfl rfl rfl rfl rfl rfl (hx') rfl (hsz)) rfl ?_)
      (refine nx (a_load_ad (gd_on rfl rfl rfl rfl (by first | rfl | assumption | (simp; done))) rfl rfl rfl rfl rfl rfl rfl rfl rfl) rfl ?_)
      (refine nx (a_call (gd_on rfl rfl rfl rfl (by first | rfl | assumption | (simp; done))) rfl rfl rfl rfl rfl (rWt14_abs w x hxf)) rfl ?_)
      (refine nx (aM (gd_on rfl rfl rfl rfl (by first | rfl | assumption | (simp; done))) rfl rfl rfl rfl rfl) rfl ?_)
      (refine nx (a_gtr (gd_on rfl rfl rfl rfl (by first | rfl | assumption | (simp; done))) rfl rfl rfl rfl rfl rfl) rfl ?_)
      (refine ⟨_, _, _, aPt (gN rfl) rfl rfl rfl rfl rfl ?hb rfl, rfl, ?_⟩; case hb => (first | rfl | assumption | (simp; done)))
      show AWp _ _ _ _ _ _ _
      refine aC rfl (fun hg => ?_) (fun hg => ?_)
      · have hg : decide (wtL x > (hvK c k).2) = true := hg
        have e : (hvK c (k + 1)).2 = wtL x := by rw [hK, if_pos ⟨hng, by have := of_decide_eq_true hg; omega⟩]
        refine aR ?_
        (refine nx (aM (gN rfl) rfl rfl rfl rfl rfl) rfl ?_)
        (refine nx (aM (gN rfl) rfl rfl rfl rfl rfl) rfl ?_)
        (refine nx (a_index (j := k) (gN rfl) rfl rfl rfl rfl rfl rfl rfl rfl rfl (hx') rfl (hsz)) rfl ?_)
        (refine nx (a_load_ad (gN rfl) rfl rfl rfl rfl rfl rfl rfl rfl rfl) rfl ?_)
        (refine nx (a_call (gN rfl) rfl rfl rfl rfl rfl (rWt14_abs w x hxf)) rfl ?_)
        (refine nx (aA (gN rfl) rfl rfl rfl rfl rfl) rfl ?_)
        show AWp _ _ _ _ _ _ _
        refine aR ?_
        (refine nx (aM (gN rfl) rfl rfl rfl rfl rfl) rfl ?_)
        (refine nx (a_add (gN rfl) rfl rfl rfl rfl rfl rfl (by first | omega | (simp only [List.length_map, List.length_append, List.length_cons, List.length_nil] <;> omega) | (simp <;> omega))) rfl ?_)
        (refine nx (aA (gN rfl) rfl rfl rfl rfl rfl) rfl ?_)
        refine ⟨hkl, wk_sub ⟨rfl, ?_, rfl, trivial⟩⟩
        rw [e]; rfl
      · have hg : decide (wtL x > (hvK c k).2) = false := hg
        have e : hvK c (k + 1) = hvK c k := by rw [hK, if_neg (fun h => by have := of_decide_eq_false hg; have := h.2; omega)]
        refine aK ?_
        show AWp _ _ _ _ _ _ _
        refine aR ?_
        (refine nx (aM (gN rfl) rfl rfl rfl rfl rfl) rfl ?_)
        (refine nx (a_add (gN rfl) rfl rfl rfl rfl rfl rfl (by first | omega | (simp only [List.length_map, List.length_append, List.length_cons, List.length_nil] <;> omega) | (simp <;> omega))) rfl ?_)
        (refine nx (aA (gN rfl) rfl rfl rfl rfl rfl) rfl ?_)
        refine ⟨hkl, wk_sub ⟨rfl, ?_, rfl, trivial⟩⟩
        rw [e]; rfl
    | false =>
      have e : hvK c (k + 1) = hvK c k := by rw [hK, if_neg (fun h => by rw [hng] at h; cases h.1)]
      refine aS (aR ?_)
      (refine nx (aM (gN rfl) rfl rfl rfl rfl rfl) rfl ?_)
      (refine nx (aM (gN rfl) rfl rfl rfl rfl rfl) rfl ?_)
      (refine nx (a_index (j := k) (gN rfl) rfl rfl rfl rfl rfl rfl rfl rfl rfl (hx') rfl (hsz)) rfl ?_)
      (refine nx (a_field_ad (gN rfl) rfl rfl rfl rfl rfl rfl rfl rfl rfl rfl rfl) rfl ?_)
      (refine nx (a_load_ad (gN rfl) rfl rfl rfl rfl rfl rfl rfl rfl rfl) rfl ?_)
      (refine nx (aM (gN rfl) rfl rfl rfl rfl rfl) rfl ?_)
      (refine ⟨_, _, _, a_off (go_off rfl rfl rfl rfl (by first | rfl | assumption | (simp; done) | (simp [*]; done))) rfl rfl rfl, rfl, ?_⟩)
      (refine ⟨_, _, _, a_off (go_off rfl rfl rfl rfl (by first | rfl | assumption | (simp; done) | (simp [*]; done))) rfl rfl rfl, rfl, ?_⟩)
      (refine ⟨_, _, _, a_off (go_off rfl rfl rfl rfl (by first | rfl | assumption | (simp; done) | (simp [*]; done))) rfl rfl rfl, rfl, ?_⟩)
      (refine ⟨_, _, _, a_off (go_off rfl rfl rfl rfl (by first | rfl | assumption | (simp; done) | (simp [*]; done))) rfl rfl rfl, rfl, ?_⟩)
      (refine ⟨_, _, _, a_off (go_off rfl rfl rfl rfl (by first | rfl | assumption | (simp; done) | (simp [*]; done))) rfl rfl rfl, rfl, ?_⟩)
      (refine ⟨_, _, _, a_off (go_off rfl rfl rfl rfl (by first | rfl | assumption | (simp; done) | (simp [*]; done))) rfl rfl rfl, rfl, ?_⟩)
      (refine ⟨_, _, _, a_off (go_off rfl rfl rfl rfl (by first | rfl | assumption | (simp; done) | (simp [*]; done))) rfl rfl rfl, rfl, ?_⟩)
      (refine ⟨_, _, _, aPf (gN rfl) rfl rfl rfl rfl rfl ?hb rfl, rfl, ?_⟩; case hb => (first | rfl | assumption | (simp; done)))
      show AWp _ _ _ _ _ _ _
      refine aC rfl (fun h => by cases h) (fun _ => ?_)
      refine aK ?_
      show AWp _ _ _ _ _ _ _
      refine aR ?_
      (refine nx (aM (gN rfl) rfl rfl rfl rfl rfl) rfl ?_)
      (refine nx (a_add (gN rfl) rfl rfl rfl rfl rfl rfl (by first | omega | (simp only [List.length_map, List.length_append, List.length_cons, List.length_nil] <;> omega) | (simp <;> omega))) rfl ?_)
      (refine nx (aA (gN rfl) rfl rfl rfl rfl rfl) rfl ?_)
      refine ⟨hkl, wk_sub ⟨rfl, ?_, rfl, trivial⟩⟩
      rw [e]; rfl
  · have hkl : k = c.length := by
      have : ¬ k < c.length := by simpa using hlt
      omega
    subst hkl
    refine aE ?_
    show AWp _ _ _ _ _ _ _
    obtain ⟨M, hM⟩ : ∃ M, M = (hvK c c.length).2 := ⟨_, rfl⟩
    refine AWp.wk (wk_sub (s' := [(0, .val (.lst (c.map Lt.cv))), (3, .val (.i M))]) ⟨rfl, by rw [hM]; rfl, trivial⟩) ?_
    refine aS (aR ?_)
    (refine nx (aA (gN rfl) rfl rfl rfl rfl rfl) rfl ?_)
    show AWp _ _ _ _ _ _ _
    refine aS (aS (aR ?_))
    (refine nx (aA (gN rfl) rfl rfl rfl rfl rfl) rfl ?_)
    show AWp _ _ _ _ _ _ _
    rcases hv_facts c c.length (Nat.le_refl _) with ⟨h1, h2⟩ | ⟨p, x, hp, hx, hxn, h1, h2, h3⟩
    · -- none is Neg
      have hM0 : M = 0 := by rw [hM, h1]
      subst hM0
      have hlk : lokL c = gsK c c.length := by unfold lokL; rw [h1, if_neg (by decide)]
      rw [hlk]
      let st2 : Nat → AS := fun k => [(0, .val (.lst (c.map Lt.cv))), (3, .val (.i 0)), (5, .own (.lst ((gsK c k).map CV.i)) 200068), (200068, .tok 3 1), (6, .val (.i k))]
      refine aB (awp_count c.length st2 ((wk_nil 5 200068 3 1 rfl rfl rfl rfl rfl rfl rfl).trans (wk_sub ⟨rfl, rfl, rfl, rfl, rfl, trivial⟩)) ?_)
      intro k hk
      refine aS (aS (aR ?_))
      (refine nx (aM (gN rfl) rfl rfl rfl rfl rfl) rfl ?_)
      (refine nx (aM (gN rfl) rfl rfl rfl rfl rfl) rfl ?_)
      (refine nx (a_len (gN rfl) rfl rfl rfl rfl rfl rfl rfl) rfl ?_)
      (refine nx (a_lss (gN rfl) rfl rfl rfl rfl rfl rfl) rfl ?_)
      show AWp _ _ _ _ _ _ _
      refine aC rfl (fun hlt => ?_) (fun hlt => ?_)
      · have hkl : k < c.length := by simpa using hlt
        obtain ⟨x, hx⟩ : ∃ x, c[k]? = some x := ⟨c[k], List.getElem?_eq_getElem hkl⟩
        have hgI := gstI_at hx
        have hl3 : ((gsK c k).map CV.i).length ≤ k := by rw [List.length_map]; exact gsK_len c k
        have hl4 := gsK_len c k
        have hsz3 : ∀ x ∈ (gsK c k).map CV.i, x.size = 1 := ints_size _
        refine aK ?_
        show AWp _ _ _ _ _ _ _
        refine aS (aB (aS (aS (aR ?_))))
        (refine nx (aM (gN rfl) rfl rfl rfl rfl rfl) rfl ?_)
        (refine nx (a_gtr (gN rfl) rfl rfl rfl rfl rfl rfl) rfl ?_)
        (refine nx (aM (gN rfl) rfl rfl rfl rfl rfl) rfl ?_)
        (refine ⟨_, _, _, a_off (go_off rfl rfl rfl rfl (by first | rfl | assumption | (simp; done) | (simp [*]; done))) rfl rfl rfl, rfl, ?_⟩)
        (refine ⟨_, _, _, a_off (go_off rfl rfl rfl rfl (by first | rfl | assumption | (simp; done) | (simp [*]; done))) rfl rfl rfl, rfl, ?_⟩)
        (refine ⟨_, _, _, a_off (go_off rfl rfl rfl rfl (by first | rfl | assumption | (simp; done) | (simp [*]; done))) rfl rfl rfl, rfl, ?_⟩)
        (refine ⟨_, _, _, a_off (go_off rfl rfl rfl rfl (by first | rfl | assumption | (simp; done) | (simp [*]; done))) rfl rfl rfl, rfl, ?_⟩)
        (refine ⟨_, _, _, a_off (go_off rfl rfl rfl rfl (by first | rfl | assumption | (simp; done) | (simp [*]; done))) rfl rfl rfl, rfl, ?_⟩)
        (refine ⟨_, _, _, aPf (gN rfl) rfl rfl rfl rfl rfl ?hb rfl, rfl, ?_⟩; case hb => (first | rfl | assumption | (simp; done)))
        (refine nx (aM (gN rfl) rfl rfl rfl rfl rfl) rfl ?_)
        (refine ⟨_, _, _, a_off (go_off rfl rfl rfl rfl (by first | rfl | assumption | (simp; done) | (simp [*]; done))) rfl rfl rfl, rfl, ?_⟩)
        (refine ⟨_, _, _, a_off (go_off rfl rfl rfl rfl (by first | rfl | assumption | (simp; done) | (simp [*]; done))) rfl rfl rfl, rfl, ?_⟩)
        (refine ⟨_, _, _, a_off (go_off rfl rfl rfl rfl (by first | rfl | assumption | (simp; done) | (simp [*]; done))) rfl rfl rfl, rfl, ?_⟩)
        (refine ⟨_, _, _, a_off (go_off rfl rfl rfl rfl (by first | rfl | assumption | (simp; done) | (simp [*]; done))) rfl rfl rfl, rfl, ?_⟩)
        (refine ⟨_, _, _, a_off (go_off rfl rfl rfl rfl (by first | rfl | assumption | (simp; done) | (simp [*]; done))) rfl rfl rfl, rfl, ?_⟩)
        (refine ⟨_, _, _, a_off (go_off rfl rfl rfl rfl (by first | rfl | assumption | (simp; done) | (simp [*]; done))) rfl rfl rfl, rfl, ?_⟩)
        (refine ⟨_, _, _, a_off (go_off rfl rfl rfl rfl (by first | rfl | assumption | (simp; done) | (simp [*]; done))) rfl rfl rfl, rfl, ?_⟩)
        (refine ⟨_, _, _, aPf (gN rfl) rfl rfl rfl rfl rfl ?hb rfl, rfl, ?_⟩; case hb => (first | rfl | assumption | (simp; done)))
        show AWp _ _ _ _ _ _ _
        refine aC rfl (fun h => by cases h) (fun _ => ?_)
        refine aK ?_
        show AWp _ _ _ _ _ _ _
        refine aS (aR ?_)
        (refine nx (aM (gN rfl) rfl rfl rfl rfl rfl) rfl ?_)
        (refine nx (a_eql (gN rfl) rfl rfl rfl rfl rfl rfl) rfl ?_)
        (refine nx (aM (gN rfl) rfl rfl rfl rfl rfl) rfl ?_)
        (refine nx (aM (gd_on rfl rfl rfl rfl (by first | rfl | assumption | (simp; done))) rfl rfl rfl rfl rfl) rfl ?_)
        (refine nx (aM (gd_on rfl rfl rfl rfl (by first | rfl | assumption | (simp; done))) rfl rfl rfl rfl rfl) rfl ?_)
        (refine nx (a_call (gd_on rfl rfl rfl rfl (by first | rfl | assumption | (simp; done))) rfl rfl rfl rfl rfl (rGst14_abs w c k x hx hn hc)) rfl ?_)
        (refine ⟨_, _, _, aPt (gN rfl) rfl rfl rfl rfl rfl ?hb rfl, rfl, ?_⟩; case hb => (first | rfl | assumption | (simp; done)))
        show AWp _ _ _ _ _ _ _
        refine aC rfl (fun hg => ?_) (fun hg => ?_)
        · have hg : gstL c x = true := hg
          refine aR ?_
          (refine nx (aM (gN rfl) rfl rfl rfl rfl rfl) rfl ?_)
          (refine nx (aM (gN rfl) rfl rfl rfl rfl rfl) rfl ?_)
          (refine nx (a_bslice (gN rfl) rfl rfl rfl rfl rfl rfl rfl rfl rfl rfl rfl rfl rfl) rfl ?_)
          (refine nx (a_app (gN rfl) rfl rfl rfl rfl rfl rfl rfl rfl rfl rfl rfl rfl rfl rfl rfl (by first | assumption | exact sZ rfl | exact Tm.size_all _ | exact Bd.size_all _ | exact ints_size _ | exact bys_size _ | exact Lt.size_all _) (by first | assumption | exact sZ rfl | exact Tm.size_all _ | exact Bd.size_all _ | exact ints_size _ | exact bys_size _ | exact Lt.size_all _) (by first | omega | (simp only [List.length_map, List.length_append, List.length_cons, List.length_nil] <;> omega) | (simp <;> omega))) rfl ?_)
          (refine nx (aA (gN rfl) rfl rfl rfl rfl rfl) rfl ?_)
          show AWp _ _ _ _ _ _ _
          refine AWp.wk ((wk_sub (s' := [(0, .val (.lst (c.map Lt.cv))), (3, .val (.i 0)), (5, .own (.lst ((gsK c k).map CV.i ++ [CV.i (k : Int)])) 300068), (300068, .tok 3 1), (6, .val (.i k))]) ⟨rfl, rfl, rfl, rfl, rfl, trivial⟩).trans (wk_ren 300068 200068 rfl rfl rfl rfl)) ?_
          refine aR ?_
          (refine nx (aM (gN rfl) rfl rfl rfl rfl rfl) rfl ?_)
          (refine nx (a_add (gN rfl) rfl rfl rfl rfl rfl rfl (by first | omega | (simp only [List.length_map, List.length_append, List.length_cons, List.length_nil] <;> omega) | (simp <;> omega))) rfl ?_)
          (refine nx (aA (gN rfl) rfl rfl rfl rfl rfl) rfl ?_)
          refine ⟨hkl, wk_sub ⟨rfl, rfl, ?_, rfl, rfl, trivial⟩⟩
          show some (AV.own (.lst _) _) = some (AV.own (.lst _) _)
          rw [gsK_succ, if_pos (hgI.trans hg), List.map_append]
          rfl
        · have hg : gstL c x = false := hg
          refine aK ?_
          show AWp _ _ _ _ _ _ _
          refine aR ?_
          (refine nx (aM (gN rfl) rfl rfl rfl rfl rfl) rfl ?_)
          (refine nx (a_add (gN rfl) rfl rfl rfl rfl rfl rfl (by first | omega | (simp only [List.length_map, List.length_append, List.length_cons, List.length_nil] <;> omega) | (simp <;> omega))) rfl ?_)
          (refine nx (aA (gN rfl) rfl rfl rfl rfl rfl) rfl ?_)
          refine ⟨hkl, wk_sub ⟨rfl, rfl, ?_, rfl, rfl, trivial⟩⟩
          show some (AV.own (.lst _) _) = some (AV.own (.lst _) _)
          rw [gsK_succ, if_neg (by rw [hgI, hg]; decide), List.append_nil]
      · have hkl : k = c.length := by
          have : ¬ k < c.length := by simpa using hlt
          omega
        subst hkl
        refine aE ?_
        show AWp _ _ _ _ _ _ _
        refine aS (aR ?_)
        (refine nx (aM (gN rfl) rfl rfl rfl rfl rfl) rfl ?_)
        (refine nx (aA (gN rfl) rfl rfl rfl rfl rfl) rfl ?_)
        show AWp _ _ _ _ _ _ _
        exact aT (And.intro (.inr rfl) rfl)
    · -- the first one of the greatest weight
      have hMx : M = wtL x := by rw [hM, h1]
      have hMp : M > 0 := by rw [hMx]; exact wtL_pos x
      have g0 : decide (M > 0) = true := decide_eq_true hMp
      have g1 : decide (M = 0) = false := decide_eq_false (by omega)
      have hlk : lokL c = [(p : Int)] := by unfold lokL; rw [h1, if_pos (by simp)]
      rw [hlk]
      let st2 : Nat → AS := fun k => [(0, .val (.lst (c.map Lt.cv))), (3, .val (.i M)), (6, .val (.i k))]
      refine aB (awp_countI p (fun _ => True) st2 (wk_sub ⟨rfl, rfl, rfl, trivial⟩) trivial ?_)
      intro k hk _
      have hkl : k < c.length := by omega
      have g2 : decide ((k : Int) < ((c.map Lt.cv).length : Int)) = true := decide_eq_true (by rw [List.length_map]; omega)
      obtain ⟨y, hy⟩ : ∃ y, c[k]? = some y := ⟨c[k], List.getElem?_eq_getElem hkl⟩
      have hy' := Lt.map_at hy
      have hyf := hc y (List.mem_of_getElem? hy)
      refine aS (aS (aR ?_))
      (refine nx (aM (gN rfl) rfl rfl rfl rfl rfl) rfl ?_)
      (refine nx (aM (gN rfl) rfl rfl rfl rfl rfl) rfl ?_)
      (refine nx (a_len (gN rfl) rfl rfl rfl rfl rfl rfl rfl) rfl ?_)
      (refine nx (a_lss (gN rfl) rfl rfl rfl rfl rfl rfl) rfl ?_)
      show AWp _ _ _ _ _ _ _
      refine aC rfl (fun _ => ?_) (fun h => by have h : decide ((k : Int) < ((c.map Lt.cv).length : Int)) = false := h; rw [g2] at h; cases h)
      refine aK ?_
      show AWp _ _ _ _ _ _ _
      refine aS (aB (aS ?_))
      have hend : y.neg = true → wtL y = M → p ≤ k := fun hyn hyw => by
        rcases Nat.lt_or_ge k p with hlt | hge
        · have := h3 k y hlt hy hyn; omega
        · exact hge
      cases hyn : y.neg with
      | false =>
        have hkp : k < p := by
          rcases Nat.lt_or_ge k p with hlt | hge
          · exact hlt
          · have : k = p := by omega
            subst this
            rw [hx] at hy; cases hy
            rw [hxn] at hyn; cases hyn
        refine aS (aR ?_)
        (refine nx (aM (gN rfl) rfl rfl rfl rfl rfl) rfl ?_)
        (refine nx (a_gtr (gN rfl) rfl rfl rfl rfl rfl rfl) rfl ?_)
        (refine nx (aM (gN rfl) rfl rfl rfl rfl rfl) rfl ?_)
        (refine nx (aM (gd_on rfl rfl rfl rfl (by first | rfl | assumption | (simp; done))) rfl rfl rfl rfl rfl) rfl ?_)
        (refine nx (aM (gd_on rfl rfl rfl rfl (by first | rfl | assumption | (simp; done))) rfl rfl rfl rfl rfl) rfl ?_)
        (refine nx (a_index (j := k) (gd_on rfl rfl rfl rfl (by first | rfl | assumption | (simp; done))) rfl rfl rfl rfl rfl rfl rfl rfl rfl (hy') rfl (hsz)) rfl ?_)
        (refine nx (a_field_ad (gd_on rfl rfl rfl rfl (by first | rfl | assumption | (simp; done))) rfl rfl rfl rfl rfl rfl rfl rfl rfl rfl rfl) rfl ?_)
        (refine nx (a_load_ad (gd_on rfl rfl rfl rfl (by first | rfl | assumption | (simp; done))) rfl rfl rfl rfl rfl rfl rfl rfl rfl) rfl ?_)
        (refine ⟨_, _, _, aPt (gN rfl) rfl rfl rfl rfl rfl ?hb rfl, rfl, ?_⟩; case hb => (first | rfl | assumption | (simp; done)))
        (refine nx (aM (gN rfl) rfl rfl rfl rfl rfl) rfl ?_)
        (refine ⟨_, _, _, a_off (go_off rfl rfl rfl rfl (by first | rfl | assumption | (simp; done) | (simp [*]; done))) rfl rfl rfl, rfl, ?_⟩)
        (refine ⟨_, _, _, a_off (go_off rfl rfl rfl rfl (by first | rfl | assumption | (simp; done) | (simp [*]; done))) rfl rfl rfl, rfl, ?_⟩)
        (refine ⟨_, _, _, a_off (go_off rfl rfl rfl rfl (by first | rfl | assumption | (simp; done) | (simp [*]; done))) rfl rfl rfl, rfl, ?_⟩)
        (refine ⟨_, _, _, a_off (go_off rfl rfl rfl rfl (by first | rfl | assumption | (simp; done) | (simp [*]; done))) rfl rfl rfl, rfl, ?_⟩)
        (refine ⟨_, _, _, a_off (go_off rfl rfl rfl rfl (by first | rfl | assumption | (simp; done) | (simp [*]; done))) rfl rfl rfl, rfl, ?_⟩)
        (refine ⟨_, _, _, a_off (go_off rfl rfl rfl rfl (by first | rfl | assumption | (simp; done) | (simp [*]; done))) rfl rfl rfl, rfl, ?_⟩)
        (refine ⟨_, _, _, a_off (go_off rfl rfl rfl rfl (by first | rfl | assumption | (simp; done) | (simp [*]; done))) rfl rfl rfl, rfl, ?_⟩)
        (refine ⟨_, _, _, aPf (gN rfl) rfl rfl rfl rfl rfl ?hb rfl, rfl, ?_⟩; case hb => (first | rfl | assumption | (simp; done)))
        show AWp _ _ _ _ _ _ _
        refine aC rfl (fun h => by cases h) (fun _ => ?_)
        refine aK ?_
        show AWp _ _ _ _ _ _ _
        refine aS (aR ?_)
        (refine nx (aM (gN rfl) rfl rfl rfl rfl rfl) rfl ?_)
        (refine nx (a_eql (gN rfl) rfl rfl rfl rfl rfl rfl) rfl ?_)
        (refine nx (aM (gN rfl) rfl rfl rfl rfl rfl) rfl ?_)
        (refine ⟨_, _, _, a_off (go_off rfl rfl rfl rfl (by first | rfl | assumption | (simp; done) | (simp [*]; done))) rfl rfl rfl, rfl, ?_⟩)
        (refine ⟨_, _, _, a_off (go_off rfl rfl rfl rfl (by first | rfl | assumption | (simp; done) | (simp [*]; done))) rfl rfl rfl, rfl, ?_⟩)
        (refine ⟨_, _, _, a_off (go_off rfl rfl rfl rfl (by first | rfl | assumption | (simp; done) | (simp [*]; done))) rfl rfl rfl, rfl, ?_⟩)
        (refine ⟨_, _, _, aPf (gN rfl) rfl rfl rfl rfl rfl ?hb rfl, rfl, ?_⟩; case hb => (first | rfl | assumption | (simp; done)))
        show AWp _ _ _ _ _ _ _
        refine aC rfl (fun h => by cases h) (fun _ => ?_)
        refine aK ?_
        show AWp _ _ _ _ _ _ _
        refine aR ?_
        (refine nx (aM (gN rfl) rfl rfl rfl rfl rfl) rfl ?_)
        (refine nx (a_add (gN rfl) rfl rfl rfl rfl rfl rfl (by first | omega | (simp only [List.length_map, List.length_append, List.length_cons, List.length_nil] <;> omega) | (simp <;> omega))) rfl ?_)
        (refine nx (aA (gN rfl) rfl rfl rfl rfl rfl) rfl ?_)
        exact ⟨hkp, trivial, wk_sub ⟨rfl, rfl, rfl, trivial⟩⟩
      | true =>
        refine aS (aR ?_)
        (refine nx (aM (gN rfl) rfl rfl rfl rfl rfl) rfl ?_)
        (refine nx (a_gtr (gN rfl) rfl rfl rfl rfl rfl rfl) rfl ?_)
        (refine nx (aM (gN rfl) rfl rfl rfl rfl rfl) rfl ?_)
        (refine nx (aM (gd_on rfl rfl rfl rfl (by first | rfl | assumption | (simp; done))) rfl rfl rfl rfl rfl) rfl ?_)
        (refine nx (aM (gd_on rfl rfl rfl rfl (by first | rfl | assumption | (simp; done))) rfl rfl rfl rfl rfl) rfl ?_)
        (refine nx (a_index (j := k) (gd_on rfl rfl rfl rfl (by first | rfl | assumption | (simp; done))) rfl rfl rfl rfl rfl rfl rfl rfl rfl (hy') rfl (hsz)) rfl ?_)
        (refine nx (a_field_ad (gd_on rfl rfl rfl rfl (by first | rfl | assumption | (simp; done))) rfl rfl rfl rfl rfl rfl rfl rfl rfl rfl rfl) rfl ?_)
        (refine nx (a_load_ad (gd_on rfl rfl rfl rfl (by first | rfl | assumption | (simp; done))) rfl rfl rfl rfl rfl rfl rfl rfl rfl) rfl ?_)
        (refine ⟨_, _, _, aPt (gN rfl) rfl rfl rfl rfl rfl ?hb rfl, rfl, ?_⟩; case hb => (first | rfl | assumption | (simp; done)))
        (refine nx (aM (gN rfl) rfl rfl rfl rfl rfl) rfl ?_)
        (refine nx (aM (gd_on rfl rfl rfl rfl (by first | rfl | assumption | (simp; done))) rfl rfl rfl rfl rfl) rfl ?_)
        (refine nx (aM (gd_on rfl rfl rfl rfl (by first | rfl | assumption | (simp; done))) rfl rfl rfl rfl rfl) rfl ?_)
        (refine nx (a_index (j := k) (gd_on rfl rfl rfl rfl (by first | rfl | assumption | (simp; done))) rfl rfl rfl rfl rfl rfl rfl rfl rfl (hy') rfl (hsz)) rfl ?_)
        (refine nx (a_load_ad (gd_on rfl rfl rfl rfl (by first | rfl | assumption | (simp; done))) rfl rfl rfl rfl rfl rfl rfl rfl rfl) rfl ?_)
        (refine nx (a_call (gd_on rfl rfl rfl rfl (by first | rfl | assumption | (simp; done))) rfl rfl rfl rfl rfl (rWt14_abs w y hyf)) rfl ?_)
        (refine nx (aM (gd_on rfl rfl rfl rfl (by first | rfl | assumption | (simp; done))) rfl rfl rfl rfl rfl) rfl ?_)
        (refine nx (a_eql (gd_on rfl rfl rfl rfl (by first | rfl | assumption | (simp; done))) rfl rfl rfl rfl rfl rfl) rfl ?_)
        (refine ⟨_, _, _, aPt (gN rfl) rfl rfl rfl rfl rfl ?hb rfl, rfl, ?_⟩; case hb => (first | rfl | assumption | (simp; done)))
        show AWp _ _ _ _ _ _ _
        refine aC rfl (fun hg => ?_) (fun hg => ?_)
        · have hg : decide (wtL y = M) = true := hg
          have hkp : k = p := by have := hend hyn (of_decide_eq_true hg); omega
          subst hkp
          refine aS (aR ?_)
          (refine nx (aM (gN rfl) rfl rfl rfl rfl rfl) rfl ?_)
          (refine nx (a_bslice (gN rfl) rfl rfl rfl rfl rfl rfl rfl rfl rfl rfl rfl rfl rfl) rfl ?_)
          (refine nx (aA (gN rfl) rfl rfl rfl rfl rfl) rfl ?_)
          show AWp _ _ _ _ _ _ _
          exact aT (And.intro (.inr rfl) rfl)
        · have hg : decide (wtL y = M) = false := hg
          have hkp : k < p := by
            rcases Nat.lt_or_ge k p with hlt | hge
            · exact hlt
            · have : k = p := by omega
              subst this
              rw [hx] at hy; cases hy
              exact absurd hMx.symm (of_decide_eq_false hg)
          refine aK ?_
          show AWp _ _ _ _ _ _ _
          refine aS (aR ?_)
          (refine nx (aM (gN rfl) rfl rfl rfl rfl rfl) rfl ?_)
          (refine nx (a_eql (gN rfl) rfl rfl rfl rfl rfl rfl) rfl ?_)
          (refine nx (aM (gN rfl) rfl rfl rfl rfl rfl) rfl ?_)
          (refine ⟨_, _, _, a_off (go_off rfl rfl rfl rfl (by first | rfl | assumption | (simp; done) | (simp [*]; done))) rfl rfl rfl, rfl, ?_⟩)
          (refine ⟨_, _, _, a_off (go_off rfl rfl rfl rfl (by first | rfl | assumption | (simp; done) | (simp [*]; done))) rfl rfl rfl, rfl, ?_⟩)
          (refine ⟨_, _, _, a_off (go_off rfl rfl rfl rfl (by first | rfl | assumption | (simp; done) | (simp [*]; done))) rfl rfl rfl, rfl, ?_⟩)
          (refine ⟨_, _, _, aPf (gN rfl) rfl rfl rfl rfl rfl ?hb rfl, rfl, ?_⟩; case hb => (first | rfl | assumption | (simp; done)))
          show AWp _ _ _ _ _ _ _
          refine aC rfl (fun h => by cases h) (fun _ => ?_)
          refine aK ?_
          show AWp _ _ _ _ _ _ _
          refine aR ?_
          (refine nx (aM (gN rfl) rfl rfl rfl rfl rfl) rfl ?_)
          (refine nx (a_add (gN rfl) rfl rfl rfl rfl rfl rfl (by first | omega | (simp only [List.length_map, List.length_append, List.length_cons, List.length_nil] <;> omega) | (simp <;> omega))) rfl ?_)
          (refine nx (aA (gN rfl) rfl rfl rfl rfl rfl) rfl ?_)
          exact ⟨hkp, trivial, wk_sub ⟨rfl, rfl, rfl, trivial⟩⟩
end Go.Proofs.Ytglbohajmccehaa
