/-
  MtFns MtNew MtFns2 MtFns3 MtFns4 MtParts MtParts2 MtParts3 TmPlA TmPlB TmPlC TmPlD TmPlE MtPm SbNorm SbNorm2 SbSortM SbLaw3 SbThen MtMath2 MtAlive
-/
import Derived.Test.YtgmllfjidhbjjabMg3
import Derived.Test.YtgmllfjidhbjjabMg2
namespace Go.Proofs.Ytgmllfjidhbjjab
open Go.RowKit
set_option linter.unusedVariables false
set_option linter.unusedSimpArgs false
set_option maxRecDepth 100000

/-- The bindings as they were handed in, and as they are once one was added; m: how many were handed in. -/
noncomputable def fA (m : Nat) (L : List Bd) : AV := ⟨if L.length ≤ m then 18 else 12, if L.length ≤ m then .lst (L.map Bd.cv) else .row [], 300001, 0, if L.length ≤ m then [] else [L.length, 3]⟩
noncomputable def rA (m : Nat) (L : List Bd) : AV := ⟨13, .lst (if L.length ≤ m then [] else L.map Bd.cv), 0, 60, [3]⟩
noncomputable abbrev bst (m : Nat) (L : List Bd) : AS := [(450001, .obj), (35500100, fA m L), (35500101, .val (.sc (.map none))), (300001, rA m L)]
noncomputable abbrev bsA (L : List Bd) : AS := [(450001, .obj), (35500100, ⟨18, .lst (L.map Bd.cv), 300001, 0, []⟩), (35500101, .val (.sc (.map none))), (300001, .mrow 60 3 [])]
noncomputable abbrev bsB (L : List Bd) : AS := [(450001, .obj), (35500100, .sl 300001 0 L.length 3), (35500101, .val (.sc (.map none))), (300001, .mrow 60 3 (L.map Bd.cv))]
theorem bst_A {m : Nat} {L : List Bd} (h : L.length ≤ m) : bst m L = bsA L := by simp only [bst, fA, rA, if_pos h]
theorem bst_B {m : Nat} {L : List Bd} (h : ¬ L.length ≤ m) : bst m L = bsB L := by simp only [bst, fA, rA, if_neg h]
theorem bst_lend (m : Nat) (L : List Bd) : (bst m L).all lendB = true := by kernel_rfl
theorem bst_leave (m : Nat) (L : List Bd) : (bst m L).all (leaveB (keysOf (bst m L))) = true := by
  by_cases h : L.length ≤ m
  · rw [bst_A h]; kernel_rfl
  · rw [bst_B h]; kernel_rfl

abbrev isV (v : Int) : Bd → Bool := fun b => decide (b.v = v)
theorem idx_find : ∀ (L : List Bd) (v : Int) (i : Nat), (findB L v = none ∧ idxB (isV v) L i = -1) ∨ ∃ k b, L[k]? = some b ∧ findB L v = some b.t ∧ idxB (isV v) L i = ((i + k : Nat) : Int)
  | [], v, i => .inl ⟨rfl, rfl⟩
  | b :: L, v, i => by
    by_cases h : b.v = v
    · exact .inr ⟨0, b, rfl, by rw [findB, if_pos h], by rw [idxB, if_pos (by simpa using h)]; rfl⟩
    · rw [findB, if_neg h, idxB, if_neg (by simpa using h)]
      rcases idx_find L v (i + 1) with h1 | ⟨k, c, h1, h2, h3⟩
      · exact .inl h1
      · exact .inr ⟨k + 1, c, by simpa using h1, h2, by rw [h3]; congr 1; omega⟩

-- 
theorem mIsVar_abs (W : World) (t : Tm) : AFun Try.prog W 54 [t.cw] (.val (.b (decide (t.f < 0)))) := by
  refine afun_of (rs := [.b (decide (t.f < 0))]) Try.func54 Try.ntmps54 rfl rfl rfl rfl ?_
  intro w U hW
  refine awp_seq (awp_region ?_)
  (refine ⟨_, _, _, a_box (gd_none rfl) rfl rfl rfl rfl rfl, (by first | rfl | kernel_rfl), ?_⟩)
  (refine ⟨_, _, _, a_assign (gd_none rfl) rfl rfl rfl rfl rfl, (by first | rfl | kernel_rfl), ?_⟩)
  show AWp _ _ _ _ _ _ _
  refine awp_seq (awp_region ?_)
  (first | (refine ⟨_, _, _, a_field_bp (gd_none rfl) rfl rfl rfl rfl rfl rfl rfl rfl rfl, (by first | rfl | kernel_rfl), ?_⟩) | (refine ⟨_, _, _, a_field_ad (gd_none rfl) rfl rfl rfl rfl rfl rfl rfl rfl rfl rfl rfl, (by first | rfl | kernel_rfl), ?_⟩) | (refine ⟨_, _, _, a_fieldM (gd_none rfl) rfl rfl rfl rfl rfl rfl rfl rfl rfl, (by first | rfl | kernel_rfl), ?_⟩))
  (first | (refine ⟨_, _, _, a_load_all (gd_none rfl) rfl rfl rfl rfl rfl rfl rfl rfl rfl rfl rfl rfl, (by first | rfl | kernel_rfl), ?_⟩) | (refine ⟨_, _, _, a_load_tok (gd_none rfl) rfl rfl rfl rfl rfl rfl rfl rfl rfl rfl rfl rfl rfl, (by first | rfl | kernel_rfl), ?_⟩) | (refine ⟨_, _, _, a_load_bp (gd_none rfl) rfl rfl rfl rfl rfl rfl rfl rfl rfl rfl rfl rfl, (by first | rfl | kernel_rfl), ?_⟩) | (refine ⟨_, _, _, a_load_ad (gd_none rfl) rfl rfl rfl rfl rfl rfl rfl rfl rfl, (by first | rfl | kernel_rfl), ?_⟩) | (refine ⟨_, _, _, a_load_ptr (gd_none rfl) rfl rfl rfl rfl rfl rfl rfl rfl rfl, (by first | rfl | kernel_rfl), ?_⟩) | (refine ⟨_, _, _, a_load_fld (gd_none rfl) rfl rfl rfl rfl rfl rfl rfl rfl rfl rfl rfl rfl rfl, (by first | rfl | kernel_rfl), ?_⟩) | (refine ⟨_, _, _, a_load_fullv (gd_none rfl) rfl rfl rfl rfl rfl rfl rfl rfl rfl, (by first | rfl | kernel_rfl), ?_⟩))
  (refine ⟨_, _, _, a_lss (gd_none rfl) rfl rfl rfl rfl rfl rfl, (by first | rfl | kernel_rfl), ?_⟩)
  (refine ⟨_, _, _, a_assign (gd_none rfl) rfl rfl rfl rfl rfl, (by first | rfl | kernel_rfl), ?_⟩)
  show AWp _ _ _ _ _ _ _
  exact awp_ret ⟨.inr rfl, rfl⟩
-- 
theorem mNumber_abs (W : World) (t : Tm) (h1 : -9223372036854775808 ≤ t.f) (h2 : t.f < 0) : AFun Try.prog W 63 [t.cw] (.val (.i (-1 - t.f))) := by
  refine afun_of (rs := [.i (-1 - t.f)]) Try.func63 Try.ntmps63 rfl rfl rfl rfl ?_
  intro w U hW
  refine awp_seq (awp_region ?_)
  (refine ⟨_, _, _, a_box (gd_none rfl) rfl rfl rfl rfl rfl, (by first | rfl | kernel_rfl), ?_⟩)
  (refine ⟨_, _, _, a_assign (gd_none rfl) rfl rfl rfl rfl rfl, (by first | rfl | kernel_rfl), ?_⟩)
  show AWp _ _ _ _ _ _ _
  refine awp_seq (awp_region ?_)
  (first | (refine ⟨_, _, _, a_field_bp (gd_none rfl) rfl rfl rfl rfl rfl rfl rfl rfl rfl, (by first | rfl | kernel_rfl), ?_⟩) | (refine ⟨_, _, _, a_field_ad (gd_none rfl) rfl rfl rfl rfl rfl rfl rfl rfl rfl rfl rfl, (by first | rfl | kernel_rfl), ?_⟩) | (refine ⟨_, _, _, a_fieldM (gd_none rfl) rfl rfl rfl rfl rfl rfl rfl rfl rfl, (by first | rfl | kernel_rfl), ?_⟩))
  (first | (refine ⟨_, _, _, a_load_all (gd_none rfl) rfl rfl rfl rfl rfl rfl rfl rfl rfl rfl rfl rfl, (by first | rfl | kernel_rfl), ?_⟩) | (refine ⟨_, _, _, a_load_tok (gd_none rfl) rfl rfl rfl rfl rfl rfl rfl rfl rfl rfl rfl rfl rfl, (by first | rfl | kernel_rfl), ?_⟩) | (refine ⟨_, _, _, a_load_bp (gd_none rfl) rfl rfl rfl rfl rfl rfl rfl rfl rfl rfl rfl rfl, (by first | rfl | kernel_rfl), ?_⟩) | (refine ⟨_, _, _, a_load_ad (gd_none rfl) rfl rfl rfl rfl rfl rfl rfl rfl rfl, (by first | rfl | kernel_rfl), ?_⟩) | (refine ⟨_, _, _, a_load_ptr (gd_none rfl) rfl rfl rfl rfl rfl rfl rfl rfl rfl, (by first | rfl | kernel_rfl), ?_⟩) | (refine ⟨_, _, _, a_load_fld (gd_none rfl) rfl rfl rfl rfl rfl rfl rfl rfl rfl rfl rfl rfl rfl, (by first | rfl | kernel_rfl), ?_⟩) | (refine ⟨_, _, _, a_load_fullv (gd_none rfl) rfl rfl rfl rfl rfl rfl rfl rfl rfl, (by first | rfl | kernel_rfl), ?_⟩))
  (refine ⟨_, _, _, a_sub (gd_none rfl) rfl rfl rfl rfl rfl rfl (by first | omega | (simp only [List.length_map, List.length_append, List.length_cons, List.length_nil] <;> omega) | (simp <;> omega)), (by first | rfl | kernel_rfl), ?_⟩)
  (refine ⟨_, _, _, a_assign (gd_none rfl) rfl rfl rfl rfl rfl, (by first | rfl | kernel_rfl), ?_⟩)
  show AWp _ _ _ _ _ _ _
  exact awp_ret ⟨.inr rfl, rfl⟩
-- 
theorem mFind1_abs (W : World) (b : Bd) (v : Int) : AFun Try.prog W 90 [b.cw, .ptr (.i v)] (.val (.b (isV v b))) := by
  refine afun_of (rs := [.b (isV v b)]) Try.func90 Try.ntmps90 rfl rfl rfl rfl ?_
  intro w U hW
  refine awp_seq (awp_region ?_)
  (refine ⟨_, _, _, a_box (gd_none rfl) rfl rfl rfl rfl rfl, (by first | rfl | kernel_rfl), ?_⟩)
  (refine ⟨_, _, _, a_assign (gd_none rfl) rfl rfl rfl rfl rfl, (by first | rfl | kernel_rfl), ?_⟩)
  show AWp _ _ _ _ _ _ _
  refine awp_seq (awp_region ?_)
  (first | (refine ⟨_, _, _, a_field_bp (gd_none rfl) rfl rfl rfl rfl rfl rfl rfl rfl rfl, (by first | rfl | kernel_rfl), ?_⟩) | (refine ⟨_, _, _, a_field_ad (gd_none rfl) rfl rfl rfl rfl rfl rfl rfl rfl rfl rfl rfl, (by first | rfl | kernel_rfl), ?_⟩) | (refine ⟨_, _, _, a_fieldM (gd_none rfl) rfl rfl rfl rfl rfl rfl rfl rfl rfl, (by first | rfl | kernel_rfl), ?_⟩))
  (first | (refine ⟨_, _, _, a_load_all (gd_none rfl) rfl rfl rfl rfl rfl rfl rfl rfl rfl rfl rfl rfl, (by first | rfl | kernel_rfl), ?_⟩) | (refine ⟨_, _, _, a_load_tok (gd_none rfl) rfl rfl rfl rfl rfl rfl rfl rfl rfl rfl rfl rfl rfl, (by first | rfl | kernel_rfl), ?_⟩) | (refine ⟨_, _, _, a_load_bp (gd_none rfl) rfl rfl rfl rfl rfl rfl rfl rfl rfl rfl rfl rfl, (by first | rfl | kernel_rfl), ?_⟩) | (refine ⟨_, _, _, a_load_ad (gd_none rfl) rfl rfl rfl rfl rfl rfl rfl rfl rfl, (by first | rfl | kernel_rfl), ?_⟩) | (refine ⟨_, _, _, a_load_ptr (gd_none rfl) rfl rfl rfl rfl rfl rfl rfl rfl rfl, (by first | rfl | kernel_rfl), ?_⟩) | (refine ⟨_, _, _, a_load_fld (gd_none rfl) rfl rfl rfl rfl rfl rfl rfl rfl rfl rfl rfl rfl rfl, (by first | rfl | kernel_rfl), ?_⟩) | (refine ⟨_, _, _, a_load_fullv (gd_none rfl) rfl rfl rfl rfl rfl rfl rfl rfl rfl, (by first | rfl | kernel_rfl), ?_⟩))
  (first | (refine ⟨_, _, _, a_load_all (gd_none rfl) rfl rfl rfl rfl rfl rfl rfl rfl rfl rfl rfl rfl, (by first | rfl | kernel_rfl), ?_⟩) | (refine ⟨_, _, _, a_load_tok (gd_none rfl) rfl rfl rfl rfl rfl rfl rfl rfl rfl rfl rfl rfl rfl, (by first | rfl | kernel_rfl), ?_⟩) | (refine ⟨_, _, _, a_load_bp (gd_none rfl) rfl rfl rfl rfl rfl rfl rfl rfl rfl rfl rfl rfl, (by first | rfl | kernel_rfl), ?_⟩) | (refine ⟨_, _, _, a_load_ad (gd_none rfl) rfl rfl rfl rfl rfl rfl rfl rfl rfl, (by first | rfl | kernel_rfl), ?_⟩) | (refine ⟨_, _, _, a_load_ptr (gd_none rfl) rfl rfl rfl rfl rfl rfl rfl rfl rfl, (by first | rfl | kernel_rfl), ?_⟩) | (refine ⟨_, _, _, a_load_fld (gd_none rfl) rfl rfl rfl rfl rfl rfl rfl rfl rfl rfl rfl rfl rfl, (by first | rfl | kernel_rfl), ?_⟩) | (refine ⟨_, _, _, a_load_fullv (gd_none rfl) rfl rfl rfl rfl rfl rfl rfl rfl rfl, (by first | rfl | kernel_rfl), ?_⟩))
  (first | (refine ⟨_, _, _, a_eql (gd_none rfl) rfl rfl rfl rfl rfl rfl, (by first | rfl | kernel_rfl), ?_⟩) | (refine ⟨_, _, _, a_beq (gd_none rfl) rfl rfl rfl rfl rfl rfl rfl, (by first | rfl | kernel_rfl), ?_⟩))
  (refine ⟨_, _, _, a_assign (gd_none rfl) rfl rfl rfl rfl rfl, (by first | rfl | kernel_rfl), ?_⟩)
  show AWp _ _ _ _ _ _ _
  exact awp_ret ⟨.inr rfl, rfl⟩
-- 
theorem indexP_abs (W : World) (q : Bd → Bool) (fc : CV) (L : List Bd) (hn : L.length ≤ 1000000000) (hc : ∀ W x, x ∈ L → AFunW Try.prog W fc [x.cw] (.val (.b (q x)))) :
    AFun Try.prog W 89 [.lst (L.map Bd.cv), fc] (.val (.i (idxB q L 0))) := by
  have hsz := Bd.size_all L
  refine afun_of (rs := [.i (idxB q L 0)]) Try.func89 Try.ntmps89 rfl rfl rfl rfl ?_
  intro w U hW
  refine awp_seq (awp_region ?_)
  (refine ⟨_, _, _, a_assign (gd_none rfl) rfl rfl rfl rfl rfl, (by first | rfl | kernel_rfl), ?_⟩)
  show AWp _ _ _ _ _ _ _
  refine awp_seq (awp_seq (awp_region ?_))
  (refine ⟨_, _, _, a_move (gd_none rfl) rfl rfl rfl rfl rfl, (by first | rfl | kernel_rfl), ?_⟩)
  (first | (refine ⟨_, _, _, a_len (gd_none rfl) rfl rfl rfl rfl rfl rfl rfl, (by first | rfl | kernel_rfl), ?_⟩) | (refine ⟨_, _, _, a_lenM (gd_none rfl) rfl rfl rfl rfl rfl rfl rfl, (by first | rfl | kernel_rfl), ?_⟩))
  (refine ⟨_, _, _, a_move (gd_none rfl) rfl rfl rfl rfl rfl, (by first | rfl | kernel_rfl), ?_⟩)
  show AWp _ _ _ _ _ _ _
  refine awp_block (awp_countI L.length (fun k => ∀ j c, j < k → L[j]? = some c → q c = false) (fun k => [(0, .val (.lst (L.map Bd.cv))), (1, .val fc), (7, .val (.i (L.map Bd.cv).length)), (8, .val (.i k))]) (wk_sub ⟨rfl, rfl, rfl, rfl, trivial⟩) (fun j c hj => by omega) ?_)
  intro k hk hI
  refine awp_seq (awp_region ?_)
  (refine ⟨_, _, _, a_lss (gd_none rfl) rfl rfl rfl rfl rfl rfl, (by first | rfl | kernel_rfl), ?_⟩)
  show AWp _ _ _ _ _ _ _
  refine awp_seq (awp_cond rfl (fun hlt => ?_) (fun hlt => ?_))
  · have hkl : k < L.length := by simpa using hlt
    obtain ⟨x, hx⟩ : ∃ x, L[k]? = some x := ⟨L[k], List.getElem?_eq_getElem hkl⟩
    have hx' := Bd.map_at hx
    refine awp_skip ?_
    show AWp _ _ _ _ _ _ _
    refine awp_seq (awp_block (awp_seq (awp_region ?_)))
    (refine ⟨_, _, _, a_move (gd_none rfl) rfl rfl rfl rfl rfl, (by first | rfl | kernel_rfl), ?_⟩)
    (refine ⟨_, _, _, a_assign (gd_none rfl) rfl rfl rfl rfl rfl, (by first | rfl | kernel_rfl), ?_⟩)
    show AWp _ _ _ _ _ _ _
    refine awp_seq (awp_region ?_)
    (refine ⟨_, _, _, a_move (gd_none rfl) rfl rfl rfl rfl rfl, (by first | rfl | kernel_rfl), ?_⟩)
    (refine ⟨_, _, _, a_move (gd_none rfl) rfl rfl rfl rfl rfl, (by first | rfl | kernel_rfl), ?_⟩)
    (refine ⟨_, _, _, a_move (gd_none rfl) rfl rfl rfl rfl rfl, (by first | rfl | kernel_rfl), ?_⟩)
    (refine ⟨_, _, _, a_index (j := k) (gd_none rfl) rfl rfl rfl rfl rfl rfl rfl rfl rfl (hx') rfl (hsz), (by first | rfl | kernel_rfl), ?_⟩)
    (first | (refine ⟨_, _, _, a_load_all (gd_none rfl) rfl rfl rfl rfl rfl rfl rfl rfl rfl rfl rfl rfl, (by first | rfl | kernel_rfl), ?_⟩) | (refine ⟨_, _, _, a_load_tok (gd_none rfl) rfl rfl rfl rfl rfl rfl rfl rfl rfl rfl rfl rfl rfl, (by first | rfl | kernel_rfl), ?_⟩) | (refine ⟨_, _, _, a_load_bp (gd_none rfl) rfl rfl rfl rfl rfl rfl rfl rfl rfl rfl rfl rfl, (by first | rfl | kernel_rfl), ?_⟩) | (refine ⟨_, _, _, a_load_ad (gd_none rfl) rfl rfl rfl rfl rfl rfl rfl rfl rfl, (by first | rfl | kernel_rfl), ?_⟩) | (refine ⟨_, _, _, a_load_ptr (gd_none rfl) rfl rfl rfl rfl rfl rfl rfl rfl rfl, (by first | rfl | kernel_rfl), ?_⟩) | (refine ⟨_, _, _, a_load_fld (gd_none rfl) rfl rfl rfl rfl rfl rfl rfl rfl rfl rfl rfl rfl rfl, (by first | rfl | kernel_rfl), ?_⟩) | (refine ⟨_, _, _, a_load_fullv (gd_none rfl) rfl rfl rfl rfl rfl rfl rfl rfl rfl, (by first | rfl | kernel_rfl), ?_⟩))
    (refine ⟨_, _, _, a_callw (gd_none rfl) rfl rfl rfl rfl rfl rfl (hc _ x (List.mem_of_getElem? hx)), (by first | rfl | kernel_rfl), ?_⟩)
    show AWp _ _ _ _ _ _ _
    refine awp_cond rfl (fun hq => ?_) (fun hq => ?_)
    · refine awp_seq (awp_region ?_)
      (refine ⟨_, _, _, a_move (gd_none rfl) rfl rfl rfl rfl rfl, (by first | rfl | kernel_rfl), ?_⟩)
      (refine ⟨_, _, _, a_assign (gd_none rfl) rfl rfl rfl rfl rfl, (by first | rfl | kernel_rfl), ?_⟩)
      show AWp _ _ _ _ _ _ _
      rw [idxB_at hx hq hI, Nat.zero_add]
      exact awp_ret ⟨.inr rfl, rfl⟩
    · refine awp_skip ?_
      show AWp _ _ _ _ _ _ _
      refine awp_region ?_
      (refine ⟨_, _, _, a_add (gd_none rfl) rfl rfl rfl rfl rfl rfl (by first | omega | (simp only [List.length_map, List.length_append, List.length_cons, List.length_nil] <;> omega) | (simp <;> omega)), (by first | rfl | kernel_rfl), ?_⟩)
      (refine ⟨_, _, _, a_move (gd_none rfl) rfl rfl rfl rfl rfl, (by first | rfl | kernel_rfl), ?_⟩)
      refine ⟨hkl, fun j c hj hc => ?_, wk_sub ⟨rfl, rfl, rfl, rfl, trivial⟩⟩
      rcases Nat.lt_or_ge j k with h | h
      · exact hI j c h hc
      · have : j = k := by omega
        subst this
        rw [hx] at hc
        cases hc
        exact hq
  · have hkl : ¬ k < L.length := by simpa using hlt
    rw [idxB_none fun b hb => ?_]
    · refine awp_exit ?_
      show AWp _ _ _ _ _ _ _
      refine awp_seq (awp_region ?_)
      (refine ⟨_, _, _, a_assign (gd_none rfl) rfl rfl rfl rfl rfl, (by first | rfl | kernel_rfl), ?_⟩)
      show AWp _ _ _ _ _ _ _
      exact awp_ret ⟨.inr rfl, rfl⟩
    · obtain ⟨j, hj⟩ := List.getElem?_of_mem hb
      have hjl : j < L.length := by
        rcases Nat.lt_or_ge j L.length with h | h
        · exact h
        · rw [List.getElem?_eq_none h] at hj; cases hj
      exact hI j b (by omega) hj

theorem find_fn (W : World) (v : Int) (x : Bd) : AFunW Try.prog W (.fn 90 0 [.ptr (.i v)]) [x.cw] (.val (.b (isV v x))) := .inl ⟨90, 0, [.ptr (.i v)], rfl, mFind1_abs W x v⟩
-- 
theorem mFindA_abs (L : List Bd) (v : Int) (hl : L.length ≤ 1000000) : AFunO Try.prog 88 (bsA L) [.bp 350001 0 [], .val (.i v)] (.tup [.i (idxB (isV v) L 0), .b (decide (idxB (isV v) L 0 ≥ 0))]) (bsA L) := by
  refine afunO_of Try.func88 Try.ntmps88 rfl rfl rfl rfl rfl rfl ?_
  intro w U hU
  refine awp_seq (awp_region ?_)
  (refine ⟨_, _, _, a_box (gd_none rfl) rfl rfl rfl rfl rfl, (by first | rfl | kernel_rfl), ?_⟩)
  (refine ⟨_, _, _, a_assign (gd_none rfl) rfl rfl rfl rfl rfl, (by first | rfl | kernel_rfl), ?_⟩)
  (refine ⟨_, _, _, a_assign (gd_none rfl) rfl rfl rfl rfl rfl, (by first | rfl | kernel_rfl), ?_⟩)
  show AWp _ _ _ _ _ _ _
  refine awp_seq (awp_seq (awp_region ?_))
  (refine ⟨_, _, _, a_move (gd_none rfl) rfl rfl rfl rfl rfl, (by first | rfl | kernel_rfl), ?_⟩)
  (refine ⟨_, _, _, a_nilchk (gd_none rfl) rfl rfl rfl rfl rfl, (by first | rfl | kernel_rfl), ?_⟩)
  (first | (refine ⟨_, _, _, a_field_bp (gd_none rfl) rfl rfl rfl rfl rfl rfl rfl rfl rfl, (by first | rfl | kernel_rfl), ?_⟩) | (refine ⟨_, _, _, a_field_ad (gd_none rfl) rfl rfl rfl rfl rfl rfl rfl rfl rfl rfl rfl, (by first | rfl | kernel_rfl), ?_⟩) | (refine ⟨_, _, _, a_fieldM (gd_none rfl) rfl rfl rfl rfl rfl rfl rfl rfl rfl, (by first | rfl | kernel_rfl), ?_⟩))
  (first | (refine ⟨_, _, _, a_load_all (gd_none rfl) rfl rfl rfl rfl rfl rfl rfl rfl rfl rfl rfl rfl, (by first | rfl | kernel_rfl), ?_⟩) | (refine ⟨_, _, _, a_load_tok (gd_none rfl) rfl rfl rfl rfl rfl rfl rfl rfl rfl rfl rfl rfl rfl, (by first | rfl | kernel_rfl), ?_⟩) | (refine ⟨_, _, _, a_load_bp (gd_none rfl) rfl rfl rfl rfl rfl rfl rfl rfl rfl rfl rfl rfl, (by first | rfl | kernel_rfl), ?_⟩) | (refine ⟨_, _, _, a_load_ad (gd_none rfl) rfl rfl rfl rfl rfl rfl rfl rfl rfl, (by first | rfl | kernel_rfl), ?_⟩) | (refine ⟨_, _, _, a_load_ptr (gd_none rfl) rfl rfl rfl rfl rfl rfl rfl rfl rfl, (by first | rfl | kernel_rfl), ?_⟩) | (refine ⟨_, _, _, a_load_fld (gd_none rfl) rfl rfl rfl rfl rfl rfl rfl rfl rfl rfl rfl rfl rfl, (by first | rfl | kernel_rfl), ?_⟩) | (refine ⟨_, _, _, a_load_fullv (gd_none rfl) rfl rfl rfl rfl rfl rfl rfl rfl rfl, (by first | rfl | kernel_rfl), ?_⟩))
  (refine ⟨_, _, _, a_mnot (gd_none rfl) rfl rfl rfl rfl rfl rfl, (by first | rfl | kernel_rfl), ?_⟩)
  show AWp _ _ _ _ _ _ _
  refine awp_cond rfl (fun hc => by cases hc) (fun hc => ?_)
  refine awp_skip ?_
  show AWp _ _ _ _ _ _ _
  refine AWp.wk (wk_freeze 3 rfl rfl rfl (s' := (0, .bp 350001 0 []) :: bsA L) ⟨rfl, rfl, rfl, rfl, rfl, trivial⟩ (by kernel_rfl) (by kernel_rfl) (by kernel_rfl)) ?_
  refine awp_seq (awp_region ?_)
  (refine ⟨_, _, _, a_move (gd_none rfl) rfl rfl rfl rfl rfl, (by first | rfl | kernel_rfl), ?_⟩)
  (refine ⟨_, _, _, a_nilchk (gd_none rfl) rfl rfl rfl rfl rfl, (by first | rfl | kernel_rfl), ?_⟩)
  (first | (refine ⟨_, _, _, a_field_bp (gd_none rfl) rfl rfl rfl rfl rfl rfl rfl rfl rfl, (by first | rfl | kernel_rfl), ?_⟩) | (refine ⟨_, _, _, a_field_ad (gd_none rfl) rfl rfl rfl rfl rfl rfl rfl rfl rfl rfl rfl, (by first | rfl | kernel_rfl), ?_⟩) | (refine ⟨_, _, _, a_fieldM (gd_none rfl) rfl rfl rfl rfl rfl rfl rfl rfl rfl, (by first | rfl | kernel_rfl), ?_⟩))
  (first | (refine ⟨_, _, _, a_load_all (gd_none rfl) rfl rfl rfl rfl rfl rfl rfl rfl rfl rfl rfl rfl, (by first | rfl | kernel_rfl), ?_⟩) | (refine ⟨_, _, _, a_load_tok (gd_none rfl) rfl rfl rfl rfl rfl rfl rfl rfl rfl rfl rfl rfl rfl, (by first | rfl | kernel_rfl), ?_⟩) | (refine ⟨_, _, _, a_load_bp (gd_none rfl) rfl rfl rfl rfl rfl rfl rfl rfl rfl rfl rfl rfl, (by first | rfl | kernel_rfl), ?_⟩) | (refine ⟨_, _, _, a_load_ad (gd_none rfl) rfl rfl rfl rfl rfl rfl rfl rfl rfl, (by first | rfl | kernel_rfl), ?_⟩) | (refine ⟨_, _, _, a_load_ptr (gd_none rfl) rfl rfl rfl rfl rfl rfl rfl rfl rfl, (by first | rfl | kernel_rfl), ?_⟩) | (refine ⟨_, _, _, a_load_fld (gd_none rfl) rfl rfl rfl rfl rfl rfl rfl rfl rfl rfl rfl rfl rfl, (by first | rfl | kernel_rfl), ?_⟩) | (refine ⟨_, _, _, a_load_fullv (gd_none rfl) rfl rfl rfl rfl rfl rfl rfl rfl rfl, (by first | rfl | kernel_rfl), ?_⟩))
  (refine ⟨_, _, _, a_mkfunc (gd_none rfl) rfl rfl rfl rfl rfl rfl, (by first | rfl | kernel_rfl), ?_⟩)
  (refine ⟨_, _, _, a_call (gd_none rfl) rfl rfl rfl rfl rfl (indexP_abs w (isV v) _ L (by omega) (fun W x _ => find_fn W v x)), (by first | rfl | kernel_rfl), ?_⟩)
  (refine ⟨_, _, _, a_assign (gd_none rfl) rfl rfl rfl rfl rfl, (by first | rfl | kernel_rfl), ?_⟩)
  show AWp _ _ _ _ _ _ _
  refine awp_seq (awp_region ?_)
  (refine ⟨_, _, _, a_move (gd_none rfl) rfl rfl rfl rfl rfl, (by first | rfl | kernel_rfl), ?_⟩)
  (refine ⟨_, _, _, a_move (gd_none rfl) rfl rfl rfl rfl rfl, (by first | rfl | kernel_rfl), ?_⟩)
  (refine ⟨_, _, _, a_geq (gd_none rfl) rfl rfl rfl rfl rfl rfl, (by first | rfl | kernel_rfl), ?_⟩)
  (refine ⟨_, _, _, a_assign (gd_none rfl) rfl rfl rfl rfl rfl, (by first | rfl | kernel_rfl), ?_⟩)
  (refine ⟨_, _, _, a_assign (gd_none rfl) rfl rfl rfl rfl rfl, (by first | rfl | kernel_rfl), ?_⟩)
  show AWp _ _ _ _ _ _ _
  exact awp_ret ⟨.inr rfl, _, Wk.refl _, rfl, rfl, rfl, rfl, rfl, trivial⟩
-- 
theorem mFindB_abs (L : List Bd) (v : Int) (hl : L.length ≤ 1000000) : AFunO Try.prog 88 (bsB L) [.bp 350001 0 [], .val (.i v)] (.tup [.i (idxB (isV v) L 0), .b (decide (idxB (isV v) L 0 ≥ 0))]) (bsB L) := by
  refine afunO_of Try.func88 Try.ntmps88 rfl rfl rfl rfl rfl rfl ?_
  intro w U hU
  refine awp_seq (awp_region ?_)
  (refine ⟨_, _, _, a_box (gd_none rfl) rfl rfl rfl rfl rfl, (by first | rfl | kernel_rfl), ?_⟩)
  (refine ⟨_, _, _, a_assign (gd_none rfl) rfl rfl rfl rfl rfl, (by first | rfl | kernel_rfl), ?_⟩)
  (refine ⟨_, _, _, a_assign (gd_none rfl) rfl rfl rfl rfl rfl, (by first | rfl | kernel_rfl), ?_⟩)
  show AWp _ _ _ _ _ _ _
  refine awp_seq (awp_seq (awp_region ?_))
  (refine ⟨_, _, _, a_move (gd_none rfl) rfl rfl rfl rfl rfl, (by first | rfl | kernel_rfl), ?_⟩)
  (refine ⟨_, _, _, a_nilchk (gd_none rfl) rfl rfl rfl rfl rfl, (by first | rfl | kernel_rfl), ?_⟩)
  (first | (refine ⟨_, _, _, a_field_bp (gd_none rfl) rfl rfl rfl rfl rfl rfl rfl rfl rfl, (by first | rfl | kernel_rfl), ?_⟩) | (refine ⟨_, _, _, a_field_ad (gd_none rfl) rfl rfl rfl rfl rfl rfl rfl rfl rfl rfl rfl, (by first | rfl | kernel_rfl), ?_⟩) | (refine ⟨_, _, _, a_fieldM (gd_none rfl) rfl rfl rfl rfl rfl rfl rfl rfl rfl, (by first | rfl | kernel_rfl), ?_⟩))
  (first | (refine ⟨_, _, _, a_load_all (gd_none rfl) rfl rfl rfl rfl rfl rfl rfl rfl rfl rfl rfl rfl, (by first | rfl | kernel_rfl), ?_⟩) | (refine ⟨_, _, _, a_load_tok (gd_none rfl) rfl rfl rfl rfl rfl rfl rfl rfl rfl rfl rfl rfl rfl, (by first | rfl | kernel_rfl), ?_⟩) | (refine ⟨_, _, _, a_load_bp (gd_none rfl) rfl rfl rfl rfl rfl rfl rfl rfl rfl rfl rfl rfl, (by first | rfl | kernel_rfl), ?_⟩) | (refine ⟨_, _, _, a_load_ad (gd_none rfl) rfl rfl rfl rfl rfl rfl rfl rfl rfl, (by first | rfl | kernel_rfl), ?_⟩) | (refine ⟨_, _, _, a_load_ptr (gd_none rfl) rfl rfl rfl rfl rfl rfl rfl rfl rfl, (by first | rfl | kernel_rfl), ?_⟩) | (refine ⟨_, _, _, a_load_fld (gd_none rfl) rfl rfl rfl rfl rfl rfl rfl rfl rfl rfl rfl rfl rfl, (by first | rfl | kernel_rfl), ?_⟩) | (refine ⟨_, _, _, a_load_fullv (gd_none rfl) rfl rfl rfl rfl rfl rfl rfl rfl rfl, (by first | rfl | kernel_rfl), ?_⟩))
  (refine ⟨_, _, _, a_mnot (gd_none rfl) rfl rfl rfl rfl rfl rfl, (by first | rfl | kernel_rfl), ?_⟩)
  show AWp _ _ _ _ _ _ _
  refine awp_cond rfl (fun hc => by cases hc) (fun hc => ?_)
  refine awp_skip ?_
  show AWp _ _ _ _ _ _ _
  refine AWp.wk (wk_freeze 3 rfl rfl rfl (s' := (0, .bp 350001 0 []) :: bsB L) ⟨rfl, rfl, rfl, rfl, rfl, trivial⟩ (by kernel_rfl) (by kernel_rfl) (by kernel_rfl)) ?_
  have hUf : U.f 400000 = none := by
    cases h : U.f 400000 with
    | none => rfl
    | some x => have := hU _ _ h; cases this
  refine AWp.wk (wk_renF 300001 400000 rfl rfl hUf (by kernel_rfl) (by kernel_rfl) (by kernel_rfl)) ?_
  have hix := indexF_abs (isV v) (.fn 90 0 [.ptr (.i v)]) L L.length (Nat.le_refl _) (by omega) (fun W x _ => find_fn W v x)
  rw [List.take_length] at hix
  refine awp_seq (awp_region ?_)
  (refine ⟨_, _, _, a_move (gd_none rfl) rfl rfl rfl rfl rfl, (by first | rfl | kernel_rfl), ?_⟩)
  (refine ⟨_, _, _, a_nilchk (gd_none rfl) rfl rfl rfl rfl rfl, (by first | rfl | kernel_rfl), ?_⟩)
  (first | (refine ⟨_, _, _, a_field_bp (gd_none rfl) rfl rfl rfl rfl rfl rfl rfl rfl rfl, (by first | rfl | kernel_rfl), ?_⟩) | (refine ⟨_, _, _, a_field_ad (gd_none rfl) rfl rfl rfl rfl rfl rfl rfl rfl rfl rfl rfl, (by first | rfl | kernel_rfl), ?_⟩) | (refine ⟨_, _, _, a_fieldM (gd_none rfl) rfl rfl rfl rfl rfl rfl rfl rfl rfl, (by first | rfl | kernel_rfl), ?_⟩))
  (first | (refine ⟨_, _, _, a_load_all (gd_none rfl) rfl rfl rfl rfl rfl rfl rfl rfl rfl rfl rfl rfl, (by first | rfl | kernel_rfl), ?_⟩) | (refine ⟨_, _, _, a_load_tok (gd_none rfl) rfl rfl rfl rfl rfl rfl rfl rfl rfl rfl rfl rfl rfl, (by first | rfl | kernel_rfl), ?_⟩) | (refine ⟨_, _, _, a_load_bp (gd_none rfl) rfl rfl rfl rfl rfl rfl rfl rfl rfl rfl rfl rfl, (by first | rfl | kernel_rfl), ?_⟩) | (refine ⟨_, _, _, a_load_ad (gd_none rfl) rfl rfl rfl rfl rfl rfl rfl rfl rfl, (by first | rfl | kernel_rfl), ?_⟩) | (refine ⟨_, _, _, a_load_ptr (gd_none rfl) rfl rfl rfl rfl rfl rfl rfl rfl rfl, (by first | rfl | kernel_rfl), ?_⟩) | (refine ⟨_, _, _, a_load_fld (gd_none rfl) rfl rfl rfl rfl rfl rfl rfl rfl rfl rfl rfl rfl rfl, (by first | rfl | kernel_rfl), ?_⟩) | (refine ⟨_, _, _, a_load_fullv (gd_none rfl) rfl rfl rfl rfl rfl rfl rfl rfl rfl, (by first | rfl | kernel_rfl), ?_⟩))
  (refine ⟨_, _, _, a_mkfunc (gd_none rfl) rfl rfl rfl rfl rfl rfl, (by first | rfl | kernel_rfl), ?_⟩)
  (refine ⟨_, _, _, a_callO (gd_none rfl) rfl rfl rfl rfl rfl (hix) (by repeat (first | exact trivial | refine ⟨rfl, ?_⟩)) (by first | rfl | kernel_rfl) (by first | rfl | kernel_rfl) (by first | rfl | kernel_rfl) (by first | rfl | kernel_rfl) (hnb_of (by first | rfl | kernel_rfl)), (by first | rfl | kernel_rfl), ?_⟩)
  (refine ⟨_, _, _, a_assign (gd_none rfl) rfl rfl rfl rfl rfl, (by first | rfl | kernel_rfl), ?_⟩)
  show AWp _ _ _ _ _ _ _
  refine awp_seq (awp_region ?_)
  (refine ⟨_, _, _, a_move (gd_none rfl) rfl rfl rfl rfl rfl, (by first | rfl | kernel_rfl), ?_⟩)
  (refine ⟨_, _, _, a_move (gd_none rfl) rfl rfl rfl rfl rfl, (by first | rfl | kernel_rfl), ?_⟩)
  (refine ⟨_, _, _, a_geq (gd_none rfl) rfl rfl rfl rfl rfl rfl, (by first | rfl | kernel_rfl), ?_⟩)
  (refine ⟨_, _, _, a_assign (gd_none rfl) rfl rfl rfl rfl rfl, (by first | rfl | kernel_rfl), ?_⟩)
  (refine ⟨_, _, _, a_assign (gd_none rfl) rfl rfl rfl rfl rfl, (by first | rfl | kernel_rfl), ?_⟩)
  show AWp _ _ _ _ _ _ _
  refine awp_ret ⟨.inr rfl, _, (wk_sub (s' := [(4, .val (.i (idxB (isV v) L 0))), (5, .val (.b (decide (idxB (isV v) L 0 ≥ 0)))), (450001, .obj), (35500100, .sl 400000 0 L.length 3), (35500101, .val (.sc (.map none))), (400000, .mrow 60 3 (L.map Bd.cv))]) ⟨rfl, rfl, rfl, rfl, rfl, rfl, trivial⟩).trans (wk_renF 400000 300001 rfl rfl ?_ (by kernel_rfl) (by kernel_rfl) (by kernel_rfl)), rfl, rfl, rfl, rfl, rfl, trivial⟩
  cases h : U.f 300001 with
  | none => rfl
  | some x => have := (U.hf _ _ h).1; omega
-- 
theorem mGetA_abs (L : List Bd) (v : Int) (hl : L.length ≤ 64) : AFunO Try.prog 81 (bsA L) [.bp 350001 0 [], .val (.i v)] (.tup [((findB L v).getD ⟨0, []⟩).cw, .b (findB L v).isSome]) (bsA L) := by
  have hsz := Bd.size_all L
  refine afunO_of Try.func81 Try.ntmps81 rfl rfl rfl rfl rfl rfl ?_
  intro w U hU
  refine awp_seq (awp_region ?_)
  (refine ⟨_, _, _, a_alloc (gd_none rfl) rfl rfl rfl rfl rfl rfl rfl rfl rfl rfl, (by first | rfl | kernel_rfl), ?_⟩)
  (refine ⟨_, _, _, a_assign (gd_none rfl) rfl rfl rfl rfl rfl, (by first | rfl | kernel_rfl), ?_⟩)
  show AWp _ _ _ _ _ _ _
  refine awp_seq (awp_seq (awp_region ?_))
  (refine ⟨_, _, _, a_move (gd_none rfl) rfl rfl rfl rfl rfl, (by first | rfl | kernel_rfl), ?_⟩)
  (refine ⟨_, _, _, a_nilchk (gd_none rfl) rfl rfl rfl rfl rfl, (by first | rfl | kernel_rfl), ?_⟩)
  (first | (refine ⟨_, _, _, a_field_bp (gd_none rfl) rfl rfl rfl rfl rfl rfl rfl rfl rfl, (by first | rfl | kernel_rfl), ?_⟩) | (refine ⟨_, _, _, a_field_ad (gd_none rfl) rfl rfl rfl rfl rfl rfl rfl rfl rfl rfl rfl, (by first | rfl | kernel_rfl), ?_⟩) | (refine ⟨_, _, _, a_fieldM (gd_none rfl) rfl rfl rfl rfl rfl rfl rfl rfl rfl, (by first | rfl | kernel_rfl), ?_⟩))
  (first | (refine ⟨_, _, _, a_load_all (gd_none rfl) rfl rfl rfl rfl rfl rfl rfl rfl rfl rfl rfl rfl, (by first | rfl | kernel_rfl), ?_⟩) | (refine ⟨_, _, _, a_load_tok (gd_none rfl) rfl rfl rfl rfl rfl rfl rfl rfl rfl rfl rfl rfl rfl, (by first | rfl | kernel_rfl), ?_⟩) | (refine ⟨_, _, _, a_load_bp (gd_none rfl) rfl rfl rfl rfl rfl rfl rfl rfl rfl rfl rfl rfl, (by first | rfl | kernel_rfl), ?_⟩) | (refine ⟨_, _, _, a_load_ad (gd_none rfl) rfl rfl rfl rfl rfl rfl rfl rfl rfl, (by first | rfl | kernel_rfl), ?_⟩) | (refine ⟨_, _, _, a_load_ptr (gd_none rfl) rfl rfl rfl rfl rfl rfl rfl rfl rfl, (by first | rfl | kernel_rfl), ?_⟩) | (refine ⟨_, _, _, a_load_fld (gd_none rfl) rfl rfl rfl rfl rfl rfl rfl rfl rfl rfl rfl rfl rfl, (by first | rfl | kernel_rfl), ?_⟩) | (refine ⟨_, _, _, a_load_fullv (gd_none rfl) rfl rfl rfl rfl rfl rfl rfl rfl rfl, (by first | rfl | kernel_rfl), ?_⟩))
  (refine ⟨_, _, _, a_mnil (gd_none rfl) rfl rfl rfl rfl rfl rfl, (by first | rfl | kernel_rfl), ?_⟩)
  (refine ⟨_, _, _, a_move (gd_none rfl) rfl rfl rfl rfl rfl, (by first | rfl | kernel_rfl), ?_⟩)
  (refine ⟨_, _, _, a_move (gd_on rfl rfl rfl rfl (by first | rfl | assumption | (simp; done))) rfl rfl rfl rfl rfl, (by first | rfl | kernel_rfl), ?_⟩)
  (refine ⟨_, _, _, a_nilchk (gd_on rfl rfl rfl rfl (by first | rfl | assumption | (simp; done))) rfl rfl rfl rfl rfl, (by first | rfl | kernel_rfl), ?_⟩)
  (first | (refine ⟨_, _, _, a_field_bp (gd_on rfl rfl rfl rfl (by first | rfl | assumption | (simp; done))) rfl rfl rfl rfl rfl rfl rfl rfl rfl, (by first | rfl | kernel_rfl), ?_⟩) | (refine ⟨_, _, _, a_field_ad (gd_on rfl rfl rfl rfl (by first | rfl | assumption | (simp; done))) rfl rfl rfl rfl rfl rfl rfl rfl rfl rfl rfl, (by first | rfl | kernel_rfl), ?_⟩) | (refine ⟨_, _, _, a_fieldM (gd_on rfl rfl rfl rfl (by first | rfl | assumption | (simp; done))) rfl rfl rfl rfl rfl rfl rfl rfl rfl, (by first | rfl | kernel_rfl), ?_⟩))
  (first | (refine ⟨_, _, _, a_load_all (gd_on rfl rfl rfl rfl (by first | rfl | assumption | (simp; done))) rfl rfl rfl rfl rfl rfl rfl rfl rfl rfl rfl rfl, (by first | rfl | kernel_rfl), ?_⟩) | (refine ⟨_, _, _, a_load_tok (gd_on rfl rfl rfl rfl (by first | rfl | assumption | (simp; done))) rfl rfl rfl rfl rfl rfl rfl rfl rfl rfl rfl rfl rfl, (by first | rfl | kernel_rfl), ?_⟩) | (refine ⟨_, _, _, a_load_bp (gd_on rfl rfl rfl rfl (by first | rfl | assumption | (simp; done))) rfl rfl rfl rfl rfl rfl rfl rfl rfl rfl rfl rfl, (by first | rfl | kernel_rfl), ?_⟩) | (refine ⟨_, _, _, a_load_ad (gd_on rfl rfl rfl rfl (by first | rfl | assumption | (simp; done))) rfl rfl rfl rfl rfl rfl rfl rfl rfl, (by first | rfl | kernel_rfl), ?_⟩) | (refine ⟨_, _, _, a_load_ptr (gd_on rfl rfl rfl rfl (by first | rfl | assumption | (simp; done))) rfl rfl rfl rfl rfl rfl rfl rfl rfl, (by first | rfl | kernel_rfl), ?_⟩) | (refine ⟨_, _, _, a_load_fld (gd_on rfl rfl rfl rfl (by first | rfl | assumption | (simp; done))) rfl rfl rfl rfl rfl rfl rfl rfl rfl rfl rfl rfl rfl, (by first | rfl | kernel_rfl), ?_⟩) | (refine ⟨_, _, _, a_load_fullv (gd_on rfl rfl rfl rfl (by first | rfl | assumption | (simp; done))) rfl rfl rfl rfl rfl rfl rfl rfl rfl, (by first | rfl | kernel_rfl), ?_⟩))
  (first | (refine ⟨_, _, _, a_len (gd_on rfl rfl rfl rfl (by first | rfl | assumption | (simp; done))) rfl rfl rfl rfl rfl rfl rfl, (by first | rfl | kernel_rfl), ?_⟩) | (refine ⟨_, _, _, a_lenM (gd_on rfl rfl rfl rfl (by first | rfl | assumption | (simp; done))) rfl rfl rfl rfl rfl rfl rfl, (by first | rfl | kernel_rfl), ?_⟩))
  (refine ⟨_, _, _, a_gtr (gd_on rfl rfl rfl rfl (by first | rfl | assumption | (simp; done))) rfl rfl rfl rfl rfl rfl, (by first | rfl | kernel_rfl), ?_⟩)
  (first | (refine ⟨_, _, _, a_pick_t (gd_none rfl) rfl rfl rfl rfl rfl ?hb rfl, rfl, ?_⟩; case hb => (first | rfl | assumption | (simp; done))) | (refine ⟨_, _, _, a_pick_f (gd_none rfl) rfl rfl rfl rfl rfl ?hb rfl, rfl, ?_⟩; case hb => (first | rfl | assumption | (simp; done))))
  show AWp _ _ _ _ _ _ _
  refine awp_cond rfl (fun hc => ?_) (fun hc => ?_)
  · simp only [List.length_map, decide_eq_true_eq] at hc
    omega
  refine awp_skip ?_
  show AWp _ _ _ _ _ _ _
  refine awp_seq (awp_region ?_)
  (refine ⟨_, _, _, a_move (gd_none rfl) rfl rfl rfl rfl rfl, (by first | rfl | kernel_rfl), ?_⟩)
  (refine ⟨_, _, _, a_move (gd_none rfl) rfl rfl rfl rfl rfl, (by first | rfl | kernel_rfl), ?_⟩)
  (refine ⟨_, _, _, a_callO (gd_none rfl) rfl rfl rfl rfl rfl (mFindA_abs L v (by omega)) (by repeat (first | exact trivial | refine ⟨rfl, ?_⟩)) (by first | rfl | kernel_rfl) (by first | rfl | kernel_rfl) (by first | rfl | kernel_rfl) (by first | rfl | kernel_rfl) (hnb_of (by first | rfl | kernel_rfl)), (by first | rfl | kernel_rfl), ?_⟩)
  (refine ⟨_, _, _, a_move (gd_none rfl) rfl rfl rfl rfl rfl, (by first | rfl | kernel_rfl), ?_⟩)
  (refine ⟨_, _, _, a_extract (gd_none rfl) rfl rfl rfl rfl rfl rfl, (by first | rfl | kernel_rfl), ?_⟩)
  (refine ⟨_, _, _, a_extract (gd_none rfl) rfl rfl rfl rfl rfl rfl, (by first | rfl | kernel_rfl), ?_⟩)
  (refine ⟨_, _, _, a_assign (gd_none rfl) rfl rfl rfl rfl rfl, (by first | rfl | kernel_rfl), ?_⟩)
  (refine ⟨_, _, _, a_assign (gd_none rfl) rfl rfl rfl rfl rfl, (by first | rfl | kernel_rfl), ?_⟩)
  show AWp _ _ _ _ _ _ _
  refine awp_seq (awp_seq (awp_region ?_))
  (refine ⟨_, _, _, a_move (gd_none rfl) rfl rfl rfl rfl rfl, (by first | rfl | kernel_rfl), ?_⟩)
  (refine ⟨_, _, _, a_not (gd_none rfl) rfl rfl rfl rfl rfl, (by first | rfl | kernel_rfl), ?_⟩)
  show AWp _ _ _ _ _ _ _
  rcases idx_find L v 0 with ⟨h1, h2⟩ | ⟨k, b, h1, h2, h3⟩
  · rw [h1, h2]
    refine awp_cond rfl (fun hc => ?_) (fun hc => by cases hc)
    refine awp_seq (awp_region ?_)
    (refine ⟨_, _, _, a_build (gd_none rfl) rfl rfl rfl rfl rfl rfl rfl rfl rfl rfl rfl, (by first | rfl | kernel_rfl), ?_⟩)
    (first | (refine ⟨_, _, _, a_store_all (gd_none rfl) rfl rfl rfl rfl rfl rfl rfl rfl rfl rfl, (by first | rfl | kernel_rfl), ?_⟩) | (refine ⟨_, _, _, a_store (gd_none rfl) rfl rfl rfl rfl rfl rfl rfl rfl rfl rfl, (by first | rfl | kernel_rfl), ?_⟩) | (refine ⟨_, _, _, a_store_fld (gd_none rfl) rfl rfl rfl rfl rfl rfl rfl rfl rfl rfl rfl rfl, (by first | rfl | kernel_rfl), ?_⟩))
    (refine ⟨_, _, _, a_assign (gd_none rfl) rfl rfl rfl rfl rfl, (by first | rfl | kernel_rfl), ?_⟩)
    show AWp _ _ _ _ _ _ _
    exact awp_ret ⟨.inr rfl, _, Wk.refl _, rfl, rfl, rfl, rfl, rfl, trivial⟩
  · rw [Nat.zero_add] at h3
    rw [h2, h3]
    have hb' := Bd.map_at h1
    refine awp_cond rfl (fun hc => ?_) (fun hc => ?_)
    · simp at hc <;> omega
    refine awp_skip ?_
    show AWp _ _ _ _ _ _ _
    refine awp_seq (awp_region ?_)
    (refine ⟨_, _, _, a_move (gd_none rfl) rfl rfl rfl rfl rfl, (by first | rfl | kernel_rfl), ?_⟩)
    (refine ⟨_, _, _, a_nilchk (gd_none rfl) rfl rfl rfl rfl rfl, (by first | rfl | kernel_rfl), ?_⟩)
    (first | (refine ⟨_, _, _, a_field_bp (gd_none rfl) rfl rfl rfl rfl rfl rfl rfl rfl rfl, (by first | rfl | kernel_rfl), ?_⟩) | (refine ⟨_, _, _, a_field_ad (gd_none rfl) rfl rfl rfl rfl rfl rfl rfl rfl rfl rfl rfl, (by first | rfl | kernel_rfl), ?_⟩) | (refine ⟨_, _, _, a_fieldM (gd_none rfl) rfl rfl rfl rfl rfl rfl rfl rfl rfl, (by first | rfl | kernel_rfl), ?_⟩))
    (first | (refine ⟨_, _, _, a_load_all (gd_none rfl) rfl rfl rfl rfl rfl rfl rfl rfl rfl rfl rfl rfl, (by first | rfl | kernel_rfl), ?_⟩) | (refine ⟨_, _, _, a_load_tok (gd_none rfl) rfl rfl rfl rfl rfl rfl rfl rfl rfl rfl rfl rfl rfl, (by first | rfl | kernel_rfl), ?_⟩) | (refine ⟨_, _, _, a_load_bp (gd_none rfl) rfl rfl rfl rfl rfl rfl rfl rfl rfl rfl rfl rfl, (by first | rfl | kernel_rfl), ?_⟩) | (refine ⟨_, _, _, a_load_ad (gd_none rfl) rfl rfl rfl rfl rfl rfl rfl rfl rfl, (by first | rfl | kernel_rfl), ?_⟩) | (refine ⟨_, _, _, a_load_ptr (gd_none rfl) rfl rfl rfl rfl rfl rfl rfl rfl rfl, (by first | rfl | kernel_rfl), ?_⟩) | (refine ⟨_, _, _, a_load_fld (gd_none rfl) rfl rfl rfl rfl rfl rfl rfl rfl rfl rfl rfl rfl rfl, (by first | rfl | kernel_rfl), ?_⟩) | (refine ⟨_, _, _, a_load_fullv (gd_none rfl) rfl rfl rfl rfl rfl rfl rfl rfl rfl, (by first | rfl | kernel_rfl), ?_⟩))
    (refine ⟨_, _, _, a_move (gd_none rfl) rfl rfl rfl rfl rfl, (by first | rfl | kernel_rfl), ?_⟩)
    (refine ⟨_, _, _, a_index (j := k) (gd_none rfl) rfl rfl rfl rfl rfl rfl rfl rfl rfl (hb') rfl (hsz), (by first | rfl | kernel_rfl), ?_⟩)
    (first | (refine ⟨_, _, _, a_field_bp (gd_none rfl) rfl rfl rfl rfl rfl rfl rfl rfl rfl, (by first | rfl | kernel_rfl), ?_⟩) | (refine ⟨_, _, _, a_field_ad (gd_none rfl) rfl rfl rfl rfl rfl rfl rfl rfl rfl rfl rfl, (by first | rfl | kernel_rfl), ?_⟩) | (refine ⟨_, _, _, a_fieldM (gd_none rfl) rfl rfl rfl rfl rfl rfl rfl rfl rfl, (by first | rfl | kernel_rfl), ?_⟩))
    (first | (refine ⟨_, _, _, a_load_all (gd_none rfl) rfl rfl rfl rfl rfl rfl rfl rfl rfl rfl rfl rfl, (by first | rfl | kernel_rfl), ?_⟩) | (refine ⟨_, _, _, a_load_tok (gd_none rfl) rfl rfl rfl rfl rfl rfl rfl rfl rfl rfl rfl rfl rfl, (by first | rfl | kernel_rfl), ?_⟩) | (refine ⟨_, _, _, a_load_bp (gd_none rfl) rfl rfl rfl rfl rfl rfl rfl rfl rfl rfl rfl rfl, (by first | rfl | kernel_rfl), ?_⟩) | (refine ⟨_, _, _, a_load_ad (gd_none rfl) rfl rfl rfl rfl rfl rfl rfl rfl rfl, (by first | rfl | kernel_rfl), ?_⟩) | (refine ⟨_, _, _, a_load_ptr (gd_none rfl) rfl rfl rfl rfl rfl rfl rfl rfl rfl, (by first | rfl | kernel_rfl), ?_⟩) | (refine ⟨_, _, _, a_load_fld (gd_none rfl) rfl rfl rfl rfl rfl rfl rfl rfl rfl rfl rfl rfl rfl, (by first | rfl | kernel_rfl), ?_⟩) | (refine ⟨_, _, _, a_load_fullv (gd_none rfl) rfl rfl rfl rfl rfl rfl rfl rfl rfl, (by first | rfl | kernel_rfl), ?_⟩))
    (first | (refine ⟨_, _, _, a_store_all (gd_none rfl) rfl rfl rfl rfl rfl rfl rfl rfl rfl rfl, (by first | rfl | kernel_rfl), ?_⟩) | (refine ⟨_, _, _, a_store (gd_none rfl) rfl rfl rfl rfl rfl rfl rfl rfl rfl rfl, (by first | rfl | kernel_rfl), ?_⟩) | (refine ⟨_, _, _, a_store_fld (gd_none rfl) rfl rfl rfl rfl rfl rfl rfl rfl rfl rfl rfl rfl, (by first | rfl | kernel_rfl), ?_⟩))
    (refine ⟨_, _, _, a_assign (gd_none rfl) rfl rfl rfl rfl rfl, (by first | rfl | kernel_rfl), ?_⟩)
    show AWp _ _ _ _ _ _ _
    exact awp_ret ⟨.inr rfl, _, Wk.refl _, rfl, rfl, rfl, rfl, rfl, trivial⟩
-- 
theorem mGetB_abs (L : List Bd) (v : Int) (hl : L.length ≤ 64) : AFunO Try.prog 81 (bsB L) [.bp 350001 0 [], .val (.i v)] (.tup [((findB L v).getD ⟨0, []⟩).cw, .b (findB L v).isSome]) (bsB L) := by
  have hsz := Bd.size_all L
  refine afunO_of Try.func81 Try.ntmps81 rfl rfl rfl rfl rfl rfl ?_
  intro w U hU
  refine awp_seq (awp_region ?_)
  (refine ⟨_, _, _, a_alloc (gd_none rfl) rfl rfl rfl rfl rfl rfl rfl rfl rfl rfl, (by first | rfl | kernel_rfl), ?_⟩)
  (refine ⟨_, _, _, a_assign (gd_none rfl) rfl rfl rfl rfl rfl, (by first | rfl | kernel_rfl), ?_⟩)
  show AWp _ _ _ _ _ _ _
  refine awp_seq (awp_seq (awp_region ?_))
  (refine ⟨_, _, _, a_move (gd_none rfl) rfl rfl rfl rfl rfl, (by first | rfl | kernel_rfl), ?_⟩)
  (refine ⟨_, _, _, a_nilchk (gd_none rfl) rfl rfl rfl rfl rfl, (by first | rfl | kernel_rfl), ?_⟩)
  (first | (refine ⟨_, _, _, a_field_bp (gd_none rfl) rfl rfl rfl rfl rfl rfl rfl rfl rfl, (by first | rfl | kernel_rfl), ?_⟩) | (refine ⟨_, _, _, a_field_ad (gd_none rfl) rfl rfl rfl rfl rfl rfl rfl rfl rfl rfl rfl, (by first | rfl | kernel_rfl), ?_⟩) | (refine ⟨_, _, _, a_fieldM (gd_none rfl) rfl rfl rfl rfl rfl rfl rfl rfl rfl, (by first | rfl | kernel_rfl), ?_⟩))
  (first | (refine ⟨_, _, _, a_load_all (gd_none rfl) rfl rfl rfl rfl rfl rfl rfl rfl rfl rfl rfl rfl, (by first | rfl | kernel_rfl), ?_⟩) | (refine ⟨_, _, _, a_load_tok (gd_none rfl) rfl rfl rfl rfl rfl rfl rfl rfl rfl rfl rfl rfl rfl, (by first | rfl | kernel_rfl), ?_⟩) | (refine ⟨_, _, _, a_load_bp (gd_none rfl) rfl rfl rfl rfl rfl rfl rfl rfl rfl rfl rfl rfl, (by first | rfl | kernel_rfl), ?_⟩) | (refine ⟨_, _, _, a_load_ad (gd_none rfl) rfl rfl rfl rfl rfl rfl rfl rfl rfl, (by first | rfl | kernel_rfl), ?_⟩) | (refine ⟨_, _, _, a_load_ptr (gd_none rfl) rfl rfl rfl rfl rfl rfl rfl rfl rfl, (by first | rfl | kernel_rfl), ?_⟩) | (refine ⟨_, _, _, a_load_fld (gd_none rfl) rfl rfl rfl rfl rfl rfl rfl rfl rfl rfl rfl rfl rfl, (by first | rfl | kernel_rfl), ?_⟩) | (refine ⟨_, _, _, a_load_fullv (gd_none rfl) rfl rfl rfl rfl rfl rfl rfl rfl rfl, (by first | rfl | kernel_rfl), ?_⟩))
  (refine ⟨_, _, _, a_mnil (gd_none rfl) rfl rfl rfl rfl rfl rfl, (by first | rfl | kernel_rfl), ?_⟩)
  (refine ⟨_, _, _, a_move (gd_none rfl) rfl rfl rfl rfl rfl, (by first | rfl | kernel_rfl), ?_⟩)
  (refine ⟨_, _, _, a_move (gd_on rfl rfl rfl rfl (by first | rfl | assumption | (simp; done))) rfl rfl rfl rfl rfl, (by first | rfl | kernel_rfl), ?_⟩)
  (refine ⟨_, _, _, a_nilchk (gd_on rfl rfl rfl rfl (by first | rfl | assumption | (simp; done))) rfl rfl rfl rfl rfl, (by first | rfl | kernel_rfl), ?_⟩)
  (first | (refine ⟨_, _, _, a_field_bp (gd_on rfl rfl rfl rfl (by first | rfl | assumption | (simp; done))) rfl rfl rfl rfl rfl rfl rfl rfl rfl, (by first | rfl | kernel_rfl), ?_⟩) | (refine ⟨_, _, _, a_field_ad (gd_on rfl rfl rfl rfl (by first | rfl | assumption | (simp; done))) rfl rfl rfl rfl rfl rfl rfl rfl rfl rfl rfl, (by first | rfl | kernel_rfl), ?_⟩) | (refine ⟨_, _, _, a_fieldM (gd_on rfl rfl rfl rfl (by first | rfl | assumption | (simp; done))) rfl rfl rfl rfl rfl rfl rfl rfl rfl, (by first | rfl | kernel_rfl), ?_⟩))
  (first | (refine ⟨_, _, _, a_load_all (gd_on rfl rfl rfl rfl (by first | rfl | assumption | (simp; done))) rfl rfl rfl rfl rfl rfl rfl rfl rfl rfl rfl rfl, (by first | rfl | kernel_rfl), ?_⟩) | (refine ⟨_, _, _, a_load_tok (gd_on rfl rfl rfl rfl (by first | rfl | assumption | (simp; done))) rfl rfl rfl rfl rfl rfl rfl rfl rfl rfl rfl rfl rfl, (by first | rfl | kernel_rfl), ?_⟩) | (refine ⟨_, _, _, a_load_bp (gd_on rfl rfl rfl rfl (by first | rfl | assumption | (simp; done))) rfl rfl rfl rfl rfl rfl rfl rfl rfl rfl rfl rfl, (by first | rfl | kernel_rfl), ?_⟩) | (refine ⟨_, _, _, a_load_ad (gd_on rfl rfl rfl rfl (by first | rfl | assumption | (simp; done))) rfl rfl rfl rfl rfl rfl rfl rfl rfl, (by first | rfl | kernel_rfl), ?_⟩) | (refine ⟨_, _, _, a_load_ptr (gd_on rfl rfl rfl rfl (by first | rfl | assumption | (simp; done))) rfl rfl rfl rfl rfl rfl rfl rfl rfl, (by first | rfl | kernel_rfl), ?_⟩) | (refine ⟨_, _, _, a_load_fld (gd_on rfl rfl rfl rfl (by first | rfl | assumption | (simp; done))) rfl rfl rfl rfl rfl rfl rfl rfl rfl rfl rfl rfl rfl, (by first | rfl | kernel_rfl), ?_⟩) | (refine ⟨_, _, _, a_load_fullv (gd_on rfl rfl rfl rfl (by first | rfl | assumption | (simp; done))) rfl rfl rfl rfl rfl rfl rfl rfl rfl, (by first | rfl | kernel_rfl), ?_⟩))
  (first | (refine ⟨_, _, _, a_len (gd_on rfl rfl rfl rfl (by first | rfl | assumption | (simp; done))) rfl rfl rfl rfl rfl rfl rfl, (by first | rfl | kernel_rfl), ?_⟩) | (refine ⟨_, _, _, a_lenM (gd_on rfl rfl rfl rfl (by first | rfl | assumption | (simp; done))) rfl rfl rfl rfl rfl rfl rfl, (by first | rfl | kernel_rfl), ?_⟩))
  (refine ⟨_, _, _, a_gtr (gd_on rfl rfl rfl rfl (by first | rfl | assumption | (simp; done))) rfl rfl rfl rfl rfl rfl, (by first | rfl | kernel_rfl), ?_⟩)
  (first | (refine ⟨_, _, _, a_pick_t (gd_none rfl) rfl rfl rfl rfl rfl ?hb rfl, rfl, ?_⟩; case hb => (first | rfl | assumption | (simp; done))) | (refine ⟨_, _, _, a_pick_f (gd_none rfl) rfl rfl rfl rfl rfl ?hb rfl, rfl, ?_⟩; case hb => (first | rfl | assumption | (simp; done))))
  show AWp _ _ _ _ _ _ _
  refine awp_cond rfl (fun hc => ?_) (fun hc => ?_)
  · simp only [decide_eq_true_eq] at hc
    omega
  refine awp_skip ?_
  show AWp _ _ _ _ _ _ _
  refine AWp.wk (wk_sub (s' := (0, .bp 350001 0 []) :: (1, .val (.i v)) :: (4, .bp 4 0 []) :: (100004, ⟨5, .row [.i 0, .lst []], 1, 0, [1]⟩) :: bsB L) ⟨rfl, rfl, rfl, rfl, rfl, rfl, rfl, rfl, trivial⟩) ?_
  refine awp_seq (awp_region ?_)
  (refine ⟨_, _, _, a_move (gd_none rfl) rfl rfl rfl rfl rfl, (by first | rfl | kernel_rfl), ?_⟩)
  (refine ⟨_, _, _, a_move (gd_none rfl) rfl rfl rfl rfl rfl, (by first | rfl | kernel_rfl), ?_⟩)
  (refine ⟨_, _, _, a_callO (gd_none rfl) rfl rfl rfl rfl rfl (mFindB_abs L v (by omega)) (by repeat (first | exact trivial | refine ⟨rfl, ?_⟩)) (by first | rfl | kernel_rfl) (by first | rfl | kernel_rfl) (by first | rfl | kernel_rfl) (by first | rfl | kernel_rfl) (hnb_of (by first | rfl | kernel_rfl)), (by first | rfl | kernel_rfl), ?_⟩)
  (refine ⟨_, _, _, a_move (gd_none rfl) rfl rfl rfl rfl rfl, (by first | rfl | kernel_rfl), ?_⟩)
  (refine ⟨_, _, _, a_extract (gd_none rfl) rfl rfl rfl rfl rfl rfl, (by first | rfl | kernel_rfl), ?_⟩)
  (refine ⟨_, _, _, a_extract (gd_none rfl) rfl rfl rfl rfl rfl rfl, (by first | rfl | kernel_rfl), ?_⟩)
  (refine ⟨_, _, _, a_assign (gd_none rfl) rfl rfl rfl rfl rfl, (by first | rfl | kernel_rfl), ?_⟩)
  (refine ⟨_, _, _, a_assign (gd_none rfl) rfl rfl rfl rfl rfl, (by first | rfl | kernel_rfl), ?_⟩)
  show AWp _ _ _ _ _ _ _
  refine awp_seq (awp_seq (awp_region ?_))
  (refine ⟨_, _, _, a_move (gd_none rfl) rfl rfl rfl rfl rfl, (by first | rfl | kernel_rfl), ?_⟩)
  (refine ⟨_, _, _, a_not (gd_none rfl) rfl rfl rfl rfl rfl, (by first | rfl | kernel_rfl), ?_⟩)
  show AWp _ _ _ _ _ _ _
  rcases idx_find L v 0 with ⟨h1, h2⟩ | ⟨k, b, h1, h2, h3⟩
  · rw [h1, h2]
    refine awp_cond rfl (fun hc => ?_) (fun hc => by cases hc)
    refine awp_seq (awp_region ?_)
    (refine ⟨_, _, _, a_build (gd_none rfl) rfl rfl rfl rfl rfl rfl rfl rfl rfl rfl rfl, (by first | rfl | kernel_rfl), ?_⟩)
    (first | (refine ⟨_, _, _, a_store_all (gd_none rfl) rfl rfl rfl rfl rfl rfl rfl rfl rfl rfl, (by first | rfl | kernel_rfl), ?_⟩) | (refine ⟨_, _, _, a_store (gd_none rfl) rfl rfl rfl rfl rfl rfl rfl rfl rfl rfl, (by first | rfl | kernel_rfl), ?_⟩) | (refine ⟨_, _, _, a_store_fld (gd_none rfl) rfl rfl rfl rfl rfl rfl rfl rfl rfl rfl rfl rfl, (by first | rfl | kernel_rfl), ?_⟩))
    (refine ⟨_, _, _, a_assign (gd_none rfl) rfl rfl rfl rfl rfl, (by first | rfl | kernel_rfl), ?_⟩)
    show AWp _ _ _ _ _ _ _
    exact awp_ret ⟨.inr rfl, _, Wk.refl _, rfl, rfl, rfl, rfl, rfl, trivial⟩
  · rw [Nat.zero_add] at h3
    rw [h2, h3]
    have hb' := Bd.map_at h1
    have hkl : k < L.length := by
      rcases Nat.lt_or_ge k L.length with h | h
      · exact h
      · rw [List.getElem?_eq_none h] at h1; cases h1
    refine awp_cond rfl (fun hc => ?_) (fun hc => ?_)
    · simp at hc <;> omega
    refine awp_skip ?_
    show AWp _ _ _ _ _ _ _
    refine awp_seq (awp_region ?_)
    (refine ⟨_, _, _, a_move (gd_none rfl) rfl rfl rfl rfl rfl, (by first | rfl | kernel_rfl), ?_⟩)
    (refine ⟨_, _, _, a_nilchk (gd_none rfl) rfl rfl rfl rfl rfl, (by first | rfl | kernel_rfl), ?_⟩)
    (first | (refine ⟨_, _, _, a_field_bp (gd_none rfl) rfl rfl rfl rfl rfl rfl rfl rfl rfl, (by first | rfl | kernel_rfl), ?_⟩) | (refine ⟨_, _, _, a_field_ad (gd_none rfl) rfl rfl rfl rfl rfl rfl rfl rfl rfl rfl rfl, (by first | rfl | kernel_rfl), ?_⟩) | (refine ⟨_, _, _, a_fieldM (gd_none rfl) rfl rfl rfl rfl rfl rfl rfl rfl rfl, (by first | rfl | kernel_rfl), ?_⟩))
    (first | (refine ⟨_, _, _, a_load_all (gd_none rfl) rfl rfl rfl rfl rfl rfl rfl rfl rfl rfl rfl rfl, (by first | rfl | kernel_rfl), ?_⟩) | (refine ⟨_, _, _, a_load_tok (gd_none rfl) rfl rfl rfl rfl rfl rfl rfl rfl rfl rfl rfl rfl rfl, (by first | rfl | kernel_rfl), ?_⟩) | (refine ⟨_, _, _, a_load_bp (gd_none rfl) rfl rfl rfl rfl rfl rfl rfl rfl rfl rfl rfl rfl, (by first | rfl | kernel_rfl), ?_⟩) | (refine ⟨_, _, _, a_load_ad (gd_none rfl) rfl rfl rfl rfl rfl rfl rfl rfl rfl, (by first | rfl | kernel_rfl), ?_⟩) | (refine ⟨_, _, _, a_load_ptr (gd_none rfl) rfl rfl rfl rfl rfl rfl rfl rfl rfl, (by first | rfl | kernel_rfl), ?_⟩) | (refine ⟨_, _, _, a_load_fld (gd_none rfl) rfl rfl rfl rfl rfl rfl rfl rfl rfl rfl rfl rfl rfl, (by first | rfl | kernel_rfl), ?_⟩) | (refine ⟨_, _, _, a_load_fullv (gd_none rfl) rfl rfl rfl rfl rfl rfl rfl rfl rfl, (by first | rfl | kernel_rfl), ?_⟩))
    (refine ⟨_, _, _, a_move (gd_none rfl) rfl rfl rfl rfl rfl, (by first | rfl | kernel_rfl), ?_⟩)
    (refine ⟨_, _, _, a_indexM (k := k) (gd_none rfl) rfl rfl rfl rfl rfl rfl rfl rfl rfl (by first | rfl | omega | (simp only [List.length_set, List.length_map, List.length_append, List.length_cons, List.length_nil] <;> omega) | (simp <;> omega)), (by first | rfl | kernel_rfl), ?_⟩)
    (first | (refine ⟨_, _, _, a_field_bp (gd_none rfl) rfl rfl rfl rfl rfl rfl rfl rfl rfl, (by first | rfl | kernel_rfl), ?_⟩) | (refine ⟨_, _, _, a_field_ad (gd_none rfl) rfl rfl rfl rfl rfl rfl rfl rfl rfl rfl rfl, (by first | rfl | kernel_rfl), ?_⟩) | (refine ⟨_, _, _, a_fieldM (gd_none rfl) rfl rfl rfl rfl rfl rfl rfl rfl rfl, (by first | rfl | kernel_rfl), ?_⟩))
    (refine ⟨_, _, _, a_loadM (gd_none rfl) rfl rfl rfl rfl rfl rfl rfl rfl (hb') rfl (by first | rfl | omega | (simp only [List.length_set, List.length_map, List.length_append, List.length_cons, List.length_nil] <;> omega) | (simp <;> omega)) rfl rfl, (by first | rfl | kernel_rfl), ?_⟩)
    (first | (refine ⟨_, _, _, a_store_all (gd_none rfl) rfl rfl rfl rfl rfl rfl rfl rfl rfl rfl, (by first | rfl | kernel_rfl), ?_⟩) | (refine ⟨_, _, _, a_store (gd_none rfl) rfl rfl rfl rfl rfl rfl rfl rfl rfl rfl, (by first | rfl | kernel_rfl), ?_⟩) | (refine ⟨_, _, _, a_store_fld (gd_none rfl) rfl rfl rfl rfl rfl rfl rfl rfl rfl rfl rfl rfl, (by first | rfl | kernel_rfl), ?_⟩))
    (refine ⟨_, _, _, a_assign (gd_none rfl) rfl rfl rfl rfl rfl, (by first | rfl | kernel_rfl), ?_⟩)
    show AWp _ _ _ _ _ _ _
    exact awp_ret ⟨.inr rfl, _, Wk.refl _, rfl, rfl, rfl, rfl, rfl, trivial⟩
end Go.Proofs.Ytgmllfjidhbjjab


namespace Go.Proofs.Ytgmllfjidhbjjab
open Go.RowKit
set_option linter.unusedVariables false
set_option linter.unusedSimpArgs false
set_option maxRecDepth 100000

theorem clip_any (a : Option Addr) (n c : Nat) (w : World) (hnc : n ≤ c) :
    Calls Try.prog 61 #[.slice a n c] w fun e w' => e = .returned (.slice a n n) ∧ w' = w := by
  have hA : a.map (fun x => x.add 0) = a := by
    cases a with
    | none => rfl
    | some ad => cases ad with | mk b f g => cases g <;> simp [Addr.add]
  go_enter Try.func61, Try.ntmps61
  go_wp2
  go_ret
  exact ⟨rfl, rfl⟩
theorem behind_any (a : Option Addr) (n c : Nat) (w : World) (hnc : n ≤ c) :
    Calls Try.prog 37 #[.slice a n c] w fun e w' => e = .returned (.pointer (some ⟨w.heap.size, 0, none⟩)) ∧ w' = w.alloc (.cells #[.slice a n n, .map none] 102) := by
  go_enter Try.func37, Try.ntmps37
  go_wp2_with fail
  refine (clip_any a n c w hnc).mono ?_
  rintro e w1 ⟨rfl, rfl⟩
  go_wp2
  go_ret
  exact ⟨rfl, rfl⟩
theorem look_bsA {L : List Bd} {k : Nat} {av : AV} (h : look (bsA L) k = some av) : (k = 450001 ∧ av = .obj) ∨ (k = 35500100 ∧ av = ⟨18, .lst (L.map Bd.cv), 300001, 0, []⟩) ∨ (k = 35500101 ∧ av = .val (.sc (.map none))) ∨ (k = 300001 ∧ av = .mrow 60 3 []) := by
  rw [look_cons] at h
  split at h
  · rename_i e; cases h; exact .inl ⟨e.symm, rfl⟩
  rw [look_cons] at h
  split at h
  · rename_i e; cases h; exact .inr (.inl ⟨e.symm, rfl⟩)
  rw [look_cons] at h
  split at h
  · rename_i e; cases h; exact .inr (.inr (.inl ⟨e.symm, rfl⟩))
  rw [look_cons] at h
  split at h
  · rename_i e; cases h; exact .inr (.inr (.inr ⟨e.symm, rfl⟩))
  · cases h
theorem behind_abs (L : List Bd) : AFunO Try.prog 37 [] [.val (.lst (L.map Bd.cv))] (.bp 350001 0 []) (bsA L) := by
  refine ⟨ent_of Try.func37 rfl rfl, fun U w hv a0 vs hU hpS hargs => ?_⟩
  obtain ⟨u, us, rfl, hu, rfl⟩ : ∃ u us, vs = u :: us ∧ AVRep (Us w U (fun _ _ => False)) w hv (LiveN []) (.val (.lst (L.map Bd.cv))) u ∧ us = [] := hargs
  have hu : VRep (Us w U (fun _ _ => False)) w (.lst (L.map Bd.cv)) u := hu.1
  obtain ⟨a, n, c, rfl, h1, h2, h3, h4, ys, h5, h6⟩ := vrep_lst.1 hu
  refine (behind_any a n c w h2).mono ?_
  rintro e w' ⟨rfl, hw'⟩
  have hB : Below w.heap.size w w' := by rw [hw']; exact (Below.refl _ _).alloc (Nat.le_refl _) _
  have hnew : w'.heap[w.heap.size]? = some (.cells #[.slice a n n, .map none] 102 (0, 0)) := by rw [hw']; exact alloc_new w _
  have hlt : w.heap.size < w'.heap.size := by
    rcases Nat.lt_or_ge w.heap.size w'.heap.size with h | h
    · exact h
    · rw [Array.getElem?_eq_none h] at hnew; cases hnew
  have hcell : ∀ i, i < 2 → w'.cell? ⟨w.heap.size, i, none⟩ = (#[.slice a n n, .map none] : Array Value)[i]? := fun i hi => by
    simp only [World.cell?, hnew]
    simp
  have hfull : VRep (Us w U (fun _ _ => False)) w' (.lst (L.map Bd.cv)) (.slice a n n) := by
    have hk : ∀ b o v, Us w U (fun _ _ => False) b o → w.cell? ⟨b, o, none⟩ = some v → Us w U (fun _ _ => False) b o ∧ w'.cell? ⟨b, o, none⟩ = some v := fun b o v hu hc => by
      refine ⟨hu, ?_⟩
      rw [hB.cell (p := ⟨b, o, none⟩) (World.block_lt_of_cell? w _ hc)]; exact hc
    refine VRep.keep hk (vrep_lst.2 ⟨a, n, n, rfl, h1, Nat.le_refl _, by omega, fun h => ⟨(h4 h).1, (h4 h).1⟩, ys, h5, h6⟩)
  obtain ⟨hv', hhv⟩ : ∃ hv' : Nat → Value, hv' = fun k => if k = 450001 then .pointer (some ⟨w.heap.size, 0, none⟩) else .slice none 0 0 := ⟨_, rfl⟩
  have hv1 : hv' 450001 = .pointer (some ⟨w.heap.size, 0, none⟩) := by rw [hhv]; simp
  have hv2 : hv' 300001 = .slice none 0 0 := by rw [hhv]; simp
  refine ⟨_, fun _ _ => False, hv', ⟨#[], []⟩, rfl, ⟨⟨hB.os, hB.tape, hB.output, hB.size, fun k hk _ => hB.block k hk⟩, rfl, rfl, fun d av g1 g2 => ?_, fun m o av g1 g2 g3 g4 => ?_, fun m o o' av av' g1 g2 g3 g4 g5 => ?_, fun k av g1 g2 => ?_, fun k av g g1 g2 g3 g4 => ?_, fun k k' av av' g g1 g2 g3 g4 g5 g6 g7 g8 g9 => ?_, fun k v hk => ?_, fun b o hd => hd.elim⟩, ?_⟩
  · rcases look_bsA g1 with ⟨e, _⟩ | ⟨e, _⟩ | ⟨e, _⟩ | ⟨e, _⟩ <;> omega
  · have hm : m = 350001 := by
      unfold BN at g4
      rcases look_bsA g3 with ⟨e, _⟩ | ⟨e, _⟩ | ⟨e, _⟩ | ⟨e, _⟩ <;> omega
    subst hm
    have hbk : blkOf (hv' (100000 + 350001)) = w.heap.size := by rw [show 100000 + 350001 = 450001 from rfl, hv1]; rfl
    rw [hbk]
    rcases look_bsA g1 with ⟨e, _⟩ | ⟨e, rfl⟩ | ⟨e, rfl⟩ | ⟨e, _⟩
    · unfold fKey at e; omega
    · have ho : o = 0 := by unfold fKey at e; omega
      subst ho
      refine ⟨.slice a n n, ⟨hfull, a, n, rfl⟩, rfl, fun i hi => ?_⟩
      have hi : i < 1 := hi
      obtain rfl : i = 0 := by omega
      rw [hcell _ (by omega)]; rfl
    · have ho : o = 1 := by unfold fKey at e; omega
      subst ho
      refine ⟨.map none, avrep_sc rfl, rfl, fun i hi => ?_⟩
      have hi : i < 1 := hi
      obtain rfl : i = 0 := by omega
      rw [hcell _ (by omega)]; rfl
    · unfold fKey at e; omega
  · rcases look_bsA g1 with ⟨e, _⟩ | ⟨e, rfl⟩ | ⟨e, rfl⟩ | ⟨e, _⟩
    · unfold fKey at e; omega
    · show o + 1 ≤ o'; omega
    · show o + 1 ≤ o'; omega
    · unfold fKey at e; omega
  · unfold oKey at g2
    rcases look_bsA g1 with ⟨rfl, rfl⟩ | ⟨e, _⟩ | ⟨e, _⟩ | ⟨rfl, rfl⟩
    · exact ⟨w.heap.size, _, _, hv1, hnew⟩
    · omega
    · omega
    · rw [hv2]
      exact ⟨[], World.ownsRow_nil _ _ _ _, by decide, (fun c hc => by cases hc), rfl⟩
  · unfold oKey at g2
    rcases look_bsA g1 with ⟨rfl, rfl⟩ | ⟨e, _⟩ | ⟨e, _⟩ | ⟨rfl, rfl⟩
    · rw [hv1] at g4
      have g4 : some w.heap.size = some g := g4
      cases g4
      exact ⟨.inl (Nat.le_refl _), hlt, fun o _ h => h⟩
    · omega
    · omega
    · rw [hv2] at g4; cases g4
  · unfold oKey at g3 g4
    have hk : ∀ {k av}, look (bsA L) k = some av → 100000 ≤ k ∧ k < 500000 → k = 450001 ∨ hb (hv' k) = none := fun {k av} f1 f2 => by
      rcases look_bsA f1 with ⟨rfl, rfl⟩ | ⟨e, _⟩ | ⟨e, _⟩ | ⟨rfl, rfl⟩
      · exact .inl rfl
      · omega
      · omega
      · right; rw [hv2]; rfl
    rcases hk g1 g3 with e1 | e1
    · rcases hk g2 g4 with e2 | e2
      · omega
      · rw [e2] at g9; cases g9
    · rw [e1] at g8; cases g8
  · have := hU k v hk; cases this
  · refine ⟨.inr ⟨by decide, by decide⟩, ?_⟩
    show _ = Value.pointer (some ⟨blkOf (hv' (100000 + 350001)), 0, none⟩)
    rw [show 100000 + 350001 = 450001 from rfl, hv1]; rfl
end Go.Proofs.Ytgmllfjidhbjjab


namespace Go.Proofs.Ytgmllfjidhbjjab
open Go.RowKit
set_option linter.unusedVariables false
set_option linter.unusedSimpArgs false
set_option maxRecDepth 100000

theorem mGet_abs (m : Nat) (L : List Bd) (v : Int) (hl : L.length ≤ 64) : AFunO Try.prog 81 (bst m L) [.bp 350001 0 [], .val (.i v)] (.tup [((findB L v).getD ⟨0, []⟩).cw, .b (findB L v).isSome]) (bst m L) := by
  by_cases h : L.length ≤ m
  · rw [bst_A h]; exact mGetA_abs L v hl
  · rw [bst_B h]; exact mGetB_abs L v hl

-- 
theorem mBindS_abs (m : Nat) (L : List Bd) (v : Int) (t u : Tm) (hl : L.length ≤ 64) (hf : findB L v = some u) (hu : u.rng) (ht : t.rng) : AFunO Try.prog 62 (bst m L) [.bp 350001 0 [], .val (.i v), .val t.cw] (.val (.b (sameT u t))) (bst m L) := by
  have hget := mGet_abs m L v hl
  rw [hf] at hget
  refine afunO_of Try.func62 Try.ntmps62 rfl rfl rfl rfl rfl rfl ?_
  intro w U hU
  refine awp_seq (awp_region ?_)
  (refine ⟨_, _, _, a_box (gd_none rfl) rfl rfl rfl rfl rfl, (by first | rfl | kernel_rfl), ?_⟩)
  (refine ⟨_, _, _, a_assign (gd_none rfl) rfl rfl rfl rfl rfl, (by first | rfl | kernel_rfl), ?_⟩)
  show AWp _ _ _ _ _ _ _
  refine awp_seq (awp_seq (awp_region ?_))
  (refine ⟨_, _, _, a_move (gd_none rfl) rfl rfl rfl rfl rfl, (by first | rfl | kernel_rfl), ?_⟩)
  (refine ⟨_, _, _, a_move (gd_none rfl) rfl rfl rfl rfl rfl, (by first | rfl | kernel_rfl), ?_⟩)
  (refine ⟨_, _, _, a_callO (gd_none rfl) rfl rfl rfl rfl rfl (hget) (by repeat (first | exact trivial | refine ⟨rfl, ?_⟩)) (bst_lend _ _) (bst_leave _ _) (by first | rfl | kernel_rfl) (by first | rfl | kernel_rfl) (hnb_of (by first | rfl | kernel_rfl)), (by first | rfl | kernel_rfl), ?_⟩)
  (refine ⟨_, _, _, a_move (gd_none rfl) rfl rfl rfl rfl rfl, (by first | rfl | kernel_rfl), ?_⟩)
  (refine ⟨_, _, _, a_extract (gd_none rfl) rfl rfl rfl rfl rfl rfl, (by first | rfl | kernel_rfl), ?_⟩)
  (refine ⟨_, _, _, a_extract (gd_none rfl) rfl rfl rfl rfl rfl rfl, (by first | rfl | kernel_rfl), ?_⟩)
  (refine ⟨_, _, _, a_alloc (gd_none rfl) rfl rfl rfl rfl rfl rfl rfl rfl rfl rfl, (by first | rfl | kernel_rfl), ?_⟩)
  (first | (refine ⟨_, _, _, a_store_all (gd_none rfl) rfl rfl rfl rfl rfl rfl rfl rfl rfl rfl, (by first | rfl | kernel_rfl), ?_⟩) | (refine ⟨_, _, _, a_store (gd_none rfl) rfl rfl rfl rfl rfl rfl rfl rfl rfl rfl, (by first | rfl | kernel_rfl), ?_⟩) | (refine ⟨_, _, _, a_store_fld (gd_none rfl) rfl rfl rfl rfl rfl rfl rfl rfl rfl rfl rfl rfl, (by first | rfl | kernel_rfl), ?_⟩))
  (refine ⟨_, _, _, a_assign (gd_none rfl) rfl rfl rfl rfl rfl, (by first | rfl | kernel_rfl), ?_⟩)
  show AWp _ _ _ _ _ _ _
  refine awp_seq (awp_region ?_)
  (refine ⟨_, _, _, a_move (gd_none rfl) rfl rfl rfl rfl rfl, (by first | rfl | kernel_rfl), ?_⟩)
  show AWp _ _ _ _ _ _ _
  refine awp_cond rfl (fun hc => ?_) (fun hc => by cases hc)
  refine awp_seq (awp_region ?_)
  (first | (refine ⟨_, _, _, a_load_all (gd_none rfl) rfl rfl rfl rfl rfl rfl rfl rfl rfl rfl rfl rfl, (by first | rfl | kernel_rfl), ?_⟩) | (refine ⟨_, _, _, a_load_tok (gd_none rfl) rfl rfl rfl rfl rfl rfl rfl rfl rfl rfl rfl rfl rfl, (by first | rfl | kernel_rfl), ?_⟩) | (refine ⟨_, _, _, a_load_bp (gd_none rfl) rfl rfl rfl rfl rfl rfl rfl rfl rfl rfl rfl rfl, (by first | rfl | kernel_rfl), ?_⟩) | (refine ⟨_, _, _, a_load_ad (gd_none rfl) rfl rfl rfl rfl rfl rfl rfl rfl rfl, (by first | rfl | kernel_rfl), ?_⟩) | (refine ⟨_, _, _, a_load_ptr (gd_none rfl) rfl rfl rfl rfl rfl rfl rfl rfl rfl, (by first | rfl | kernel_rfl), ?_⟩) | (refine ⟨_, _, _, a_load_fld (gd_none rfl) rfl rfl rfl rfl rfl rfl rfl rfl rfl rfl rfl rfl rfl, (by first | rfl | kernel_rfl), ?_⟩) | (refine ⟨_, _, _, a_load_fullv (gd_none rfl) rfl rfl rfl rfl rfl rfl rfl rfl rfl, (by first | rfl | kernel_rfl), ?_⟩))
  (first | (refine ⟨_, _, _, a_load_all (gd_none rfl) rfl rfl rfl rfl rfl rfl rfl rfl rfl rfl rfl rfl, (by first | rfl | kernel_rfl), ?_⟩) | (refine ⟨_, _, _, a_load_tok (gd_none rfl) rfl rfl rfl rfl rfl rfl rfl rfl rfl rfl rfl rfl rfl, (by first | rfl | kernel_rfl), ?_⟩) | (refine ⟨_, _, _, a_load_bp (gd_none rfl) rfl rfl rfl rfl rfl rfl rfl rfl rfl rfl rfl rfl, (by first | rfl | kernel_rfl), ?_⟩) | (refine ⟨_, _, _, a_load_ad (gd_none rfl) rfl rfl rfl rfl rfl rfl rfl rfl rfl, (by first | rfl | kernel_rfl), ?_⟩) | (refine ⟨_, _, _, a_load_ptr (gd_none rfl) rfl rfl rfl rfl rfl rfl rfl rfl rfl, (by first | rfl | kernel_rfl), ?_⟩) | (refine ⟨_, _, _, a_load_fld (gd_none rfl) rfl rfl rfl rfl rfl rfl rfl rfl rfl rfl rfl rfl rfl, (by first | rfl | kernel_rfl), ?_⟩) | (refine ⟨_, _, _, a_load_fullv (gd_none rfl) rfl rfl rfl rfl rfl rfl rfl rfl rfl, (by first | rfl | kernel_rfl), ?_⟩))
  (refine ⟨_, _, _, a_call (gd_none rfl) rfl rfl rfl rfl rfl (same_abs w hu ht), (by first | rfl | kernel_rfl), ?_⟩)
  (refine ⟨_, _, _, a_assign (gd_none rfl) rfl rfl rfl rfl rfl, (by first | rfl | kernel_rfl), ?_⟩)
  show AWp _ _ _ _ _ _ _
  exact awp_ret ⟨.inr rfl, _, Wk.refl _, rfl, rfl, rfl, rfl, rfl, trivial⟩
-- 
theorem mBindA_abs (L : List Bd) (v : Int) (t : Tm) (hl : L.length ≤ 64) (hf : findB L v = none) : AFunO Try.prog 62 (bsA L) [.bp 350001 0 [], .val (.i v), .val t.cw] (.val (.b true)) (bsB (L ++ [⟨v, t⟩])) := by
  have hget := mGetA_abs L v hl
  rw [hf] at hget
  have hsz := Bd.size_all L
  refine afunO_of Try.func62 Try.ntmps62 rfl rfl rfl rfl rfl rfl ?_
  intro w U hU
  refine awp_seq (awp_region ?_)
  (refine ⟨_, _, _, a_box (gd_none rfl) rfl rfl rfl rfl rfl, (by first | rfl | kernel_rfl), ?_⟩)
  (refine ⟨_, _, _, a_assign (gd_none rfl) rfl rfl rfl rfl rfl, (by first | rfl | kernel_rfl), ?_⟩)
  show AWp _ _ _ _ _ _ _
  refine awp_seq (awp_seq (awp_region ?_))
  (refine ⟨_, _, _, a_move (gd_none rfl) rfl rfl rfl rfl rfl, (by first | rfl | kernel_rfl), ?_⟩)
  (refine ⟨_, _, _, a_move (gd_none rfl) rfl rfl rfl rfl rfl, (by first | rfl | kernel_rfl), ?_⟩)
  (refine ⟨_, _, _, a_callO (gd_none rfl) rfl rfl rfl rfl rfl (hget) (by repeat (first | exact trivial | refine ⟨rfl, ?_⟩)) (by first | rfl | kernel_rfl) (by first | rfl | kernel_rfl) (by first | rfl | kernel_rfl) (by first | rfl | kernel_rfl) (hnb_of (by first | rfl | kernel_rfl)), (by first | rfl | kernel_rfl), ?_⟩)
  (refine ⟨_, _, _, a_move (gd_none rfl) rfl rfl rfl rfl rfl, (by first | rfl | kernel_rfl), ?_⟩)
  (refine ⟨_, _, _, a_extract (gd_none rfl) rfl rfl rfl rfl rfl rfl, (by first | rfl | kernel_rfl), ?_⟩)
  (refine ⟨_, _, _, a_extract (gd_none rfl) rfl rfl rfl rfl rfl rfl, (by first | rfl | kernel_rfl), ?_⟩)
  (refine ⟨_, _, _, a_alloc (gd_none rfl) rfl rfl rfl rfl rfl rfl rfl rfl rfl rfl, (by first | rfl | kernel_rfl), ?_⟩)
  (first | (refine ⟨_, _, _, a_store_all (gd_none rfl) rfl rfl rfl rfl rfl rfl rfl rfl rfl rfl, (by first | rfl | kernel_rfl), ?_⟩) | (refine ⟨_, _, _, a_store (gd_none rfl) rfl rfl rfl rfl rfl rfl rfl rfl rfl rfl, (by first | rfl | kernel_rfl), ?_⟩) | (refine ⟨_, _, _, a_store_fld (gd_none rfl) rfl rfl rfl rfl rfl rfl rfl rfl rfl rfl rfl rfl, (by first | rfl | kernel_rfl), ?_⟩))
  (refine ⟨_, _, _, a_assign (gd_none rfl) rfl rfl rfl rfl rfl, (by first | rfl | kernel_rfl), ?_⟩)
  show AWp _ _ _ _ _ _ _
  refine awp_seq (awp_region ?_)
  (refine ⟨_, _, _, a_move (gd_none rfl) rfl rfl rfl rfl rfl, (by first | rfl | kernel_rfl), ?_⟩)
  show AWp _ _ _ _ _ _ _
  refine awp_cond rfl (fun hc => by cases hc) (fun hc => ?_)
  refine awp_skip ?_
  show AWp _ _ _ _ _ _ _
  refine awp_seq (awp_seq (awp_region ?_))
  (refine ⟨_, _, _, a_move (gd_none rfl) rfl rfl rfl rfl rfl, (by first | rfl | kernel_rfl), ?_⟩)
  (refine ⟨_, _, _, a_nilchk (gd_none rfl) rfl rfl rfl rfl rfl, (by first | rfl | kernel_rfl), ?_⟩)
  (first | (refine ⟨_, _, _, a_field_bp (gd_none rfl) rfl rfl rfl rfl rfl rfl rfl rfl rfl, (by first | rfl | kernel_rfl), ?_⟩) | (refine ⟨_, _, _, a_field_ad (gd_none rfl) rfl rfl rfl rfl rfl rfl rfl rfl rfl rfl rfl, (by first | rfl | kernel_rfl), ?_⟩) | (refine ⟨_, _, _, a_fieldM (gd_none rfl) rfl rfl rfl rfl rfl rfl rfl rfl rfl, (by first | rfl | kernel_rfl), ?_⟩))
  (first | (refine ⟨_, _, _, a_load_all (gd_none rfl) rfl rfl rfl rfl rfl rfl rfl rfl rfl rfl rfl rfl, (by first | rfl | kernel_rfl), ?_⟩) | (refine ⟨_, _, _, a_load_tok (gd_none rfl) rfl rfl rfl rfl rfl rfl rfl rfl rfl rfl rfl rfl rfl, (by first | rfl | kernel_rfl), ?_⟩) | (refine ⟨_, _, _, a_load_bp (gd_none rfl) rfl rfl rfl rfl rfl rfl rfl rfl rfl rfl rfl rfl, (by first | rfl | kernel_rfl), ?_⟩) | (refine ⟨_, _, _, a_load_ad (gd_none rfl) rfl rfl rfl rfl rfl rfl rfl rfl rfl, (by first | rfl | kernel_rfl), ?_⟩) | (refine ⟨_, _, _, a_load_ptr (gd_none rfl) rfl rfl rfl rfl rfl rfl rfl rfl rfl, (by first | rfl | kernel_rfl), ?_⟩) | (refine ⟨_, _, _, a_load_fld (gd_none rfl) rfl rfl rfl rfl rfl rfl rfl rfl rfl rfl rfl rfl rfl, (by first | rfl | kernel_rfl), ?_⟩) | (refine ⟨_, _, _, a_load_fullv (gd_none rfl) rfl rfl rfl rfl rfl rfl rfl rfl rfl, (by first | rfl | kernel_rfl), ?_⟩))
  (refine ⟨_, _, _, a_mnot (gd_none rfl) rfl rfl rfl rfl rfl rfl, (by first | rfl | kernel_rfl), ?_⟩)
  show AWp _ _ _ _ _ _ _
  refine awp_cond rfl (fun hc => by cases hc) (fun hc => ?_)
  refine awp_skip ?_
  show AWp _ _ _ _ _ _ _
  refine awp_seq (awp_draw (by kernel_rfl) (by kernel_rfl) ?_)
  (refine ⟨_, _, _, a_move (gd_none rfl) rfl rfl rfl rfl rfl, (by first | rfl | kernel_rfl), ?_⟩)
  (refine ⟨_, _, _, a_move (gd_none rfl) rfl rfl rfl rfl rfl, (by first | rfl | kernel_rfl), ?_⟩)
  (refine ⟨_, _, _, a_nilchk (gd_none rfl) rfl rfl rfl rfl rfl, (by first | rfl | kernel_rfl), ?_⟩)
  (first | (refine ⟨_, _, _, a_field_bp (gd_none rfl) rfl rfl rfl rfl rfl rfl rfl rfl rfl, (by first | rfl | kernel_rfl), ?_⟩) | (refine ⟨_, _, _, a_field_ad (gd_none rfl) rfl rfl rfl rfl rfl rfl rfl rfl rfl rfl rfl, (by first | rfl | kernel_rfl), ?_⟩) | (refine ⟨_, _, _, a_fieldM (gd_none rfl) rfl rfl rfl rfl rfl rfl rfl rfl rfl, (by first | rfl | kernel_rfl), ?_⟩))
  (refine ⟨_, _, _, a_load_full (gd_none rfl) rfl rfl rfl rfl rfl rfl rfl rfl rfl, (by first | rfl | kernel_rfl), ?_⟩)
  (refine ⟨_, _, _, a_move (gd_none rfl) rfl rfl rfl rfl rfl, (by first | rfl | kernel_rfl), ?_⟩)
  (first | (refine ⟨_, _, _, a_load_all (gd_none rfl) rfl rfl rfl rfl rfl rfl rfl rfl rfl rfl rfl rfl, (by first | rfl | kernel_rfl), ?_⟩) | (refine ⟨_, _, _, a_load_tok (gd_none rfl) rfl rfl rfl rfl rfl rfl rfl rfl rfl rfl rfl rfl rfl, (by first | rfl | kernel_rfl), ?_⟩) | (refine ⟨_, _, _, a_load_bp (gd_none rfl) rfl rfl rfl rfl rfl rfl rfl rfl rfl rfl rfl rfl, (by first | rfl | kernel_rfl), ?_⟩) | (refine ⟨_, _, _, a_load_ad (gd_none rfl) rfl rfl rfl rfl rfl rfl rfl rfl rfl, (by first | rfl | kernel_rfl), ?_⟩) | (refine ⟨_, _, _, a_load_ptr (gd_none rfl) rfl rfl rfl rfl rfl rfl rfl rfl rfl, (by first | rfl | kernel_rfl), ?_⟩) | (refine ⟨_, _, _, a_load_fld (gd_none rfl) rfl rfl rfl rfl rfl rfl rfl rfl rfl rfl rfl rfl rfl, (by first | rfl | kernel_rfl), ?_⟩) | (refine ⟨_, _, _, a_load_fullv (gd_none rfl) rfl rfl rfl rfl rfl rfl rfl rfl rfl, (by first | rfl | kernel_rfl), ?_⟩))
  (refine ⟨_, _, _, a_build (gd_none rfl) rfl rfl rfl rfl rfl rfl rfl rfl rfl rfl rfl, (by first | rfl | kernel_rfl), ?_⟩)
  (refine ⟨_, _, _, a_bslice (gd_none rfl) rfl rfl rfl rfl rfl rfl rfl rfl rfl rfl rfl rfl rfl, (by first | rfl | kernel_rfl), ?_⟩)
  (refine ⟨_, _, _, a_appF 300043 (gd_none rfl) rfl rfl rfl rfl rfl rfl rfl rfl rfl rfl rfl rfl rfl (by first | assumption | exact szAll_spec rfl | exact Tm.size_all _ | exact Bd.size_all _ | exact ints_size _) (by first | assumption | exact szAll_spec rfl | exact Tm.size_all _ | exact Bd.size_all _ | exact ints_size _) (by first | omega | (simp only [List.length_map, List.length_append, List.length_cons, List.length_nil] <;> omega) | (simp <;> omega)), (by first | rfl | kernel_rfl), ?_⟩)
  (refine ⟨_, _, _, a_nilchk (gd_none rfl) rfl rfl rfl rfl rfl, (by first | rfl | kernel_rfl), ?_⟩)
  (first | (refine ⟨_, _, _, a_field_bp (gd_none rfl) rfl rfl rfl rfl rfl rfl rfl rfl rfl, (by first | rfl | kernel_rfl), ?_⟩) | (refine ⟨_, _, _, a_field_ad (gd_none rfl) rfl rfl rfl rfl rfl rfl rfl rfl rfl rfl rfl, (by first | rfl | kernel_rfl), ?_⟩) | (refine ⟨_, _, _, a_fieldM (gd_none rfl) rfl rfl rfl rfl rfl rfl rfl rfl rfl, (by first | rfl | kernel_rfl), ?_⟩))
  (first | (refine ⟨_, _, _, a_store_all (gd_none rfl) rfl rfl rfl rfl rfl rfl rfl rfl rfl rfl, (by first | rfl | kernel_rfl), ?_⟩) | (refine ⟨_, _, _, a_store (gd_none rfl) rfl rfl rfl rfl rfl rfl rfl rfl rfl rfl, (by first | rfl | kernel_rfl), ?_⟩) | (refine ⟨_, _, _, a_store_fld (gd_none rfl) rfl rfl rfl rfl rfl rfl rfl rfl rfl rfl rfl rfl, (by first | rfl | kernel_rfl), ?_⟩))
  refine ⟨by kernel_rfl, ?_⟩
  show AWp _ _ _ _ _ _ _
  refine awp_seq (awp_region ?_)
  (refine ⟨_, _, _, a_assign (gd_none rfl) rfl rfl rfl rfl rfl, (by first | rfl | kernel_rfl), ?_⟩)
  show AWp _ _ _ _ _ _ _
  refine awp_ret ⟨.inr rfl, _, (wk_sub (s' := [(6, .val (.b true)), (450001, .obj), (35500100, .sl 300043 0 (L ++ [(⟨v, t⟩ : Bd)]).length 3), (35500101, .val (.sc (.map none))), (300043, .mrow 60 3 ((L ++ [(⟨v, t⟩ : Bd)]).map Bd.cv))]) ⟨rfl, rfl, ?_, rfl, ?_, trivial⟩).trans (wk_ren 300043 300001 rfl rfl (by kernel_rfl) (by kernel_rfl)), rfl, rfl, rfl, rfl, rfl, trivial⟩
  · rw [List.length_append, ← List.length_map (f := Bd.cv)]; rfl
  · rw [List.map_append]; rfl
-- 
theorem mBindB_abs (L : List Bd) (v : Int) (t : Tm) (hl : L.length ≤ 64) (hf : findB L v = none) : AFunO Try.prog 62 (bsB L) [.bp 350001 0 [], .val (.i v), .val t.cw] (.val (.b true)) (bsB (L ++ [⟨v, t⟩])) := by
  have hget := mGetB_abs L v hl
  rw [hf] at hget
  have hsz := Bd.size_all L
  refine afunO_of Try.func62 Try.ntmps62 rfl rfl rfl rfl rfl rfl ?_
  intro w U hU
  refine awp_seq (awp_region ?_)
  (refine ⟨_, _, _, a_box (gd_none rfl) rfl rfl rfl rfl rfl, (by first | rfl | kernel_rfl), ?_⟩)
  (refine ⟨_, _, _, a_assign (gd_none rfl) rfl rfl rfl rfl rfl, (by first | rfl | kernel_rfl), ?_⟩)
  show AWp _ _ _ _ _ _ _
  refine awp_seq (awp_seq (awp_region ?_))
  (refine ⟨_, _, _, a_move (gd_none rfl) rfl rfl rfl rfl rfl, (by first | rfl | kernel_rfl), ?_⟩)
  (refine ⟨_, _, _, a_move (gd_none rfl) rfl rfl rfl rfl rfl, (by first | rfl | kernel_rfl), ?_⟩)
  (refine ⟨_, _, _, a_callO (gd_none rfl) rfl rfl rfl rfl rfl (hget) (by repeat (first | exact trivial | refine ⟨rfl, ?_⟩)) (by first | rfl | kernel_rfl) (by first | rfl | kernel_rfl) (by first | rfl | kernel_rfl) (by first | rfl | kernel_rfl) (hnb_of (by first | rfl | kernel_rfl)), (by first | rfl | kernel_rfl), ?_⟩)
  (refine ⟨_, _, _, a_move (gd_none rfl) rfl rfl rfl rfl rfl, (by first | rfl | kernel_rfl), ?_⟩)
  (refine ⟨_, _, _, a_extract (gd_none rfl) rfl rfl rfl rfl rfl rfl, (by first | rfl | kernel_rfl), ?_⟩)
  (refine ⟨_, _, _, a_extract (gd_none rfl) rfl rfl rfl rfl rfl rfl, (by first | rfl | kernel_rfl), ?_⟩)
  (refine ⟨_, _, _, a_alloc (gd_none rfl) rfl rfl rfl rfl rfl rfl rfl rfl rfl rfl, (by first | rfl | kernel_rfl), ?_⟩)
  (first | (refine ⟨_, _, _, a_store_all (gd_none rfl) rfl rfl rfl rfl rfl rfl rfl rfl rfl rfl, (by first | rfl | kernel_rfl), ?_⟩) | (refine ⟨_, _, _, a_store (gd_none rfl) rfl rfl rfl rfl rfl rfl rfl rfl rfl rfl, (by first | rfl | kernel_rfl), ?_⟩) | (refine ⟨_, _, _, a_store_fld (gd_none rfl) rfl rfl rfl rfl rfl rfl rfl rfl rfl rfl rfl rfl, (by first | rfl | kernel_rfl), ?_⟩))
  (refine ⟨_, _, _, a_assign (gd_none rfl) rfl rfl rfl rfl rfl, (by first | rfl | kernel_rfl), ?_⟩)
  show AWp _ _ _ _ _ _ _
  refine awp_seq (awp_region ?_)
  (refine ⟨_, _, _, a_move (gd_none rfl) rfl rfl rfl rfl rfl, (by first | rfl | kernel_rfl), ?_⟩)
  show AWp _ _ _ _ _ _ _
  refine awp_cond rfl (fun hc => by cases hc) (fun hc => ?_)
  refine awp_skip ?_
  show AWp _ _ _ _ _ _ _
  refine awp_seq (awp_seq (awp_region ?_))
  (refine ⟨_, _, _, a_move (gd_none rfl) rfl rfl rfl rfl rfl, (by first | rfl | kernel_rfl), ?_⟩)
  (refine ⟨_, _, _, a_nilchk (gd_none rfl) rfl rfl rfl rfl rfl, (by first | rfl | kernel_rfl), ?_⟩)
  (first | (refine ⟨_, _, _, a_field_bp (gd_none rfl) rfl rfl rfl rfl rfl rfl rfl rfl rfl, (by first | rfl | kernel_rfl), ?_⟩) | (refine ⟨_, _, _, a_field_ad (gd_none rfl) rfl rfl rfl rfl rfl rfl rfl rfl rfl rfl rfl, (by first | rfl | kernel_rfl), ?_⟩) | (refine ⟨_, _, _, a_fieldM (gd_none rfl) rfl rfl rfl rfl rfl rfl rfl rfl rfl, (by first | rfl | kernel_rfl), ?_⟩))
  (first | (refine ⟨_, _, _, a_load_all (gd_none rfl) rfl rfl rfl rfl rfl rfl rfl rfl rfl rfl rfl rfl, (by first | rfl | kernel_rfl), ?_⟩) | (refine ⟨_, _, _, a_load_tok (gd_none rfl) rfl rfl rfl rfl rfl rfl rfl rfl rfl rfl rfl rfl rfl, (by first | rfl | kernel_rfl), ?_⟩) | (refine ⟨_, _, _, a_load_bp (gd_none rfl) rfl rfl rfl rfl rfl rfl rfl rfl rfl rfl rfl rfl, (by first | rfl | kernel_rfl), ?_⟩) | (refine ⟨_, _, _, a_load_ad (gd_none rfl) rfl rfl rfl rfl rfl rfl rfl rfl rfl, (by first | rfl | kernel_rfl), ?_⟩) | (refine ⟨_, _, _, a_load_ptr (gd_none rfl) rfl rfl rfl rfl rfl rfl rfl rfl rfl, (by first | rfl | kernel_rfl), ?_⟩) | (refine ⟨_, _, _, a_load_fld (gd_none rfl) rfl rfl rfl rfl rfl rfl rfl rfl rfl rfl rfl rfl rfl, (by first | rfl | kernel_rfl), ?_⟩) | (refine ⟨_, _, _, a_load_fullv (gd_none rfl) rfl rfl rfl rfl rfl rfl rfl rfl rfl, (by first | rfl | kernel_rfl), ?_⟩))
  (refine ⟨_, _, _, a_mnot (gd_none rfl) rfl rfl rfl rfl rfl rfl, (by first | rfl | kernel_rfl), ?_⟩)
  show AWp _ _ _ _ _ _ _
  refine awp_cond rfl (fun hc => by cases hc) (fun hc => ?_)
  refine awp_skip ?_
  show AWp _ _ _ _ _ _ _
  refine awp_seq (awp_draw (by kernel_rfl) (by kernel_rfl) ?_)
  (refine ⟨_, _, _, a_move (gd_none rfl) rfl rfl rfl rfl rfl, (by first | rfl | kernel_rfl), ?_⟩)
  (refine ⟨_, _, _, a_move (gd_none rfl) rfl rfl rfl rfl rfl, (by first | rfl | kernel_rfl), ?_⟩)
  (refine ⟨_, _, _, a_nilchk (gd_none rfl) rfl rfl rfl rfl rfl, (by first | rfl | kernel_rfl), ?_⟩)
  (first | (refine ⟨_, _, _, a_field_bp (gd_none rfl) rfl rfl rfl rfl rfl rfl rfl rfl rfl, (by first | rfl | kernel_rfl), ?_⟩) | (refine ⟨_, _, _, a_field_ad (gd_none rfl) rfl rfl rfl rfl rfl rfl rfl rfl rfl rfl rfl, (by first | rfl | kernel_rfl), ?_⟩) | (refine ⟨_, _, _, a_fieldM (gd_none rfl) rfl rfl rfl rfl rfl rfl rfl rfl rfl, (by first | rfl | kernel_rfl), ?_⟩))
  (first | (refine ⟨_, _, _, a_load_all (gd_none rfl) rfl rfl rfl rfl rfl rfl rfl rfl rfl rfl rfl rfl, (by first | rfl | kernel_rfl), ?_⟩) | (refine ⟨_, _, _, a_load_tok (gd_none rfl) rfl rfl rfl rfl rfl rfl rfl rfl rfl rfl rfl rfl rfl, (by first | rfl | kernel_rfl), ?_⟩) | (refine ⟨_, _, _, a_load_bp (gd_none rfl) rfl rfl rfl rfl rfl rfl rfl rfl rfl rfl rfl rfl, (by first | rfl | kernel_rfl), ?_⟩) | (refine ⟨_, _, _, a_load_ad (gd_none rfl) rfl rfl rfl rfl rfl rfl rfl rfl rfl, (by first | rfl | kernel_rfl), ?_⟩) | (refine ⟨_, _, _, a_load_ptr (gd_none rfl) rfl rfl rfl rfl rfl rfl rfl rfl rfl, (by first | rfl | kernel_rfl), ?_⟩) | (refine ⟨_, _, _, a_load_fld (gd_none rfl) rfl rfl rfl rfl rfl rfl rfl rfl rfl rfl rfl rfl rfl, (by first | rfl | kernel_rfl), ?_⟩) | (refine ⟨_, _, _, a_load_fullv (gd_none rfl) rfl rfl rfl rfl rfl rfl rfl rfl rfl, (by first | rfl | kernel_rfl), ?_⟩))
  (refine ⟨_, _, _, a_move (gd_none rfl) rfl rfl rfl rfl rfl, (by first | rfl | kernel_rfl), ?_⟩)
  (first | (refine ⟨_, _, _, a_load_all (gd_none rfl) rfl rfl rfl rfl rfl rfl rfl rfl rfl rfl rfl rfl, (by first | rfl | kernel_rfl), ?_⟩) | (refine ⟨_, _, _, a_load_tok (gd_none rfl) rfl rfl rfl rfl rfl rfl rfl rfl rfl rfl rfl rfl rfl, (by first | rfl | kernel_rfl), ?_⟩) | (refine ⟨_, _, _, a_load_bp (gd_none rfl) rfl rfl rfl rfl rfl rfl rfl rfl rfl rfl rfl rfl, (by first | rfl | kernel_rfl), ?_⟩) | (refine ⟨_, _, _, a_load_ad (gd_none rfl) rfl rfl rfl rfl rfl rfl rfl rfl rfl, (by first | rfl | kernel_rfl), ?_⟩) | (refine ⟨_, _, _, a_load_ptr (gd_none rfl) rfl rfl rfl rfl rfl rfl rfl rfl rfl, (by first | rfl | kernel_rfl), ?_⟩) | (refine ⟨_, _, _, a_load_fld (gd_none rfl) rfl rfl rfl rfl rfl rfl rfl rfl rfl rfl rfl rfl rfl, (by first | rfl | kernel_rfl), ?_⟩) | (refine ⟨_, _, _, a_load_fullv (gd_none rfl) rfl rfl rfl rfl rfl rfl rfl rfl rfl, (by first | rfl | kernel_rfl), ?_⟩))
  (refine ⟨_, _, _, a_build (gd_none rfl) rfl rfl rfl rfl rfl rfl rfl rfl rfl rfl rfl, (by first | rfl | kernel_rfl), ?_⟩)
  (refine ⟨_, _, _, a_bslice (gd_none rfl) rfl rfl rfl rfl rfl rfl rfl rfl rfl rfl rfl rfl rfl, (by first | rfl | kernel_rfl), ?_⟩)
  (refine ⟨_, _, _, a_appM 300043 (gd_none rfl) rfl rfl rfl rfl rfl rfl rfl rfl rfl rfl rfl rfl rfl (by first | rfl | omega | (simp only [List.length_set, List.length_map, List.length_append, List.length_cons, List.length_nil] <;> omega) | (simp <;> omega)) (by first | assumption | exact szAll_spec rfl | exact Tm.size_all _ | exact Bd.size_all _ | exact ints_size _) (by first | omega | (simp only [List.length_map, List.length_append, List.length_cons, List.length_nil] <;> omega) | (simp <;> omega)), (by first | rfl | kernel_rfl), ?_⟩)
  (refine ⟨_, _, _, a_nilchk (gd_none rfl) rfl rfl rfl rfl rfl, (by first | rfl | kernel_rfl), ?_⟩)
  (first | (refine ⟨_, _, _, a_field_bp (gd_none rfl) rfl rfl rfl rfl rfl rfl rfl rfl rfl, (by first | rfl | kernel_rfl), ?_⟩) | (refine ⟨_, _, _, a_field_ad (gd_none rfl) rfl rfl rfl rfl rfl rfl rfl rfl rfl rfl rfl, (by first | rfl | kernel_rfl), ?_⟩) | (refine ⟨_, _, _, a_fieldM (gd_none rfl) rfl rfl rfl rfl rfl rfl rfl rfl rfl, (by first | rfl | kernel_rfl), ?_⟩))
  (first | (refine ⟨_, _, _, a_store_all (gd_none rfl) rfl rfl rfl rfl rfl rfl rfl rfl rfl rfl, (by first | rfl | kernel_rfl), ?_⟩) | (refine ⟨_, _, _, a_store (gd_none rfl) rfl rfl rfl rfl rfl rfl rfl rfl rfl rfl, (by first | rfl | kernel_rfl), ?_⟩) | (refine ⟨_, _, _, a_store_fld (gd_none rfl) rfl rfl rfl rfl rfl rfl rfl rfl rfl rfl rfl rfl, (by first | rfl | kernel_rfl), ?_⟩))
  refine ⟨by kernel_rfl, ?_⟩
  show AWp _ _ _ _ _ _ _
  refine awp_seq (awp_region ?_)
  (refine ⟨_, _, _, a_assign (gd_none rfl) rfl rfl rfl rfl rfl, (by first | rfl | kernel_rfl), ?_⟩)
  show AWp _ _ _ _ _ _ _
  refine awp_ret ⟨.inr rfl, _, (wk_sub (s' := [(6, .val (.b true)), (450001, .obj), (35500100, .sl 300043 0 (L ++ [(⟨v, t⟩ : Bd)]).length 3), (35500101, .val (.sc (.map none))), (300043, .mrow 60 3 ((L ++ [(⟨v, t⟩ : Bd)]).map Bd.cv))]) ⟨rfl, rfl, ?_, rfl, ?_, trivial⟩).trans (wk_ren 300043 300001 rfl rfl (by kernel_rfl) (by kernel_rfl)), rfl, rfl, rfl, rfl, rfl, trivial⟩
  · rw [List.length_append, ← List.length_map (f := Bd.cv)]; rfl
  · rw [List.map_append]; rfl
theorem mBind_abs (m : Nat) (L : List Bd) (v : Int) (t : Tm) (hm : m ≤ L.length) (hl : L.length ≤ 64) (hL : ∀ b ∈ L, b.t.rng) (ht : t.rng) : AFunO Try.prog 62 (bst m L) [.bp 350001 0 [], .val (.i v), .val t.cw] (.val (.b (bindM L v t).1)) (bst m (bindM L v t).2) := by
  unfold bindM
  cases hf : findB L v with
  | some u =>
    have hu : u.rng := by
      rcases idx_find L v 0 with ⟨h1, _⟩ | ⟨k, b, h1, h2, _⟩
      · rw [hf] at h1; cases h1
      · rw [hf] at h2; cases h2; exact hL b (List.mem_of_getElem? h1)
    exact mBindS_abs m L v t u hl hf hu ht
  | none =>
    show AFunO _ _ _ _ (.val (.b true)) (bst m (L ++ [⟨v, t⟩]))
    rw [bst_B (m := m) (L := L ++ [(⟨v, t⟩ : Bd)]) (by rw [List.length_append, List.length_singleton]; omega)]
    by_cases h : L.length ≤ m
    · rw [bst_A h]; exact mBindA_abs L v t hl hf
    · rw [bst_B h]; exact mBindB_abs L v t hl hf
end Go.Proofs.Ytgmllfjidhbjjab


namespace Go.Proofs.Ytgmllfjidhbjjab
open Go.RowKit
set_option linter.unusedVariables false
set_option linter.unusedSimpArgs false
set_option maxRecDepth 100000

def rngL (L : List Bd) : Prop := ∀ b ∈ L, b.t.rng
theorem rngL.bind {L : List Bd} {v : Int} {t : Tm} (h : rngL L) (ht : t.rng) : rngL (bindM L v t).2 := by
  unfold bindM
  split
  · exact h
  · intro b hb
    rcases List.mem_append.1 hb with hb | hb
    · exact h b hb
    · rw [List.mem_singleton] at hb; rw [hb]; exact ht
theorem rngL.mts : ∀ {ps ts : List Tm} {L : List Bd}, (∀ p ∈ ps, ∀ t L, t.rng → rngL L → rngL (mt p t L).2) → (∀ t ∈ ts, t.rng) → rngL L → rngL (mts ps ts L).2
  | [], _, _, _, _, h => h
  | _ :: _, [], _, _, _, h => h
  | p :: ps, t :: ts, L, ih, ht, h => by
    rw [mts_cons]
    have h1 := ih p (by simp) t L (ht t (by simp)) h
    cases h2 : (mt p t L).1 with
    | true => rw [pairM_t h2]; exact rngL.mts (fun q hq => ih q (List.mem_cons_of_mem _ hq)) (fun q hq => ht q (List.mem_cons_of_mem _ hq)) h1
    | false => rw [pairM_f h2]; exact h1
theorem rngL.mt (p : Tm) : ∀ t L, t.rng → rngL L → rngL (mt p t L).2 := by
  induction p using Tm.ind with
  | h f l ih =>
    intro t L ht h
    by_cases hf : f < 0
    · rw [mt_var _ _ hf]; exact h.bind ht
    · by_cases h2 : f ≠ t.f ∨ l.length ≠ t.l.length
      · rw [mt_ne _ hf h2]; exact h
      · rw [mt_sym _ hf (by show f = _; omega) (by show l.length = _; omega)]
        exact rngL.mts ih (fun s hs => ((Tm.rng_iff _).1 ht).2 s hs) h

-- 
theorem mMatch_abs (m : Nat) : ∀ p : Tm, p.rng → p.ok → ∀ (t : Tm) (L : List Bd), t.rng → m ≤ L.length → L.length + p.vs.length ≤ 65 → rngL L → AFunO Try.prog 38 (bst m L) [.bp 350001 0 [], .val p.cw, .val t.cw] (.val (.b (mt p t L).1)) (bst m (mt p t L).2) := by
  intro p
  induction p using Tm.ind with
  | h f l ih =>
  intro hr hok t L ht hm hl hL
  have hok := (Tm.ok_iff _).1 hok
  have hr := (Tm.rng_iff _).1 hr
  have htr := (Tm.rng_iff _).1 ht
  simp only at hok hr
  have hsz := Tm.size_all l
  have hsz2 := Tm.size_all t.l
  refine afunO_of Try.func38 Try.ntmps38 rfl rfl rfl rfl rfl rfl ?_
  intro w U hU
  refine awp_seq (awp_region ?_)
  (refine ⟨_, _, _, a_box (gd_none rfl) rfl rfl rfl rfl rfl, (by first | rfl | kernel_rfl), ?_⟩)
  (refine ⟨_, _, _, a_box (gd_none rfl) rfl rfl rfl rfl rfl, (by first | rfl | kernel_rfl), ?_⟩)
  (refine ⟨_, _, _, a_assign (gd_none rfl) rfl rfl rfl rfl rfl, (by first | rfl | kernel_rfl), ?_⟩)
  show AWp _ _ _ _ _ _ _
  refine awp_seq (awp_seq (awp_region ?_))
  (first | (refine ⟨_, _, _, a_load_all (gd_none rfl) rfl rfl rfl rfl rfl rfl rfl rfl rfl rfl rfl rfl, (by first | rfl | kernel_rfl), ?_⟩) | (refine ⟨_, _, _, a_load_tok (gd_none rfl) rfl rfl rfl rfl rfl rfl rfl rfl rfl rfl rfl rfl rfl, (by first | rfl | kernel_rfl), ?_⟩) | (refine ⟨_, _, _, a_load_bp (gd_none rfl) rfl rfl rfl rfl rfl rfl rfl rfl rfl rfl rfl rfl, (by first | rfl | kernel_rfl), ?_⟩) | (refine ⟨_, _, _, a_load_ad (gd_none rfl) rfl rfl rfl rfl rfl rfl rfl rfl rfl, (by first | rfl | kernel_rfl), ?_⟩) | (refine ⟨_, _, _, a_load_ptr (gd_none rfl) rfl rfl rfl rfl rfl rfl rfl rfl rfl, (by first | rfl | kernel_rfl), ?_⟩) | (refine ⟨_, _, _, a_load_fld (gd_none rfl) rfl rfl rfl rfl rfl rfl rfl rfl rfl rfl rfl rfl rfl, (by first | rfl | kernel_rfl), ?_⟩) | (refine ⟨_, _, _, a_load_fullv (gd_none rfl) rfl rfl rfl rfl rfl rfl rfl rfl rfl, (by first | rfl | kernel_rfl), ?_⟩))
  (refine ⟨_, _, _, a_call (gd_none rfl) rfl rfl rfl rfl rfl (mIsVar_abs w ⟨f, l⟩), (by first | rfl | kernel_rfl), ?_⟩)
  show AWp _ _ _ _ _ _ _
  refine awp_cond rfl (fun hc => ?_) (fun hc => ?_)
  · have hf : f < 0 := by simpa using hc
    rw [Tm.vs_var hf] at hl
    rw [mt_var _ _ hf]
    refine awp_seq (awp_draw (by kernel_rfl) (by kernel_rfl) ?_)
    (refine ⟨_, _, _, a_move (gd_none rfl) rfl rfl rfl rfl rfl, (by first | rfl | kernel_rfl), ?_⟩)
    (first | (refine ⟨_, _, _, a_load_all (gd_none rfl) rfl rfl rfl rfl rfl rfl rfl rfl rfl rfl rfl rfl, (by first | rfl | kernel_rfl), ?_⟩) | (refine ⟨_, _, _, a_load_tok (gd_none rfl) rfl rfl rfl rfl rfl rfl rfl rfl rfl rfl rfl rfl rfl, (by first | rfl | kernel_rfl), ?_⟩) | (refine ⟨_, _, _, a_load_bp (gd_none rfl) rfl rfl rfl rfl rfl rfl rfl rfl rfl rfl rfl rfl, (by first | rfl | kernel_rfl), ?_⟩) | (refine ⟨_, _, _, a_load_ad (gd_none rfl) rfl rfl rfl rfl rfl rfl rfl rfl rfl, (by first | rfl | kernel_rfl), ?_⟩) | (refine ⟨_, _, _, a_load_ptr (gd_none rfl) rfl rfl rfl rfl rfl rfl rfl rfl rfl, (by first | rfl | kernel_rfl), ?_⟩) | (refine ⟨_, _, _, a_load_fld (gd_none rfl) rfl rfl rfl rfl rfl rfl rfl rfl rfl rfl rfl rfl rfl, (by first | rfl | kernel_rfl), ?_⟩) | (refine ⟨_, _, _, a_load_fullv (gd_none rfl) rfl rfl rfl rfl rfl rfl rfl rfl rfl, (by first | rfl | kernel_rfl), ?_⟩))
    (refine ⟨_, _, _, a_call (gd_none rfl) rfl rfl rfl rfl rfl (mNumber_abs w ⟨f, l⟩ hr.1.1 hf), (by first | rfl | kernel_rfl), ?_⟩)
    (first | (refine ⟨_, _, _, a_load_all (gd_none rfl) rfl rfl rfl rfl rfl rfl rfl rfl rfl rfl rfl rfl, (by first | rfl | kernel_rfl), ?_⟩) | (refine ⟨_, _, _, a_load_tok (gd_none rfl) rfl rfl rfl rfl rfl rfl rfl rfl rfl rfl rfl rfl rfl, (by first | rfl | kernel_rfl), ?_⟩) | (refine ⟨_, _, _, a_load_bp (gd_none rfl) rfl rfl rfl rfl rfl rfl rfl rfl rfl rfl rfl rfl, (by first | rfl | kernel_rfl), ?_⟩) | (refine ⟨_, _, _, a_load_ad (gd_none rfl) rfl rfl rfl rfl rfl rfl rfl rfl rfl, (by first | rfl | kernel_rfl), ?_⟩) | (refine ⟨_, _, _, a_load_ptr (gd_none rfl) rfl rfl rfl rfl rfl rfl rfl rfl rfl, (by first | rfl | kernel_rfl), ?_⟩) | (refine ⟨_, _, _, a_load_fld (gd_none rfl) rfl rfl rfl rfl rfl rfl rfl rfl rfl rfl rfl rfl rfl, (by first | rfl | kernel_rfl), ?_⟩) | (refine ⟨_, _, _, a_load_fullv (gd_none rfl) rfl rfl rfl rfl rfl rfl rfl rfl rfl, (by first | rfl | kernel_rfl), ?_⟩))
    (refine ⟨_, _, _, a_callO (gd_none rfl) rfl rfl rfl rfl rfl (mBind_abs m L (-1 - f) t hm (by simpa using hl) hL ht) (by repeat (first | exact trivial | refine ⟨rfl, ?_⟩)) (bst_lend _ _) (bst_leave _ _) (by first | rfl | kernel_rfl) (by first | rfl | kernel_rfl) (hnb_of (by first | rfl | kernel_rfl)), (by first | rfl | kernel_rfl), ?_⟩)
    (refine ⟨_, _, _, a_assign (gd_none rfl) rfl rfl rfl rfl rfl, (by first | rfl | kernel_rfl), ?_⟩)
    refine ⟨by kernel_rfl, ?_⟩
    show AWp _ _ _ _ _ _ _
    exact awp_ret ⟨.inr rfl, _, Wk.refl _, rfl, rfl, rfl, rfl, rfl, trivial⟩
  have hf : ¬ f < 0 := by simpa using hc
  refine awp_skip ?_
  show AWp _ _ _ _ _ _ _
  by_cases hft : f = t.f
  case neg =>
    have g : decide (f ≠ t.f) = true := by simpa using hft
    rw [mt_ne _ hf (.inl hft)]
    refine awp_seq (awp_seq (awp_region ?_))
    (first | (refine ⟨_, _, _, a_field_bp (gd_none rfl) rfl rfl rfl rfl rfl rfl rfl rfl rfl, (by first | rfl | kernel_rfl), ?_⟩) | (refine ⟨_, _, _, a_field_ad (gd_none rfl) rfl rfl rfl rfl rfl rfl rfl rfl rfl rfl rfl, (by first | rfl | kernel_rfl), ?_⟩) | (refine ⟨_, _, _, a_fieldM (gd_none rfl) rfl rfl rfl rfl rfl rfl rfl rfl rfl, (by first | rfl | kernel_rfl), ?_⟩))
    (first | (refine ⟨_, _, _, a_load_all (gd_none rfl) rfl rfl rfl rfl rfl rfl rfl rfl rfl rfl rfl rfl, (by first | rfl | kernel_rfl), ?_⟩) | (refine ⟨_, _, _, a_load_tok (gd_none rfl) rfl rfl rfl rfl rfl rfl rfl rfl rfl rfl rfl rfl rfl, (by first | rfl | kernel_rfl), ?_⟩) | (refine ⟨_, _, _, a_load_bp (gd_none rfl) rfl rfl rfl rfl rfl rfl rfl rfl rfl rfl rfl rfl, (by first | rfl | kernel_rfl), ?_⟩) | (refine ⟨_, _, _, a_load_ad (gd_none rfl) rfl rfl rfl rfl rfl rfl rfl rfl rfl, (by first | rfl | kernel_rfl), ?_⟩) | (refine ⟨_, _, _, a_load_ptr (gd_none rfl) rfl rfl rfl rfl rfl rfl rfl rfl rfl, (by first | rfl | kernel_rfl), ?_⟩) | (refine ⟨_, _, _, a_load_fld (gd_none rfl) rfl rfl rfl rfl rfl rfl rfl rfl rfl rfl rfl rfl rfl, (by first | rfl | kernel_rfl), ?_⟩) | (refine ⟨_, _, _, a_load_fullv (gd_none rfl) rfl rfl rfl rfl rfl rfl rfl rfl rfl, (by first | rfl | kernel_rfl), ?_⟩))
    (first | (refine ⟨_, _, _, a_field_bp (gd_none rfl) rfl rfl rfl rfl rfl rfl rfl rfl rfl, (by first | rfl | kernel_rfl), ?_⟩) | (refine ⟨_, _, _, a_field_ad (gd_none rfl) rfl rfl rfl rfl rfl rfl rfl rfl rfl rfl rfl, (by first | rfl | kernel_rfl), ?_⟩) | (refine ⟨_, _, _, a_fieldM (gd_none rfl) rfl rfl rfl rfl rfl rfl rfl rfl rfl, (by first | rfl | kernel_rfl), ?_⟩))
    (first | (refine ⟨_, _, _, a_load_all (gd_none rfl) rfl rfl rfl rfl rfl rfl rfl rfl rfl rfl rfl rfl, (by first | rfl | kernel_rfl), ?_⟩) | (refine ⟨_, _, _, a_load_tok (gd_none rfl) rfl rfl rfl rfl rfl rfl rfl rfl rfl rfl rfl rfl rfl, (by first | rfl | kernel_rfl), ?_⟩) | (refine ⟨_, _, _, a_load_bp (gd_none rfl) rfl rfl rfl rfl rfl rfl rfl rfl rfl rfl rfl rfl, (by first | rfl | kernel_rfl), ?_⟩) | (refine ⟨_, _, _, a_load_ad (gd_none rfl) rfl rfl rfl rfl rfl rfl rfl rfl rfl, (by first | rfl | kernel_rfl), ?_⟩) | (refine ⟨_, _, _, a_load_ptr (gd_none rfl) rfl rfl rfl rfl rfl rfl rfl rfl rfl, (by first | rfl | kernel_rfl), ?_⟩) | (refine ⟨_, _, _, a_load_fld (gd_none rfl) rfl rfl rfl rfl rfl rfl rfl rfl rfl rfl rfl rfl rfl, (by first | rfl | kernel_rfl), ?_⟩) | (refine ⟨_, _, _, a_load_fullv (gd_none rfl) rfl rfl rfl rfl rfl rfl rfl rfl rfl, (by first | rfl | kernel_rfl), ?_⟩))
    (first | (refine ⟨_, _, _, a_neq (gd_none rfl) rfl rfl rfl rfl rfl rfl, (by first | rfl | kernel_rfl), ?_⟩) | (refine ⟨_, _, _, a_bne (gd_none rfl) rfl rfl rfl rfl rfl rfl rfl, (by first | rfl | kernel_rfl), ?_⟩))
    (refine ⟨_, _, _, a_move (gd_none rfl) rfl rfl rfl rfl rfl, (by first | rfl | kernel_rfl), ?_⟩)
    (refine ⟨_, _, _, a_off (go_off rfl rfl rfl rfl (by first | rfl | assumption | (simp; done) | (simp [*]; done))) rfl rfl rfl, rfl, ?_⟩)
    (refine ⟨_, _, _, a_off (go_off rfl rfl rfl rfl (by first | rfl | assumption | (simp; done) | (simp [*]; done))) rfl rfl rfl, rfl, ?_⟩)
    (refine ⟨_, _, _, a_off (go_off rfl rfl rfl rfl (by first | rfl | assumption | (simp; done) | (simp [*]; done))) rfl rfl rfl, rfl, ?_⟩)
    (refine ⟨_, _, _, a_off (go_off rfl rfl rfl rfl (by first | rfl | assumption | (simp; done) | (simp [*]; done))) rfl rfl rfl, rfl, ?_⟩)
    (refine ⟨_, _, _, a_off (go_off rfl rfl rfl rfl (by first | rfl | assumption | (simp; done) | (simp [*]; done))) rfl rfl rfl, rfl, ?_⟩)
    (refine ⟨_, _, _, a_off (go_off rfl rfl rfl rfl (by first | rfl | assumption | (simp; done) | (simp [*]; done))) rfl rfl rfl, rfl, ?_⟩)
    (refine ⟨_, _, _, a_off (go_off rfl rfl rfl rfl (by first | rfl | assumption | (simp; done) | (simp [*]; done))) rfl rfl rfl, rfl, ?_⟩)
    (first | (refine ⟨_, _, _, a_pick_t (gd_none rfl) rfl rfl rfl rfl rfl ?hb rfl, rfl, ?_⟩; case hb => (first | rfl | assumption | (simp; done))) | (refine ⟨_, _, _, a_pick_f (gd_none rfl) rfl rfl rfl rfl rfl ?hb rfl, rfl, ?_⟩; case hb => (first | rfl | assumption | (simp; done))))
    show AWp _ _ _ _ _ _ _
    refine awp_cond rfl (fun hc => ?_) (fun hc => by cases hc)
    refine awp_seq (awp_region ?_)
    (refine ⟨_, _, _, a_assign (gd_none rfl) rfl rfl rfl rfl rfl, (by first | rfl | kernel_rfl), ?_⟩)
    show AWp _ _ _ _ _ _ _
    exact awp_ret ⟨.inr rfl, _, Wk.refl _, rfl, rfl, rfl, rfl, rfl, trivial⟩
  have g : decide (f ≠ t.f) = false := by simpa using hft
  refine awp_seq (awp_seq (awp_region ?_))
  (first | (refine ⟨_, _, _, a_field_bp (gd_none rfl) rfl rfl rfl rfl rfl rfl rfl rfl rfl, (by first | rfl | kernel_rfl), ?_⟩) | (refine ⟨_, _, _, a_field_ad (gd_none rfl) rfl rfl rfl rfl rfl rfl rfl rfl rfl rfl rfl, (by first | rfl | kernel_rfl), ?_⟩) | (refine ⟨_, _, _, a_fieldM (gd_none rfl) rfl rfl rfl rfl rfl rfl rfl rfl rfl, (by first | rfl | kernel_rfl), ?_⟩))
  (first | (refine ⟨_, _, _, a_load_all (gd_none rfl) rfl rfl rfl rfl rfl rfl rfl rfl rfl rfl rfl rfl, (by first | rfl | kernel_rfl), ?_⟩) | (refine ⟨_, _, _, a_load_tok (gd_none rfl) rfl rfl rfl rfl rfl rfl rfl rfl rfl rfl rfl rfl rfl, (by first | rfl | kernel_rfl), ?_⟩) | (refine ⟨_, _, _, a_load_bp (gd_none rfl) rfl rfl rfl rfl rfl rfl rfl rfl rfl rfl rfl rfl, (by first | rfl | kernel_rfl), ?_⟩) | (refine ⟨_, _, _, a_load_ad (gd_none rfl) rfl rfl rfl rfl rfl rfl rfl rfl rfl, (by first | rfl | kernel_rfl), ?_⟩) | (refine ⟨_, _, _, a_load_ptr (gd_none rfl) rfl rfl rfl rfl rfl rfl rfl rfl rfl, (by first | rfl | kernel_rfl), ?_⟩) | (refine ⟨_, _, _, a_load_fld (gd_none rfl) rfl rfl rfl rfl rfl rfl rfl rfl rfl rfl rfl rfl rfl, (by first | rfl | kernel_rfl), ?_⟩) | (refine ⟨_, _, _, a_load_fullv (gd_none rfl) rfl rfl rfl rfl rfl rfl rfl rfl rfl, (by first | rfl | kernel_rfl), ?_⟩))
  (first | (refine ⟨_, _, _, a_field_bp (gd_none rfl) rfl rfl rfl rfl rfl rfl rfl rfl rfl, (by first | rfl | kernel_rfl), ?_⟩) | (refine ⟨_, _, _, a_field_ad (gd_none rfl) rfl rfl rfl rfl rfl rfl rfl rfl rfl rfl rfl, (by first | rfl | kernel_rfl), ?_⟩) | (refine ⟨_, _, _, a_fieldM (gd_none rfl) rfl rfl rfl rfl rfl rfl rfl rfl rfl, (by first | rfl | kernel_rfl), ?_⟩))
  (first | (refine ⟨_, _, _, a_load_all (gd_none rfl) rfl rfl rfl rfl rfl rfl rfl rfl rfl rfl rfl rfl, (by first | rfl | kernel_rfl), ?_⟩) | (refine ⟨_, _, _, a_load_tok (gd_none rfl) rfl rfl rfl rfl rfl rfl rfl rfl rfl rfl rfl rfl rfl, (by first | rfl | kernel_rfl), ?_⟩) | (refine ⟨_, _, _, a_load_bp (gd_none rfl) rfl rfl rfl rfl rfl rfl rfl rfl rfl rfl rfl rfl, (by first | rfl | kernel_rfl), ?_⟩) | (refine ⟨_, _, _, a_load_ad (gd_none rfl) rfl rfl rfl rfl rfl rfl rfl rfl rfl, (by first | rfl | kernel_rfl), ?_⟩) | (refine ⟨_, _, _, a_load_ptr (gd_none rfl) rfl rfl rfl rfl rfl rfl rfl rfl rfl, (by first | rfl | kernel_rfl), ?_⟩) | (refine ⟨_, _, _, a_load_fld (gd_none rfl) rfl rfl rfl rfl rfl rfl rfl rfl rfl rfl rfl rfl rfl, (by first | rfl | kernel_rfl), ?_⟩) | (refine ⟨_, _, _, a_load_fullv (gd_none rfl) rfl rfl rfl rfl rfl rfl rfl rfl rfl, (by first | rfl | kernel_rfl), ?_⟩))
  (first | (refine ⟨_, _, _, a_neq (gd_none rfl) rfl rfl rfl rfl rfl rfl, (by first | rfl | kernel_rfl), ?_⟩) | (refine ⟨_, _, _, a_bne (gd_none rfl) rfl rfl rfl rfl rfl rfl rfl, (by first | rfl | kernel_rfl), ?_⟩))
  (refine ⟨_, _, _, a_move (gd_none rfl) rfl rfl rfl rfl rfl, (by first | rfl | kernel_rfl), ?_⟩)
  (first | (refine ⟨_, _, _, a_field_bp (gd_on rfl rfl rfl rfl (by first | rfl | assumption | (simp; done))) rfl rfl rfl rfl rfl rfl rfl rfl rfl, (by first | rfl | kernel_rfl), ?_⟩) | (refine ⟨_, _, _, a_field_ad (gd_on rfl rfl rfl rfl (by first | rfl | assumption | (simp; done))) rfl rfl rfl rfl rfl rfl rfl rfl rfl rfl rfl, (by first | rfl | kernel_rfl), ?_⟩) | (refine ⟨_, _, _, a_fieldM (gd_on rfl rfl rfl rfl (by first | rfl | assumption | (simp; done))) rfl rfl rfl rfl rfl rfl rfl rfl rfl, (by first | rfl | kernel_rfl), ?_⟩))
  (first | (refine ⟨_, _, _, a_load_all (gd_on rfl rfl rfl rfl (by first | rfl | assumption | (simp; done))) rfl rfl rfl rfl rfl rfl rfl rfl rfl rfl rfl rfl, (by first | rfl | kernel_rfl), ?_⟩) | (refine ⟨_, _, _, a_load_tok (gd_on rfl rfl rfl rfl (by first | rfl | assumption | (simp; done))) rfl rfl rfl rfl rfl rfl rfl rfl rfl rfl rfl rfl rfl, (by first | rfl | kernel_rfl), ?_⟩) | (refine ⟨_, _, _, a_load_bp (gd_on rfl rfl rfl rfl (by first | rfl | assumption | (simp; done))) rfl rfl rfl rfl rfl rfl rfl rfl rfl rfl rfl rfl, (by first | rfl | kernel_rfl), ?_⟩) | (refine ⟨_, _, _, a_load_ad (gd_on rfl rfl rfl rfl (by first | rfl | assumption | (simp; done))) rfl rfl rfl rfl rfl rfl rfl rfl rfl, (by first | rfl | kernel_rfl), ?_⟩) | (refine ⟨_, _, _, a_load_ptr (gd_on rfl rfl rfl rfl (by first | rfl | assumption | (simp; done))) rfl rfl rfl rfl rfl rfl rfl rfl rfl, (by first | rfl | kernel_rfl), ?_⟩) | (refine ⟨_, _, _, a_load_fld (gd_on rfl rfl rfl rfl (by first | rfl | assumption | (simp; done))) rfl rfl rfl rfl rfl rfl rfl rfl rfl rfl rfl rfl rfl, (by first | rfl | kernel_rfl), ?_⟩) | (refine ⟨_, _, _, a_load_fullv (gd_on rfl rfl rfl rfl (by first | rfl | assumption | (simp; done))) rfl rfl rfl rfl rfl rfl rfl rfl rfl, (by first | rfl | kernel_rfl), ?_⟩))
  (first | (refine ⟨_, _, _, a_len (gd_on rfl rfl rfl rfl (by first | rfl | assumption | (simp; done))) rfl rfl rfl rfl rfl rfl rfl, (by first | rfl | kernel_rfl), ?_⟩) | (refine ⟨_, _, _, a_lenM (gd_on rfl rfl rfl rfl (by first | rfl | assumption | (simp; done))) rfl rfl rfl rfl rfl rfl rfl, (by first | rfl | kernel_rfl), ?_⟩))
  (first | (refine ⟨_, _, _, a_field_bp (gd_on rfl rfl rfl rfl (by first | rfl | assumption | (simp; done))) rfl rfl rfl rfl rfl rfl rfl rfl rfl, (by first | rfl | kernel_rfl), ?_⟩) | (refine ⟨_, _, _, a_field_ad (gd_on rfl rfl rfl rfl (by first | rfl | assumption | (simp; done))) rfl rfl rfl rfl rfl rfl rfl rfl rfl rfl rfl, (by first | rfl | kernel_rfl), ?_⟩) | (refine ⟨_, _, _, a_fieldM (gd_on rfl rfl rfl rfl (by first | rfl | assumption | (simp; done))) rfl rfl rfl rfl rfl rfl rfl rfl rfl, (by first | rfl | kernel_rfl), ?_⟩))
  (first | (refine ⟨_, _, _, a_load_all (gd_on rfl rfl rfl rfl (by first | rfl | assumption | (simp; done))) rfl rfl rfl rfl rfl rfl rfl rfl rfl rfl rfl rfl, (by first | rfl | kernel_rfl), ?_⟩) | (refine ⟨_, _, _, a_load_tok (gd_on rfl rfl rfl rfl (by first | rfl | assumption | (simp; done))) rfl rfl rfl rfl rfl rfl rfl rfl rfl rfl rfl rfl rfl, (by first | rfl | kernel_rfl), ?_⟩) | (refine ⟨_, _, _, a_load_bp (gd_on rfl rfl rfl rfl (by first | rfl | assumption | (simp; done))) rfl rfl rfl rfl rfl rfl rfl rfl rfl rfl rfl rfl, (by first | rfl | kernel_rfl), ?_⟩) | (refine ⟨_, _, _, a_load_ad (gd_on rfl rfl rfl rfl (by first | rfl | assumption | (simp; done))) rfl rfl rfl rfl rfl rfl rfl rfl rfl, (by first | rfl | kernel_rfl), ?_⟩) | (refine ⟨_, _, _, a_load_ptr (gd_on rfl rfl rfl rfl (by first | rfl | assumption | (simp; done))) rfl rfl rfl rfl rfl rfl rfl rfl rfl, (by first | rfl | kernel_rfl), ?_⟩) | (refine ⟨_, _, _, a_load_fld (gd_on rfl rfl rfl rfl (by first | rfl | assumption | (simp; done))) rfl rfl rfl rfl rfl rfl rfl rfl rfl rfl rfl rfl rfl, (by first | rfl | kernel_rfl), ?_⟩) | (refine ⟨_, _, _, a_load_fullv (gd_on rfl rfl rfl rfl (by first | rfl | assumption | (simp; done))) rfl rfl rfl rfl rfl rfl rfl rfl rfl, (by first | rfl | kernel_rfl), ?_⟩))
  (first | (refine ⟨_, _, _, a_len (gd_on rfl rfl rfl rfl (by first | rfl | assumption | (simp; done))) rfl rfl rfl rfl rfl rfl rfl, (by first | rfl | kernel_rfl), ?_⟩) | (refine ⟨_, _, _, a_lenM (gd_on rfl rfl rfl rfl (by first | rfl | assumption | (simp; done))) rfl rfl rfl rfl rfl rfl rfl, (by first | rfl | kernel_rfl), ?_⟩))
  (first | (refine ⟨_, _, _, a_neq (gd_on rfl rfl rfl rfl (by first | rfl | assumption | (simp; done))) rfl rfl rfl rfl rfl rfl, (by first | rfl | kernel_rfl), ?_⟩) | (refine ⟨_, _, _, a_bne (gd_on rfl rfl rfl rfl (by first | rfl | assumption | (simp; done))) rfl rfl rfl rfl rfl rfl rfl, (by first | rfl | kernel_rfl), ?_⟩))
  (first | (refine ⟨_, _, _, a_pick_t (gd_none rfl) rfl rfl rfl rfl rfl ?hb rfl, rfl, ?_⟩; case hb => (first | rfl | assumption | (simp; done))) | (refine ⟨_, _, _, a_pick_f (gd_none rfl) rfl rfl rfl rfl rfl ?hb rfl, rfl, ?_⟩; case hb => (first | rfl | assumption | (simp; done))))
  show AWp _ _ _ _ _ _ _
  refine awp_cond rfl (fun hc => ?_) (fun hc => ?_)
  · have hll : l.length ≠ t.l.length := by
      intro e
      simp [e] at hc
    rw [mt_ne _ hf (.inr hll)]
    refine awp_seq (awp_region ?_)
    (refine ⟨_, _, _, a_assign (gd_none rfl) rfl rfl rfl rfl rfl, (by first | rfl | kernel_rfl), ?_⟩)
    show AWp _ _ _ _ _ _ _
    exact awp_ret ⟨.inr rfl, _, Wk.refl _, rfl, rfl, rfl, rfl, rfl, trivial⟩
  have hll : l.length = t.l.length := by
    have hc := of_decide_eq_false hc
    simp only [List.length_map, ne_eq, Decidable.not_not] at hc
    omega
  rw [mt_sym (p := ⟨f, l⟩) _ hf hft hll]
  rw [Tm.vs_sym (t := ⟨f, l⟩) hf] at hl
  refine awp_skip ?_
  show AWp _ _ _ _ _ _ _
  refine awp_seq (awp_seq (awp_region ?_))
  (first | (refine ⟨_, _, _, a_field_bp (gd_none rfl) rfl rfl rfl rfl rfl rfl rfl rfl rfl, (by first | rfl | kernel_rfl), ?_⟩) | (refine ⟨_, _, _, a_field_ad (gd_none rfl) rfl rfl rfl rfl rfl rfl rfl rfl rfl rfl rfl, (by first | rfl | kernel_rfl), ?_⟩) | (refine ⟨_, _, _, a_fieldM (gd_none rfl) rfl rfl rfl rfl rfl rfl rfl rfl rfl, (by first | rfl | kernel_rfl), ?_⟩))
  (first | (refine ⟨_, _, _, a_load_all (gd_none rfl) rfl rfl rfl rfl rfl rfl rfl rfl rfl rfl rfl rfl, (by first | rfl | kernel_rfl), ?_⟩) | (refine ⟨_, _, _, a_load_tok (gd_none rfl) rfl rfl rfl rfl rfl rfl rfl rfl rfl rfl rfl rfl rfl, (by first | rfl | kernel_rfl), ?_⟩) | (refine ⟨_, _, _, a_load_bp (gd_none rfl) rfl rfl rfl rfl rfl rfl rfl rfl rfl rfl rfl rfl, (by first | rfl | kernel_rfl), ?_⟩) | (refine ⟨_, _, _, a_load_ad (gd_none rfl) rfl rfl rfl rfl rfl rfl rfl rfl rfl, (by first | rfl | kernel_rfl), ?_⟩) | (refine ⟨_, _, _, a_load_ptr (gd_none rfl) rfl rfl rfl rfl rfl rfl rfl rfl rfl, (by first | rfl | kernel_rfl), ?_⟩) | (refine ⟨_, _, _, a_load_fld (gd_none rfl) rfl rfl rfl rfl rfl rfl rfl rfl rfl rfl rfl rfl rfl, (by first | rfl | kernel_rfl), ?_⟩) | (refine ⟨_, _, _, a_load_fullv (gd_none rfl) rfl rfl rfl rfl rfl rfl rfl rfl rfl, (by first | rfl | kernel_rfl), ?_⟩))
  (first | (refine ⟨_, _, _, a_len (gd_none rfl) rfl rfl rfl rfl rfl rfl rfl, (by first | rfl | kernel_rfl), ?_⟩) | (refine ⟨_, _, _, a_lenM (gd_none rfl) rfl rfl rfl rfl rfl rfl rfl, (by first | rfl | kernel_rfl), ?_⟩))
  (refine ⟨_, _, _, a_move (gd_none rfl) rfl rfl rfl rfl rfl, (by first | rfl | kernel_rfl), ?_⟩)
  show AWp _ _ _ _ _ _ _
  refine awp_block (awp_countI l.length (fun k => (mts (l.take k) (t.l.take k) L).1 = true) (fun k => (0, .bp 350001 0 []) :: (4, .bp 4 0 []) :: (100004, .bx (Tm.cw ⟨f, l⟩)) :: (5, .bp 5 0 []) :: (100005, .bx t.cw) :: (31, .val (.lst (l.map Tm.cv))) :: (32, .val (.i (l.map Tm.cv).length)) :: (33, .val (.i k)) :: bst m (mts (l.take k) (t.l.take k) L).2) (wk_sub ⟨rfl, rfl, rfl, rfl, rfl, rfl, rfl, rfl, rfl, rfl, rfl, rfl, trivial⟩) rfl ?_)
  intro k hk hI
  refine awp_seq (awp_region ?_)
  (refine ⟨_, _, _, a_lss (gd_none rfl) rfl rfl rfl rfl rfl rfl, (by first | rfl | kernel_rfl), ?_⟩)
  show AWp _ _ _ _ _ _ _
  refine awp_seq (awp_cond rfl (fun hlt => ?_) (fun hlt => ?_))
  · have hkl : k < l.length := by simpa using hlt
    obtain ⟨x, hx⟩ : ∃ x, l[k]? = some x := ⟨l[k], List.getElem?_eq_getElem hkl⟩
    obtain ⟨y, hy⟩ : ∃ y, t.l[k]? = some y := ⟨t.l[k]'(by omega), List.getElem?_eq_getElem (by omega)⟩
    have hx' := Tm.map_at hx
    have hy' := Tm.map_at hy
    have hxm := List.mem_of_getElem? hx
    have hym := List.mem_of_getElem? hy
    obtain ⟨Lk, hLk⟩ : ∃ Lk, Lk = (mts (l.take k) (t.l.take k) L).2 := ⟨_, rfl⟩
    have hgk := mts_grw' (l.take k) (t.l.take k) L
    have hrk : rngL Lk := by
      rw [hLk]
      exact rngL.mts (fun p _ => rngL.mt p) (fun s hs => htr.2 s (List.mem_of_mem_take hs)) hL
    have hbound : Lk.length + x.vs.length ≤ 65 := by
      have h1 := hgk.le.2
      rw [← hLk] at h1
      have h2 : (l.flatMap Tm.vs).length = ((l.take k).flatMap Tm.vs).length + ((l.drop k).flatMap Tm.vs).length := by
        conv => lhs; rw [← List.take_append_drop k l]
        rw [List.flatMap_append, List.length_append]
      have h3 : x.vs.length ≤ ((l.drop k).flatMap Tm.vs).length := flatMap_len_mem Tm.vs (List.mem_of_getElem? (i := 0) (by rw [List.getElem?_drop]; simpa using hx))
      have hl : L.length + (l.flatMap Tm.vs).length ≤ 65 := hl
      omega
    have hmk : m ≤ Lk.length := by have := hgk.le.1; rw [← hLk] at this; omega
    have hstep := mts_take hll hx hy L
    rw [pairM_t hI, ← hLk] at hstep
    rw [← hLk]
    refine awp_skip ?_
    show AWp _ _ _ _ _ _ _
    refine awp_seq (awp_block (awp_seq (awp_region ?_)))
    (refine ⟨_, _, _, a_move (gd_none rfl) rfl rfl rfl rfl rfl, (by first | rfl | kernel_rfl), ?_⟩)
    (refine ⟨_, _, _, a_index (j := k) (gd_none rfl) rfl rfl rfl rfl rfl rfl rfl rfl rfl (hx') rfl (hsz), (by first | rfl | kernel_rfl), ?_⟩)
    (first | (refine ⟨_, _, _, a_load_all (gd_none rfl) rfl rfl rfl rfl rfl rfl rfl rfl rfl rfl rfl rfl, (by first | rfl | kernel_rfl), ?_⟩) | (refine ⟨_, _, _, a_load_tok (gd_none rfl) rfl rfl rfl rfl rfl rfl rfl rfl rfl rfl rfl rfl rfl, (by first | rfl | kernel_rfl), ?_⟩) | (refine ⟨_, _, _, a_load_bp (gd_none rfl) rfl rfl rfl rfl rfl rfl rfl rfl rfl rfl rfl rfl, (by first | rfl | kernel_rfl), ?_⟩) | (refine ⟨_, _, _, a_load_ad (gd_none rfl) rfl rfl rfl rfl rfl rfl rfl rfl rfl, (by first | rfl | kernel_rfl), ?_⟩) | (refine ⟨_, _, _, a_load_ptr (gd_none rfl) rfl rfl rfl rfl rfl rfl rfl rfl rfl, (by first | rfl | kernel_rfl), ?_⟩) | (refine ⟨_, _, _, a_load_fld (gd_none rfl) rfl rfl rfl rfl rfl rfl rfl rfl rfl rfl rfl rfl rfl, (by first | rfl | kernel_rfl), ?_⟩) | (refine ⟨_, _, _, a_load_fullv (gd_none rfl) rfl rfl rfl rfl rfl rfl rfl rfl rfl, (by first | rfl | kernel_rfl), ?_⟩))
    (refine ⟨_, _, _, a_alloc (gd_none rfl) rfl rfl rfl rfl rfl rfl rfl rfl rfl rfl, (by first | rfl | kernel_rfl), ?_⟩)
    (refine ⟨_, _, _, a_assign (gd_none rfl) rfl rfl rfl rfl rfl, (by first | rfl | kernel_rfl), ?_⟩)
    (first | (refine ⟨_, _, _, a_store_all (gd_none rfl) rfl rfl rfl rfl rfl rfl rfl rfl rfl rfl, (by first | rfl | kernel_rfl), ?_⟩) | (refine ⟨_, _, _, a_store (gd_none rfl) rfl rfl rfl rfl rfl rfl rfl rfl rfl rfl, (by first | rfl | kernel_rfl), ?_⟩) | (refine ⟨_, _, _, a_store_fld (gd_none rfl) rfl rfl rfl rfl rfl rfl rfl rfl rfl rfl rfl rfl, (by first | rfl | kernel_rfl), ?_⟩))
    show AWp _ _ _ _ _ _ _
    refine awp_seq (awp_draw (by kernel_rfl) (by kernel_rfl) ?_)
    (refine ⟨_, _, _, a_move (gd_none rfl) rfl rfl rfl rfl rfl, (by first | rfl | kernel_rfl), ?_⟩)
    (first | (refine ⟨_, _, _, a_load_all (gd_none rfl) rfl rfl rfl rfl rfl rfl rfl rfl rfl rfl rfl rfl, (by first | rfl | kernel_rfl), ?_⟩) | (refine ⟨_, _, _, a_load_tok (gd_none rfl) rfl rfl rfl rfl rfl rfl rfl rfl rfl rfl rfl rfl rfl, (by first | rfl | kernel_rfl), ?_⟩) | (refine ⟨_, _, _, a_load_bp (gd_none rfl) rfl rfl rfl rfl rfl rfl rfl rfl rfl rfl rfl rfl, (by first | rfl | kernel_rfl), ?_⟩) | (refine ⟨_, _, _, a_load_ad (gd_none rfl) rfl rfl rfl rfl rfl rfl rfl rfl rfl, (by first | rfl | kernel_rfl), ?_⟩) | (refine ⟨_, _, _, a_load_ptr (gd_none rfl) rfl rfl rfl rfl rfl rfl rfl rfl rfl, (by first | rfl | kernel_rfl), ?_⟩) | (refine ⟨_, _, _, a_load_fld (gd_none rfl) rfl rfl rfl rfl rfl rfl rfl rfl rfl rfl rfl rfl rfl, (by first | rfl | kernel_rfl), ?_⟩) | (refine ⟨_, _, _, a_load_fullv (gd_none rfl) rfl rfl rfl rfl rfl rfl rfl rfl rfl, (by first | rfl | kernel_rfl), ?_⟩))
    (first | (refine ⟨_, _, _, a_field_bp (gd_none rfl) rfl rfl rfl rfl rfl rfl rfl rfl rfl, (by first | rfl | kernel_rfl), ?_⟩) | (refine ⟨_, _, _, a_field_ad (gd_none rfl) rfl rfl rfl rfl rfl rfl rfl rfl rfl rfl rfl, (by first | rfl | kernel_rfl), ?_⟩) | (refine ⟨_, _, _, a_fieldM (gd_none rfl) rfl rfl rfl rfl rfl rfl rfl rfl rfl, (by first | rfl | kernel_rfl), ?_⟩))
    (first | (refine ⟨_, _, _, a_load_all (gd_none rfl) rfl rfl rfl rfl rfl rfl rfl rfl rfl rfl rfl rfl, (by first | rfl | kernel_rfl), ?_⟩) | (refine ⟨_, _, _, a_load_tok (gd_none rfl) rfl rfl rfl rfl rfl rfl rfl rfl rfl rfl rfl rfl rfl, (by first | rfl | kernel_rfl), ?_⟩) | (refine ⟨_, _, _, a_load_bp (gd_none rfl) rfl rfl rfl rfl rfl rfl rfl rfl rfl rfl rfl rfl, (by first | rfl | kernel_rfl), ?_⟩) | (refine ⟨_, _, _, a_load_ad (gd_none rfl) rfl rfl rfl rfl rfl rfl rfl rfl rfl, (by first | rfl | kernel_rfl), ?_⟩) | (refine ⟨_, _, _, a_load_ptr (gd_none rfl) rfl rfl rfl rfl rfl rfl rfl rfl rfl, (by first | rfl | kernel_rfl), ?_⟩) | (refine ⟨_, _, _, a_load_fld (gd_none rfl) rfl rfl rfl rfl rfl rfl rfl rfl rfl rfl rfl rfl rfl, (by first | rfl | kernel_rfl), ?_⟩) | (refine ⟨_, _, _, a_load_fullv (gd_none rfl) rfl rfl rfl rfl rfl rfl rfl rfl rfl, (by first | rfl | kernel_rfl), ?_⟩))
    (refine ⟨_, _, _, a_move (gd_none rfl) rfl rfl rfl rfl rfl, (by first | rfl | kernel_rfl), ?_⟩)
    (refine ⟨_, _, _, a_index (j := k) (gd_none rfl) rfl rfl rfl rfl rfl rfl rfl rfl rfl (hy') rfl (hsz2), (by first | rfl | kernel_rfl), ?_⟩)
    (first | (refine ⟨_, _, _, a_load_all (gd_none rfl) rfl rfl rfl rfl rfl rfl rfl rfl rfl rfl rfl rfl, (by first | rfl | kernel_rfl), ?_⟩) | (refine ⟨_, _, _, a_load_tok (gd_none rfl) rfl rfl rfl rfl rfl rfl rfl rfl rfl rfl rfl rfl rfl, (by first | rfl | kernel_rfl), ?_⟩) | (refine ⟨_, _, _, a_load_bp (gd_none rfl) rfl rfl rfl rfl rfl rfl rfl rfl rfl rfl rfl rfl, (by first | rfl | kernel_rfl), ?_⟩) | (refine ⟨_, _, _, a_load_ad (gd_none rfl) rfl rfl rfl rfl rfl rfl rfl rfl rfl, (by first | rfl | kernel_rfl), ?_⟩) | (refine ⟨_, _, _, a_load_ptr (gd_none rfl) rfl rfl rfl rfl rfl rfl rfl rfl rfl, (by first | rfl | kernel_rfl), ?_⟩) | (refine ⟨_, _, _, a_load_fld (gd_none rfl) rfl rfl rfl rfl rfl rfl rfl rfl rfl rfl rfl rfl rfl, (by first | rfl | kernel_rfl), ?_⟩) | (refine ⟨_, _, _, a_load_fullv (gd_none rfl) rfl rfl rfl rfl rfl rfl rfl rfl rfl, (by first | rfl | kernel_rfl), ?_⟩))
    (refine ⟨_, _, _, a_callO (gd_none rfl) rfl rfl rfl rfl rfl (ih x hxm (hr.2 x hxm) (hok.2 x hxm) y Lk (htr.2 y hym) hmk hbound hrk) (by repeat (first | exact trivial | refine ⟨rfl, ?_⟩)) (bst_lend _ _) (bst_leave _ _) (by first | rfl | kernel_rfl) (by first | rfl | kernel_rfl) (hnb_of (by first | rfl | kernel_rfl)), (by first | rfl | kernel_rfl), ?_⟩)
    (refine ⟨_, _, _, a_not (gd_none rfl) rfl rfl rfl rfl rfl, (by first | rfl | kernel_rfl), ?_⟩)
    refine ⟨by kernel_rfl, ?_⟩
    show AWp _ _ _ _ _ _ _
    rw [← hstep]
    refine awp_cond rfl (fun hb => ?_) (fun hb => ?_)
    · have hb : (mts (l.take (k + 1)) (t.l.take (k + 1)) L).1 = false := by simpa using hb
      rw [mts_stop (k + 1) hb]
      refine awp_seq (awp_region ?_)
      (refine ⟨_, _, _, a_assign (gd_none rfl) rfl rfl rfl rfl rfl, (by first | rfl | kernel_rfl), ?_⟩)
      show AWp _ _ _ _ _ _ _
      rw [hb]
      exact awp_ret ⟨.inr rfl, _, Wk.refl _, rfl, rfl, rfl, rfl, rfl, trivial⟩
    · have hb : (mts (l.take (k + 1)) (t.l.take (k + 1)) L).1 = true := by simpa using hb
      refine awp_skip ?_
      show AWp _ _ _ _ _ _ _
      refine awp_region ?_
      (refine ⟨_, _, _, a_add (gd_none rfl) rfl rfl rfl rfl rfl rfl (by first | omega | (simp only [List.length_map, List.length_append, List.length_cons, List.length_nil] <;> omega) | (simp <;> omega)), (by first | rfl | kernel_rfl), ?_⟩)
      (refine ⟨_, _, _, a_move (gd_none rfl) rfl rfl rfl rfl rfl, (by first | rfl | kernel_rfl), ?_⟩)
      exact ⟨hkl, hb, wk_sub ⟨rfl, rfl, rfl, rfl, rfl, rfl, rfl, rfl, rfl, rfl, rfl, rfl, trivial⟩⟩
  · have hkl : k = l.length := by
      have : ¬ k < l.length := by simpa using hlt
      omega
    subst hkl
    rw [List.take_length, hll, List.take_length] at hI ⊢
    refine awp_exit ?_
    show AWp _ _ _ _ _ _ _
    refine awp_seq (awp_region ?_)
    (refine ⟨_, _, _, a_assign (gd_none rfl) rfl rfl rfl rfl rfl, (by first | rfl | kernel_rfl), ?_⟩)
    show AWp _ _ _ _ _ _ _
    rw [hI]
    exact awp_ret ⟨.inr rfl, _, Wk.refl _, rfl, rfl, rfl, rfl, rfl, trivial⟩
end Go.Proofs.Ytgmllfjidhbjjab


namespace Go.Proofs.Ytgmllfjidhbjjab
open Go.RowKit
set_option linter.unusedVariables false
set_option linter.unusedSimpArgs false
set_option maxRecDepth 100000

def clB (b : Bd) : Bd := ⟨b.v, b.t.strip⟩
noncomputable def zB : CV := .row [.i 0, .row [.i 0, .lst []]]
noncomputable def tlL (L : List Bd) (k : Nat) : List CV := ((L.take k).map clB).map Bd.cv ++ List.replicate (L.length - k) zB
theorem behind_st (L : List Bd) : AFunO Try.prog 37 [] [.val (.lst (L.map Bd.cv))] (.bp 350001 0 []) (bst L.length L) := by
  rw [bst_A (Nat.le_refl _)]; exact behind_abs L
theorem behind_nil : AFunO Try.prog 37 [] [⟨0, .lst [], 1, 0, []⟩] (.bp 350001 0 []) (bst 0 []) := by
  have h := behind_st []
  refine ⟨h.1, fun U w hv a0 vs hU hpS hargs => h.2 U w hv a0 vs hU hpS ?_⟩
  obtain ⟨u, us, e, hu, h2⟩ := hargs
  have hu : VRep (Us w U (fun _ _ => False)) w (.lst []) u := hu.1
  exact ⟨u, us, e, avrep_val hu, h2⟩
-- 
theorem mIs_abs (W : World) (p t : Tm) (hr : p.rng) (hok : p.ok) (ht : t.rng) (hv : p.vs.length ≤ 65) : AFun Try.prog W 22 [p.cw, t.cw] (.val (.b (mt p t []).1)) := by
  refine afun_of (rs := [.b (mt p t []).1]) Try.func22 Try.ntmps22 rfl rfl rfl rfl ?_
  intro w U hW
  refine awp_seq (awp_region ?_)
  (refine ⟨_, _, _, a_box (gd_none rfl) rfl rfl rfl rfl rfl, (by first | rfl | kernel_rfl), ?_⟩)
  (refine ⟨_, _, _, a_box (gd_none rfl) rfl rfl rfl rfl rfl, (by first | rfl | kernel_rfl), ?_⟩)
  (refine ⟨_, _, _, a_assign (gd_none rfl) rfl rfl rfl rfl rfl, (by first | rfl | kernel_rfl), ?_⟩)
  show AWp _ _ _ _ _ _ _
  refine awp_seq (awp_draw (by kernel_rfl) (by kernel_rfl) ?_)
  (refine ⟨_, _, _, a_callO (gd_none rfl) rfl rfl rfl rfl rfl (behind_nil) (by repeat (first | exact trivial | refine ⟨rfl, ?_⟩)) (by first | rfl | kernel_rfl) (bst_leave _ _) (by first | rfl | kernel_rfl) (by first | rfl | kernel_rfl) (fun k v h => by first | (rw [hW.1] at h; cases h) | (have h2 := hU k v h; cases h2)), (by first | rfl | kernel_rfl), ?_⟩)
  (first | (refine ⟨_, _, _, a_load_all (gd_none rfl) rfl rfl rfl rfl rfl rfl rfl rfl rfl rfl rfl rfl, (by first | rfl | kernel_rfl), ?_⟩) | (refine ⟨_, _, _, a_load_tok (gd_none rfl) rfl rfl rfl rfl rfl rfl rfl rfl rfl rfl rfl rfl rfl, (by first | rfl | kernel_rfl), ?_⟩) | (refine ⟨_, _, _, a_load_bp (gd_none rfl) rfl rfl rfl rfl rfl rfl rfl rfl rfl rfl rfl rfl, (by first | rfl | kernel_rfl), ?_⟩) | (refine ⟨_, _, _, a_load_ad (gd_none rfl) rfl rfl rfl rfl rfl rfl rfl rfl rfl, (by first | rfl | kernel_rfl), ?_⟩) | (refine ⟨_, _, _, a_load_ptr (gd_none rfl) rfl rfl rfl rfl rfl rfl rfl rfl rfl, (by first | rfl | kernel_rfl), ?_⟩) | (refine ⟨_, _, _, a_load_fld (gd_none rfl) rfl rfl rfl rfl rfl rfl rfl rfl rfl rfl rfl rfl rfl, (by first | rfl | kernel_rfl), ?_⟩) | (refine ⟨_, _, _, a_load_fullv (gd_none rfl) rfl rfl rfl rfl rfl rfl rfl rfl rfl, (by first | rfl | kernel_rfl), ?_⟩))
  (first | (refine ⟨_, _, _, a_load_all (gd_none rfl) rfl rfl rfl rfl rfl rfl rfl rfl rfl rfl rfl rfl, (by first | rfl | kernel_rfl), ?_⟩) | (refine ⟨_, _, _, a_load_tok (gd_none rfl) rfl rfl rfl rfl rfl rfl rfl rfl rfl rfl rfl rfl rfl, (by first | rfl | kernel_rfl), ?_⟩) | (refine ⟨_, _, _, a_load_bp (gd_none rfl) rfl rfl rfl rfl rfl rfl rfl rfl rfl rfl rfl rfl, (by first | rfl | kernel_rfl), ?_⟩) | (refine ⟨_, _, _, a_load_ad (gd_none rfl) rfl rfl rfl rfl rfl rfl rfl rfl rfl, (by first | rfl | kernel_rfl), ?_⟩) | (refine ⟨_, _, _, a_load_ptr (gd_none rfl) rfl rfl rfl rfl rfl rfl rfl rfl rfl, (by first | rfl | kernel_rfl), ?_⟩) | (refine ⟨_, _, _, a_load_fld (gd_none rfl) rfl rfl rfl rfl rfl rfl rfl rfl rfl rfl rfl rfl rfl, (by first | rfl | kernel_rfl), ?_⟩) | (refine ⟨_, _, _, a_load_fullv (gd_none rfl) rfl rfl rfl rfl rfl rfl rfl rfl rfl, (by first | rfl | kernel_rfl), ?_⟩))
  (refine ⟨_, _, _, a_callO (gd_none rfl) rfl rfl rfl rfl rfl (mMatch_abs 0 p hr hok t [] ht (Nat.le_refl _) (by simpa using hv) (fun b hb => by cases hb)) (by repeat (first | exact trivial | refine ⟨rfl, ?_⟩)) (bst_lend _ _) (bst_leave _ _) (by first | rfl | kernel_rfl) (by first | rfl | kernel_rfl) (hnb_of (by first | rfl | kernel_rfl)), (by first | rfl | kernel_rfl), ?_⟩)
  (refine ⟨_, _, _, a_assign (gd_none rfl) rfl rfl rfl rfl rfl, (by first | rfl | kernel_rfl), ?_⟩)
  refine ⟨by kernel_rfl, ?_⟩
  show AWp _ _ _ _ _ _ _
  exact awp_ret ⟨.inr rfl, rfl⟩
/-- What Match tells. -/
noncomputable def matchL (L : List Bd) (p t : Tm) : List Bd := if (mt p t L).1 = true then (mt p t L).2.map clB else []
end Go.Proofs.Ytgmllfjidhbjjab


namespace Go.Proofs.Ytgmllfjidhbjjab
open Go.RowKit
set_option linter.unusedVariables false
set_option linter.unusedSimpArgs false
set_option maxRecDepth 100000

-- 
theorem clInt400002_abs (pl : List Int) (hl : pl.length ≤ 1000000) : AFunO Try.prog 55 [(400002, .mrow 3 1 (pl.map CV.i))] [.sl 400002 0 pl.length 1] (.val (.lst (pl.map CV.i))) [(400002, .mrow 3 1 (pl.map CV.i))] := by
  have hlm : (pl.map CV.i).length = pl.length := List.length_map ..
  refine afunO_of Try.func55 Try.ntmps55 rfl rfl rfl rfl rfl rfl ?_
  intro w U hU
  refine awp_seq (awp_region ?_)
  (refine ⟨_, _, _, a_assign (gd_none rfl) rfl rfl rfl rfl rfl, (by first | rfl | kernel_rfl), ?_⟩)
  show AWp _ _ _ _ _ _ _
  refine AWp.handle 1 400002 rfl rfl rfl rfl fun ao cap hcap hao => ?_
  have hao' : ao = none → pl.length = 0 ∧ cap = 0 := fun e => by have := hao e; rw [hlm] at this; exact this
  refine awp_seq (awp_seq (awp_region ?_))
  (refine ⟨_, _, _, a_move (gd_none rfl) rfl rfl rfl rfl rfl, (by first | rfl | kernel_rfl), ?_⟩)
  (refine ⟨_, _, _, a_nilS 1 (gd_none rfl) rfl rfl rfl rfl rfl rfl rfl rfl (hao'), (by first | rfl | kernel_rfl), ?_⟩)
  show AWp _ _ _ _ _ _ _
  cases ao with
  | none =>
    have hpl : pl = [] := List.eq_nil_of_length_eq_zero (hao' rfl).1
    subst hpl
    refine awp_cond rfl (fun hc => ?_) (fun hc => by cases hc)
    refine awp_seq (awp_region ?_)
    (refine ⟨_, _, _, a_assign (gd_none rfl) rfl rfl rfl rfl rfl, (by first | rfl | kernel_rfl), ?_⟩)
    show AWp _ _ _ _ _ _ _
    exact awp_ret ⟨.inr rfl, _, Wk.refl _, rfl, rfl, trivial⟩
  | some ad =>
    refine awp_cond rfl (fun hc => by cases hc) (fun hc => awp_skip ?_)
    show AWp _ _ _ _ _ _ _
    refine awp_seq (awp_region ?_)
    (refine ⟨_, _, _, a_bslice0 (gd_none rfl) rfl rfl rfl rfl rfl rfl rfl rfl, (by first | rfl | kernel_rfl), ?_⟩)
    (refine ⟨_, _, _, a_move (gd_none rfl) rfl rfl rfl rfl rfl, (by first | rfl | kernel_rfl), ?_⟩)
    (refine ⟨_, _, _, a_app0S (gd_none rfl) rfl rfl rfl rfl rfl rfl rfl rfl rfl rfl rfl rfl rfl rfl rfl (by first | rfl | omega | (simp only [List.length_set, List.length_map, List.length_append, List.length_cons, List.length_nil] <;> omega) | (simp <;> omega)) (by first | omega | (simp only [List.length_map, List.length_append, List.length_cons, List.length_nil] <;> omega) | (simp <;> omega)), (by first | rfl | kernel_rfl), ?_⟩)
    (refine ⟨_, _, _, a_assign (gd_none rfl) rfl rfl rfl rfl rfl, (by first | rfl | kernel_rfl), ?_⟩)
    show AWp _ _ _ _ _ _ _
    exact awp_ret ⟨.inr rfl, _, Wk.refl _, rfl, rfl, trivial⟩
-- 
theorem clInt400003_abs (pl : List Int) (hl : pl.length ≤ 1000000) : AFunO Try.prog 55 [(400003, .mrow 3 1 (pl.map CV.i))] [.sl 400003 0 pl.length 1] (.val (.lst (pl.map CV.i))) [(400003, .mrow 3 1 (pl.map CV.i))] := by
  have hlm : (pl.map CV.i).length = pl.length := List.length_map ..
  refine afunO_of Try.func55 Try.ntmps55 rfl rfl rfl rfl rfl rfl ?_
  intro w U hU
  refine awp_seq (awp_region ?_)
  (refine ⟨_, _, _, a_assign (gd_none rfl) rfl rfl rfl rfl rfl, (by first | rfl | kernel_rfl), ?_⟩)
  show AWp _ _ _ _ _ _ _
  refine AWp.handle 1 400003 rfl rfl rfl rfl fun ao cap hcap hao => ?_
  have hao' : ao = none → pl.length = 0 ∧ cap = 0 := fun e => by have := hao e; rw [hlm] at this; exact this
  refine awp_seq (awp_seq (awp_region ?_))
  (refine ⟨_, _, _, a_move (gd_none rfl) rfl rfl rfl rfl rfl, (by first | rfl | kernel_rfl), ?_⟩)
  (refine ⟨_, _, _, a_nilS 1 (gd_none rfl) rfl rfl rfl rfl rfl rfl rfl rfl (hao'), (by first | rfl | kernel_rfl), ?_⟩)
  show AWp _ _ _ _ _ _ _
  cases ao with
  | none =>
    have hpl : pl = [] := List.eq_nil_of_length_eq_zero (hao' rfl).1
    subst hpl
    refine awp_cond rfl (fun hc => ?_) (fun hc => by cases hc)
    refine awp_seq (awp_region ?_)
    (refine ⟨_, _, _, a_assign (gd_none rfl) rfl rfl rfl rfl rfl, (by first | rfl | kernel_rfl), ?_⟩)
    show AWp _ _ _ _ _ _ _
    exact awp_ret ⟨.inr rfl, _, Wk.refl _, rfl, rfl, trivial⟩
  | some ad =>
    refine awp_cond rfl (fun hc => by cases hc) (fun hc => awp_skip ?_)
    show AWp _ _ _ _ _ _ _
    refine awp_seq (awp_region ?_)
    (refine ⟨_, _, _, a_bslice0 (gd_none rfl) rfl rfl rfl rfl rfl rfl rfl rfl, (by first | rfl | kernel_rfl), ?_⟩)
    (refine ⟨_, _, _, a_move (gd_none rfl) rfl rfl rfl rfl rfl, (by first | rfl | kernel_rfl), ?_⟩)
    (refine ⟨_, _, _, a_app0S (gd_none rfl) rfl rfl rfl rfl rfl rfl rfl rfl rfl rfl rfl rfl rfl rfl rfl (by first | rfl | omega | (simp only [List.length_set, List.length_map, List.length_append, List.length_cons, List.length_nil] <;> omega) | (simp <;> omega)) (by first | omega | (simp only [List.length_map, List.length_append, List.length_cons, List.length_nil] <;> omega) | (simp <;> omega)), (by first | rfl | kernel_rfl), ?_⟩)
    (refine ⟨_, _, _, a_assign (gd_none rfl) rfl rfl rfl rfl rfl, (by first | rfl | kernel_rfl), ?_⟩)
    show AWp _ _ _ _ _ _ _
    exact awp_ret ⟨.inr rfl, _, Wk.refl _, rfl, rfl, trivial⟩
/-- The places at which a pattern matches, below a place. -/
noncomputable def pm (p : Tm) (t : Tm) : List Int → List (List Int) :=
  Tm.rec (motive_1 := fun _ => List Int → List (List Int)) (motive_2 := fun _ => Nat → List Int → List (List Int))
    (fun f l ih pl => if f < 0 then [] else (if (mt p ⟨f, l⟩ []).1 = true then [pl] else []) ++ ih 0 pl)
    (fun _ _ => [])
    (fun _ _ ih1 ih2 i pl => ih1 (pl ++ [(i : Int)]) ++ ih2 (i + 1) pl) t
noncomputable def pmL (p : Tm) (l : List Tm) : Nat → List Int → List (List Int) :=
  Tm.rec_1 (motive_1 := fun _ => List Int → List (List Int)) (motive_2 := fun _ => Nat → List Int → List (List Int))
    (fun f l ih pl => if f < 0 then [] else (if (mt p ⟨f, l⟩ []).1 = true then [pl] else []) ++ ih 0 pl)
    (fun _ _ => [])
    (fun _ _ ih1 ih2 i pl => ih1 (pl ++ [(i : Int)]) ++ ih2 (i + 1) pl) l
theorem pm_eq (p t : Tm) (pl : List Int) : pm p t pl = if t.f < 0 then [] else (if (mt p t []).1 = true then [pl] else []) ++ pmL p t.l 0 pl := by cases t; rfl
theorem pmL_nil (p : Tm) (i : Nat) (pl : List Int) : pmL p [] i pl = [] := rfl
theorem pmL_cons (p t : Tm) (l : List Tm) (i : Nat) (pl : List Int) : pmL p (t :: l) i pl = pm p t (pl ++ [(i : Int)]) ++ pmL p l (i + 1) pl := rfl
theorem pmL_take {p t : Tm} : ∀ {l : List Tm} {k : Nat} (i : Nat) (pl : List Int), l[k]? = some t → pmL p (l.take (k + 1)) i pl = pmL p (l.take k) i pl ++ pm p t (pl ++ [((i + k : Nat) : Int)])
  | [], k, i, pl, h => by simp at h
  | x :: l, 0, i, pl, h => by simp at h; subst h; rw [List.take_succ_cons, pmL_cons, List.take_zero, List.take_zero, pmL_nil, pmL_nil]; simp
  | x :: l, k + 1, i, pl, h => by
    rw [List.take_succ_cons, List.take_succ_cons, pmL_cons, pmL_cons, pmL_take (i + 1) pl (by simpa using h), List.append_assoc, show i + 1 + k = i + (k + 1) by omega]
noncomputable abbrev plv (p : List Int) : CV := .lst (p.map CV.i)
theorem plv_size (l : List (List Int)) : ∀ c ∈ l.map plv, c.size = 1 := fun c hc => by
  obtain ⟨p, _, rfl⟩ := List.mem_map.1 hc
  rfl
end Go.Proofs.Ytgmllfjidhbjjab


namespace Go.Proofs.Ytgmllfjidhbjjab
open Go.RowKit
set_option linter.unusedVariables false
set_option linter.unusedSimpArgs false
set_option maxRecDepth 100000

theorem pmL_lenI {p : Tm} : ∀ (l : List Tm) (i : Nat) (pl : List Int), (∀ t ∈ l, ∀ pl, (pm p t pl).length ≤ t.flat.length) → (pmL p l i pl).length ≤ (l.flatMap Tm.flat).length
  | [], _, _, _ => by simp [pmL_nil]
  | t :: l, i, pl, h => by
    rw [pmL_cons, List.length_append, List.flatMap_cons, List.length_append]
    have h1 := h t (by simp) (pl ++ [(i : Int)])
    have h2 := pmL_lenI l (i + 1) pl fun s hs => h s (List.mem_cons_of_mem _ hs)
    omega
theorem pm_len (p t : Tm) : ∀ pl, (pm p t pl).length ≤ t.flat.length := by
  induction t using Tm.ind with
  | h f l ih =>
    intro pl
    rw [pm_eq]
    split
    · simp
    · rename_i hf
      have h1 := pmL_lenI l 0 pl ih
      rw [Tm.flat_eq, Tm.ps_of_sym (by show 0 ≤ f; have : ¬ f < 0 := hf; omega), List.length_cons, List.length_append]
      have : (if (mt p ⟨f, l⟩ []).1 = true then [pl] else []).length ≤ 1 := by split <;> simp
      show _ + (pmL p l 0 pl).length ≤ (l.flatMap Tm.flat).length + 1
      omega
theorem pmL_len (p : Tm) (l : List Tm) (i : Nat) (pl : List Int) : (pmL p l i pl).length ≤ (l.flatMap Tm.flat).length := pmL_lenI l i pl fun t _ => pm_len p t
theorem pm_sizes {f : Int} {l : List Tm} (hf : ¬ f < 0) {k : Nat} {x : Tm} (hx : l[k]? = some x) : 1 + ((l.take k).flatMap Tm.flat).length + x.size ≤ (Tm.mk f l).size := by
  have h1 : (Tm.mk f l).size = 1 + (l.flatMap Tm.flat).length := by rw [Tm.size_eq, Tm.ps_of_sym (by show 0 ≤ f; omega)]
  have h2 : (l.flatMap Tm.flat).length = ((l.take k).flatMap Tm.flat).length + ((l.drop k).flatMap Tm.flat).length := by
    conv => lhs; rw [← List.take_append_drop k l]
    rw [List.flatMap_append, List.length_append]
  have h3 : x.flat.length ≤ ((l.drop k).flatMap Tm.flat).length := flatMap_len_mem Tm.flat (List.mem_of_getElem? (i := 0) (by rw [List.getElem?_drop]; simpa using hx))
  have h4 : x.flat.length = x.size := rfl
  omega
theorem hUno9 {U : UX} {pre : List Nat} (hU : ∀ k v, U.f k = some v → hasN pre k = true) {n : Nat} (h : hasN pre n = false) : U.f n = none := by
  cases e : U.f n with
  | none => rfl
  | some v => rw [hU n v e] at h; cases h
-- 
set_option maxHeartbeats 8000000 in
theorem addParts_abs (p : Tm) (hpr : p.rng) (hpo : p.ok) (hpv : p.vs.length ≤ 65) : ∀ t : Tm, t.rng → t.ok → ∀ (Ls : List (List Int)) (pl : List Int), Ls.length + t.size ≤ 1000000 → pl.length + t.size ≤ 1000000 → AFunO Try.prog 34 [(300001, .mrow 29 1 ((Ls).map plv)), (400002, .mrow 3 1 ((pl).map CV.i))] [.sl 300001 0 (Ls).length 1, .sl 400002 0 (pl).length 1, .val p.cw, .val (t).cw] (.sl 300001 0 (Ls ++ pm p t pl).length 1) [(300001, .mrow 29 1 ((Ls ++ pm p t pl).map plv)), (400002, .mrow 3 1 ((pl).map CV.i))] ∧ AFunO Try.prog 34 [(300001, .mrow 29 1 ((Ls).map plv)), (400003, .mrow 3 1 ((pl).map CV.i))] [.sl 300001 0 (Ls).length 1, .sl 400003 0 (pl).length 1, .val p.cw, .val (t).cw] (.sl 300001 0 (Ls ++ pm p t pl).length 1) [(300001, .mrow 29 1 ((Ls ++ pm p t pl).map plv)), (400003, .mrow 3 1 ((pl).map CV.i))] := by
  intro t
  induction t using Tm.ind with
  | h f l ih =>
  intro hr hok Ls pl hb1 hb2
  have hr' := (Tm.rng_iff _).1 hr
  have hok' := (Tm.ok_iff _).1 hok
  simp only at hr' hok'
  have hsz := Tm.size_all l
  constructor
  · refine afunO_of Try.func34 Try.ntmps34 rfl rfl rfl rfl rfl rfl ?_
    intro w U hU
    have hfY : U.f 400003 = none := hUno9 hU (by kernel_rfl)
    refine awp_seq (awp_region ?_)
    (refine ⟨_, _, _, a_box (gd_none rfl) rfl rfl rfl rfl rfl, (by first | rfl | kernel_rfl), ?_⟩)
    (refine ⟨_, _, _, a_box (gd_none rfl) rfl rfl rfl rfl rfl, (by first | rfl | kernel_rfl), ?_⟩)
    (refine ⟨_, _, _, a_assign (gd_none rfl) rfl rfl rfl rfl rfl, (by first | rfl | kernel_rfl), ?_⟩)
    show AWp _ _ _ _ _ _ _
    refine awp_seq (awp_seq (awp_region ?_))
    (first | (refine ⟨_, _, _, a_load_all (gd_none rfl) rfl rfl rfl rfl rfl rfl rfl rfl rfl rfl rfl rfl, (by first | rfl | kernel_rfl), ?_⟩) | (refine ⟨_, _, _, a_load_tok (gd_none rfl) rfl rfl rfl rfl rfl rfl rfl rfl rfl rfl rfl rfl rfl, (by first | rfl | kernel_rfl), ?_⟩) | (refine ⟨_, _, _, a_load_bp (gd_none rfl) rfl rfl rfl rfl rfl rfl rfl rfl rfl rfl rfl rfl, (by first | rfl | kernel_rfl), ?_⟩) | (refine ⟨_, _, _, a_load_ad (gd_none rfl) rfl rfl rfl rfl rfl rfl rfl rfl rfl, (by first | rfl | kernel_rfl), ?_⟩) | (refine ⟨_, _, _, a_load_ptr (gd_none rfl) rfl rfl rfl rfl rfl rfl rfl rfl rfl, (by first | rfl | kernel_rfl), ?_⟩) | (refine ⟨_, _, _, a_load_fld (gd_none rfl) rfl rfl rfl rfl rfl rfl rfl rfl rfl rfl rfl rfl rfl, (by first | rfl | kernel_rfl), ?_⟩) | (refine ⟨_, _, _, a_load_fullv (gd_none rfl) rfl rfl rfl rfl rfl rfl rfl rfl rfl, (by first | rfl | kernel_rfl), ?_⟩))
    (refine ⟨_, _, _, a_call (gd_none rfl) rfl rfl rfl rfl rfl (mIsVar_abs w ⟨f, l⟩), (by first | rfl | kernel_rfl), ?_⟩)
    show AWp _ _ _ _ _ _ _
    refine awp_cond rfl (fun hc => ?_) (fun hc => ?_)
    · have hf : f < 0 := by simpa using hc
      rw [pm_eq, if_pos hf, List.append_nil]
      refine awp_seq (awp_region ?_)
      (refine ⟨_, _, _, a_move (gd_none rfl) rfl rfl rfl rfl rfl, (by first | rfl | kernel_rfl), ?_⟩)
      (refine ⟨_, _, _, a_assign (gd_none rfl) rfl rfl rfl rfl rfl, (by first | rfl | kernel_rfl), ?_⟩)
      show AWp _ _ _ _ _ _ _
      exact awp_ret ⟨.inr rfl, _, Wk.refl _, rfl, rfl, rfl, trivial⟩
    have hf : ¬ f < 0 := by simpa using hc
    rw [pm_eq, if_neg hf]
    refine awp_skip ?_
    show AWp _ _ _ _ _ _ _
    have his := mIs_abs w p ⟨f, l⟩ hpr hpo hr hpv
    obtain ⟨L0, hL0⟩ : ∃ L0, L0 = Ls ++ (if (mt p ⟨f, l⟩ []).1 = true then [pl] else []) := ⟨_, rfl⟩
    rw [← List.append_assoc, ← hL0]
    have hL0l : L0.length ≤ Ls.length + 1 := by rw [hL0]; split <;> simp
    refine awp_mid ((0, AV.sl 300001 0 (L0).length 1) :: (1, .sl 400002 0 pl.length 1) :: (6, .bp 6 0 []) :: (100006, .bx p.cw) :: (7, .bp 7 0 []) :: (100007, .bx (Tm.cw ⟨f, l⟩)) :: (300001, .mrow 29 1 ((L0).map plv)) :: (400002, .mrow 3 1 (pl.map CV.i)) :: []) ?_ ?_
    · refine awp_seq (awp_region ?_)
      (first | (refine ⟨_, _, _, a_load_all (gd_none rfl) rfl rfl rfl rfl rfl rfl rfl rfl rfl rfl rfl rfl, (by first | rfl | kernel_rfl), ?_⟩) | (refine ⟨_, _, _, a_load_tok (gd_none rfl) rfl rfl rfl rfl rfl rfl rfl rfl rfl rfl rfl rfl rfl, (by first | rfl | kernel_rfl), ?_⟩) | (refine ⟨_, _, _, a_load_bp (gd_none rfl) rfl rfl rfl rfl rfl rfl rfl rfl rfl rfl rfl rfl, (by first | rfl | kernel_rfl), ?_⟩) | (refine ⟨_, _, _, a_load_ad (gd_none rfl) rfl rfl rfl rfl rfl rfl rfl rfl rfl, (by first | rfl | kernel_rfl), ?_⟩) | (refine ⟨_, _, _, a_load_ptr (gd_none rfl) rfl rfl rfl rfl rfl rfl rfl rfl rfl, (by first | rfl | kernel_rfl), ?_⟩) | (refine ⟨_, _, _, a_load_fld (gd_none rfl) rfl rfl rfl rfl rfl rfl rfl rfl rfl rfl rfl rfl rfl, (by first | rfl | kernel_rfl), ?_⟩) | (refine ⟨_, _, _, a_load_fullv (gd_none rfl) rfl rfl rfl rfl rfl rfl rfl rfl rfl, (by first | rfl | kernel_rfl), ?_⟩))
      (first | (refine ⟨_, _, _, a_load_all (gd_none rfl) rfl rfl rfl rfl rfl rfl rfl rfl rfl rfl rfl rfl, (by first | rfl | kernel_rfl), ?_⟩) | (refine ⟨_, _, _, a_load_tok (gd_none rfl) rfl rfl rfl rfl rfl rfl rfl rfl rfl rfl rfl rfl rfl, (by first | rfl | kernel_rfl), ?_⟩) | (refine ⟨_, _, _, a_load_bp (gd_none rfl) rfl rfl rfl rfl rfl rfl rfl rfl rfl rfl rfl rfl, (by first | rfl | kernel_rfl), ?_⟩) | (refine ⟨_, _, _, a_load_ad (gd_none rfl) rfl rfl rfl rfl rfl rfl rfl rfl rfl, (by first | rfl | kernel_rfl), ?_⟩) | (refine ⟨_, _, _, a_load_ptr (gd_none rfl) rfl rfl rfl rfl rfl rfl rfl rfl rfl, (by first | rfl | kernel_rfl), ?_⟩) | (refine ⟨_, _, _, a_load_fld (gd_none rfl) rfl rfl rfl rfl rfl rfl rfl rfl rfl rfl rfl rfl rfl, (by first | rfl | kernel_rfl), ?_⟩) | (refine ⟨_, _, _, a_load_fullv (gd_none rfl) rfl rfl rfl rfl rfl rfl rfl rfl rfl, (by first | rfl | kernel_rfl), ?_⟩))
      (refine ⟨_, _, _, a_call (gd_none rfl) rfl rfl rfl rfl rfl (his), (by first | rfl | kernel_rfl), ?_⟩)
      show AWp _ _ _ _ _ _ _
      cases hm : (mt p ⟨f, l⟩ []).1 with
      | false =>
        rw [hm, if_neg (by simp), List.append_nil] at hL0
        rw [hL0]
        refine awp_cond rfl (fun hc => by cases hc) (fun hc => awp_skip ?_)
        exact wk_sub ⟨rfl, rfl, rfl, rfl, rfl, rfl, rfl, rfl, trivial⟩
      | true =>
        rw [hm, if_pos rfl] at hL0
        have hlp := plv_size Ls
        have hlm : (Ls.map plv).length = Ls.length := List.length_map ..
        refine awp_cond rfl (fun hc => ?_) (fun hc => by cases hc)
        refine awp_region ?_
        (refine ⟨_, _, _, a_move (gd_none rfl) rfl rfl rfl rfl rfl, (by first | rfl | kernel_rfl), ?_⟩)
        (refine ⟨_, _, _, a_move (gd_none rfl) rfl rfl rfl rfl rfl, (by first | rfl | kernel_rfl), ?_⟩)
        (refine ⟨_, _, _, a_callO (gd_none rfl) rfl rfl rfl rfl rfl (clInt400002_abs pl (by omega)) (by repeat (first | exact trivial | refine ⟨rfl, ?_⟩)) (by first | rfl | kernel_rfl) (by first | rfl | kernel_rfl) (by first | rfl | kernel_rfl) (by first | rfl | kernel_rfl) (hnb_of (by first | rfl | kernel_rfl)), (by first | rfl | kernel_rfl), ?_⟩)
        (refine ⟨_, _, _, a_bslice (gd_none rfl) rfl rfl rfl rfl rfl rfl rfl rfl rfl rfl rfl rfl rfl, (by first | rfl | kernel_rfl), ?_⟩)
        (refine ⟨_, _, _, a_appM 300021 (gd_none rfl) rfl rfl rfl rfl rfl rfl rfl rfl rfl rfl rfl rfl rfl (by first | rfl | omega | (simp only [List.length_set, List.length_map, List.length_append, List.length_cons, List.length_nil] <;> omega) | (simp <;> omega)) (by first | assumption | exact szAll_spec rfl | exact Tm.size_all _ | exact Bd.size_all _ | exact ints_size _) (by first | omega | (simp only [List.length_map, List.length_append, List.length_cons, List.length_nil] <;> omega) | (simp <;> omega)), (by first | rfl | kernel_rfl), ?_⟩)
        (refine ⟨_, _, _, a_assign (gd_none rfl) rfl rfl rfl rfl rfl, (by first | rfl | kernel_rfl), ?_⟩)
        refine (wk_sub (s' := (0, AV.sl 300021 0 L0.length 1) :: (1, .sl 400002 0 pl.length 1) :: (6, .bp 6 0 []) :: (100006, .bx p.cw) :: (7, .bp 7 0 []) :: (100007, .bx (Tm.cw ⟨f, l⟩)) :: (300021, .mrow 29 1 (L0.map plv)) :: (400002, .mrow 3 1 (pl.map CV.i)) :: []) ⟨?_, rfl, rfl, rfl, rfl, rfl, ?_, rfl, trivial⟩).trans (wk_ren 300021 300001 rfl rfl (by kernel_rfl) (by kernel_rfl))
        · rw [hL0, List.length_append, ← hlm]; rfl
        · rw [hL0, List.map_append]; rfl
    refine awp_seq (awp_seq (awp_region ?_))
    (first | (refine ⟨_, _, _, a_field_bp (gd_none rfl) rfl rfl rfl rfl rfl rfl rfl rfl rfl, (by first | rfl | kernel_rfl), ?_⟩) | (refine ⟨_, _, _, a_field_ad (gd_none rfl) rfl rfl rfl rfl rfl rfl rfl rfl rfl rfl rfl, (by first | rfl | kernel_rfl), ?_⟩) | (refine ⟨_, _, _, a_fieldM (gd_none rfl) rfl rfl rfl rfl rfl rfl rfl rfl rfl, (by first | rfl | kernel_rfl), ?_⟩))
    (first | (refine ⟨_, _, _, a_load_all (gd_none rfl) rfl rfl rfl rfl rfl rfl rfl rfl rfl rfl rfl rfl, (by first | rfl | kernel_rfl), ?_⟩) | (refine ⟨_, _, _, a_load_tok (gd_none rfl) rfl rfl rfl rfl rfl rfl rfl rfl rfl rfl rfl rfl rfl, (by first | rfl | kernel_rfl), ?_⟩) | (refine ⟨_, _, _, a_load_bp (gd_none rfl) rfl rfl rfl rfl rfl rfl rfl rfl rfl rfl rfl rfl, (by first | rfl | kernel_rfl), ?_⟩) | (refine ⟨_, _, _, a_load_ad (gd_none rfl) rfl rfl rfl rfl rfl rfl rfl rfl rfl, (by first | rfl | kernel_rfl), ?_⟩) | (refine ⟨_, _, _, a_load_ptr (gd_none rfl) rfl rfl rfl rfl rfl rfl rfl rfl rfl, (by first | rfl | kernel_rfl), ?_⟩) | (refine ⟨_, _, _, a_load_fld (gd_none rfl) rfl rfl rfl rfl rfl rfl rfl rfl rfl rfl rfl rfl rfl, (by first | rfl | kernel_rfl), ?_⟩) | (refine ⟨_, _, _, a_load_fullv (gd_none rfl) rfl rfl rfl rfl rfl rfl rfl rfl rfl, (by first | rfl | kernel_rfl), ?_⟩))
    (first | (refine ⟨_, _, _, a_len (gd_none rfl) rfl rfl rfl rfl rfl rfl rfl, (by first | rfl | kernel_rfl), ?_⟩) | (refine ⟨_, _, _, a_lenM (gd_none rfl) rfl rfl rfl rfl rfl rfl rfl, (by first | rfl | kernel_rfl), ?_⟩))
    (refine ⟨_, _, _, a_move (gd_none rfl) rfl rfl rfl rfl rfl, (by first | rfl | kernel_rfl), ?_⟩)
    show AWp _ _ _ _ _ _ _
    refine awp_block (awp_count l.length (fun k => (0, AV.sl 300001 0 (L0 ++ pmL p (l.take k) 0 pl).length 1) :: (1, .sl 400002 0 pl.length 1) :: (6, .bp 6 0 []) :: (100006, .bx p.cw) :: (7, .bp 7 0 []) :: (100007, .bx (Tm.cw ⟨f, l⟩)) :: (23, .val (.lst (l.map Tm.cv))) :: (24, .val (.i (l.map Tm.cv).length)) :: (25, .val (.i (k))) :: (300001, .mrow 29 1 ((L0 ++ pmL p (l.take k) 0 pl).map plv)) :: (400002, .mrow 3 1 (pl.map CV.i)) :: []) (wk_sub ⟨?_, rfl, rfl, rfl, rfl, rfl, rfl, rfl, rfl, ?_, rfl, trivial⟩) ?_)
    · rw [List.take_zero, pmL_nil, List.append_nil]; rfl
    · rw [List.take_zero, pmL_nil, List.append_nil]; rfl
    intro k hk
    refine awp_seq (awp_region ?_)
    (refine ⟨_, _, _, a_lss (gd_none rfl) rfl rfl rfl rfl rfl rfl, (by first | rfl | kernel_rfl), ?_⟩)
    show AWp _ _ _ _ _ _ _
    refine awp_seq (awp_cond rfl (fun hlt => ?_) (fun hlt => ?_))
    · have hkl : k < l.length := by simpa using hlt
      obtain ⟨x, hx⟩ : ∃ x, l[k]? = some x := ⟨l[k], List.getElem?_eq_getElem hkl⟩
      have hx' := Tm.map_at hx
      have hxm := List.mem_of_getElem? hx
      obtain ⟨Lk, hLk⟩ : ∃ Lk, Lk = L0 ++ pmL p (l.take k) 0 pl := ⟨_, rfl⟩
      have hstep : L0 ++ pmL p (l.take (k + 1)) 0 pl = Lk ++ pm p x (pl ++ [(k : Int)]) := by rw [pmL_take 0 pl hx, ← List.append_assoc, ← hLk, Nat.zero_add]
      have hszs := pm_sizes hf hx
      have hpk := pmL_len p (l.take k) 0 pl
      have hLkl : Lk.length ≤ L0.length + ((l.take k).flatMap Tm.flat).length := by rw [hLk, List.length_append]; omega
      have hcall := (ih x hxm (hr'.2 x hxm) (hok'.2 x hxm) Lk (pl ++ [(k : Int)]) (by omega) (by rw [List.length_append]; simp only [List.length_cons, List.length_nil]; omega)).2
      have hpe : (pl ++ [(k : Int)]).length = (pl.map CV.i).length + [CV.i (k : Int)].length := by simp
      rw [hpe, List.map_append] at hcall
      have hlm : (pl.map CV.i).length = pl.length := List.length_map ..
      rw [← hLk]
      refine awp_skip ?_
      show AWp _ _ _ _ _ _ _
      refine awp_seq (awp_block (awp_seq (awp_region ?_)))
      (refine ⟨_, _, _, a_move (gd_none rfl) rfl rfl rfl rfl rfl, (by first | rfl | kernel_rfl), ?_⟩)
      (refine ⟨_, _, _, a_index (j := k) (gd_none rfl) rfl rfl rfl rfl rfl rfl rfl rfl rfl (hx') rfl (hsz), (by first | rfl | kernel_rfl), ?_⟩)
      (first | (refine ⟨_, _, _, a_load_all (gd_none rfl) rfl rfl rfl rfl rfl rfl rfl rfl rfl rfl rfl rfl, (by first | rfl | kernel_rfl), ?_⟩) | (refine ⟨_, _, _, a_load_tok (gd_none rfl) rfl rfl rfl rfl rfl rfl rfl rfl rfl rfl rfl rfl rfl, (by first | rfl | kernel_rfl), ?_⟩) | (refine ⟨_, _, _, a_load_bp (gd_none rfl) rfl rfl rfl rfl rfl rfl rfl rfl rfl rfl rfl rfl, (by first | rfl | kernel_rfl), ?_⟩) | (refine ⟨_, _, _, a_load_ad (gd_none rfl) rfl rfl rfl rfl rfl rfl rfl rfl rfl, (by first | rfl | kernel_rfl), ?_⟩) | (refine ⟨_, _, _, a_load_ptr (gd_none rfl) rfl rfl rfl rfl rfl rfl rfl rfl rfl, (by first | rfl | kernel_rfl), ?_⟩) | (refine ⟨_, _, _, a_load_fld (gd_none rfl) rfl rfl rfl rfl rfl rfl rfl rfl rfl rfl rfl rfl rfl, (by first | rfl | kernel_rfl), ?_⟩) | (refine ⟨_, _, _, a_load_fullv (gd_none rfl) rfl rfl rfl rfl rfl rfl rfl rfl rfl, (by first | rfl | kernel_rfl), ?_⟩))
      (refine ⟨_, _, _, a_alloc (gd_none rfl) rfl rfl rfl rfl rfl rfl rfl rfl rfl rfl, (by first | rfl | kernel_rfl), ?_⟩)
      (refine ⟨_, _, _, a_assign (gd_none rfl) rfl rfl rfl rfl rfl, (by first | rfl | kernel_rfl), ?_⟩)
      (first | (refine ⟨_, _, _, a_store_all (gd_none rfl) rfl rfl rfl rfl rfl rfl rfl rfl rfl rfl, (by first | rfl | kernel_rfl), ?_⟩) | (refine ⟨_, _, _, a_store (gd_none rfl) rfl rfl rfl rfl rfl rfl rfl rfl rfl rfl, (by first | rfl | kernel_rfl), ?_⟩) | (refine ⟨_, _, _, a_store_fld (gd_none rfl) rfl rfl rfl rfl rfl rfl rfl rfl rfl rfl rfl rfl, (by first | rfl | kernel_rfl), ?_⟩))
      show AWp _ _ _ _ _ _ _
      refine AWp.handle 4 400002 rfl rfl rfl rfl fun ao cap hcap hao => ?_
      rcases Nat.lt_or_ge (pl.map CV.i).length cap with hroom | hroom
      · refine awp_draw (by kernel_rfl) (by kernel_rfl) ?_
        (refine ⟨_, _, _, a_move (gd_none rfl) rfl rfl rfl rfl rfl, (by first | rfl | kernel_rfl), ?_⟩)
        (refine ⟨_, _, _, a_move (gd_none rfl) rfl rfl rfl rfl rfl, (by first | rfl | kernel_rfl), ?_⟩)
        (refine ⟨_, _, _, a_move (gd_none rfl) rfl rfl rfl rfl rfl, (by first | rfl | kernel_rfl), ?_⟩)
        (refine ⟨_, _, _, a_bslice (gd_none rfl) rfl rfl rfl rfl rfl rfl rfl rfl rfl rfl rfl rfl rfl, (by first | rfl | kernel_rfl), ?_⟩)
        (refine ⟨_, _, _, a_appR 400003 4 5 (gd_none rfl) rfl rfl rfl rfl rfl rfl rfl rfl rfl rfl rfl rfl rfl (hfY) (by first | rfl | omega | (simp only [List.length_set, List.length_map, List.length_append, List.length_cons, List.length_nil] <;> omega) | (simp <;> omega)) (by first | assumption | exact szAll_spec rfl | exact Tm.size_all _ | exact Bd.size_all _ | exact ints_size _) (by simp) (hroom), (by first | rfl | kernel_rfl), ?_⟩)
        (first | (refine ⟨_, _, _, a_load_all (gd_none rfl) rfl rfl rfl rfl rfl rfl rfl rfl rfl rfl rfl rfl, (by first | rfl | kernel_rfl), ?_⟩) | (refine ⟨_, _, _, a_load_tok (gd_none rfl) rfl rfl rfl rfl rfl rfl rfl rfl rfl rfl rfl rfl rfl, (by first | rfl | kernel_rfl), ?_⟩) | (refine ⟨_, _, _, a_load_bp (gd_none rfl) rfl rfl rfl rfl rfl rfl rfl rfl rfl rfl rfl rfl, (by first | rfl | kernel_rfl), ?_⟩) | (refine ⟨_, _, _, a_load_ad (gd_none rfl) rfl rfl rfl rfl rfl rfl rfl rfl rfl, (by first | rfl | kernel_rfl), ?_⟩) | (refine ⟨_, _, _, a_load_ptr (gd_none rfl) rfl rfl rfl rfl rfl rfl rfl rfl rfl, (by first | rfl | kernel_rfl), ?_⟩) | (refine ⟨_, _, _, a_load_fld (gd_none rfl) rfl rfl rfl rfl rfl rfl rfl rfl rfl rfl rfl rfl rfl, (by first | rfl | kernel_rfl), ?_⟩) | (refine ⟨_, _, _, a_load_fullv (gd_none rfl) rfl rfl rfl rfl rfl rfl rfl rfl rfl, (by first | rfl | kernel_rfl), ?_⟩))
        (first | (refine ⟨_, _, _, a_load_all (gd_none rfl) rfl rfl rfl rfl rfl rfl rfl rfl rfl rfl rfl rfl, (by first | rfl | kernel_rfl), ?_⟩) | (refine ⟨_, _, _, a_load_tok (gd_none rfl) rfl rfl rfl rfl rfl rfl rfl rfl rfl rfl rfl rfl rfl, (by first | rfl | kernel_rfl), ?_⟩) | (refine ⟨_, _, _, a_load_bp (gd_none rfl) rfl rfl rfl rfl rfl rfl rfl rfl rfl rfl rfl rfl, (by first | rfl | kernel_rfl), ?_⟩) | (refine ⟨_, _, _, a_load_ad (gd_none rfl) rfl rfl rfl rfl rfl rfl rfl rfl rfl, (by first | rfl | kernel_rfl), ?_⟩) | (refine ⟨_, _, _, a_load_ptr (gd_none rfl) rfl rfl rfl rfl rfl rfl rfl rfl rfl, (by first | rfl | kernel_rfl), ?_⟩) | (refine ⟨_, _, _, a_load_fld (gd_none rfl) rfl rfl rfl rfl rfl rfl rfl rfl rfl rfl rfl rfl rfl, (by first | rfl | kernel_rfl), ?_⟩) | (refine ⟨_, _, _, a_load_fullv (gd_none rfl) rfl rfl rfl rfl rfl rfl rfl rfl rfl, (by first | rfl | kernel_rfl), ?_⟩))
        (refine ⟨_, _, _, a_callOD ([0, 30]) (gd_none rfl) rfl rfl rfl rfl rfl (hcall) (by repeat (first | exact trivial | refine ⟨rfl, ?_⟩)) (by first | rfl | kernel_rfl) (by first | rfl | kernel_rfl) (by first | rfl | kernel_rfl) (by first | rfl | kernel_rfl) (hnb_of (by first | rfl | kernel_rfl)) (by first | rfl | kernel_rfl) (by first | rfl | kernel_rfl) (by first | rfl | kernel_rfl), (by first | rfl | kernel_rfl), ?_⟩)
        (refine ⟨_, _, _, a_assign (gd_none rfl) rfl rfl rfl rfl rfl, (by first | rfl | kernel_rfl), ?_⟩)
        refine ⟨by kernel_rfl, ?_⟩
        show AWp _ _ _ _ _ _ _
        refine AWp.wk (wk_again 400002 400003 4 5 (pl.map CV.i).length rfl rfl rfl rfl rfl rfl rfl (by simp)) ?_
        refine awp_region ?_
        (refine ⟨_, _, _, a_add (gd_none rfl) rfl rfl rfl rfl rfl rfl (by first | omega | (simp only [List.length_map, List.length_append, List.length_cons, List.length_nil] <;> omega) | (simp <;> omega)), (by first | rfl | kernel_rfl), ?_⟩)
        (refine ⟨_, _, _, a_move (gd_none rfl) rfl rfl rfl rfl rfl, (by first | rfl | kernel_rfl), ?_⟩)
        refine ⟨hkl, ?_⟩
        show Wk _ _ _ _ ((0, AV.sl 300001 0 (L0 ++ pmL p (l.take (k + 1)) 0 pl).length 1) :: (1, .sl 400002 0 pl.length 1) :: (6, .bp 6 0 []) :: (100006, .bx p.cw) :: (7, .bp 7 0 []) :: (100007, .bx (Tm.cw ⟨f, l⟩)) :: (23, .val (.lst (l.map Tm.cv))) :: (24, .val (.i (l.map Tm.cv).length)) :: (25, .val (.i (((k + 1 : Nat) : Int)))) :: (300001, .mrow 29 1 ((L0 ++ pmL p (l.take (k + 1)) 0 pl).map plv)) :: (400002, .mrow 3 1 (pl.map CV.i)) :: [])
        rw [hstep]
        refine wk_sub ⟨rfl, rfl, rfl, rfl, rfl, rfl, rfl, rfl, rfl, rfl, ?_, trivial⟩
        show some (AV.mrow 3 1 ((pl.map CV.i ++ [CV.i (k : Int)]).take (pl.map CV.i).length)) = _
        rw [List.take_left' rfl]
      · have hce : cap = (pl.map CV.i).length := by omega
        subst hce
        refine awp_draw (by kernel_rfl) (by kernel_rfl) ?_
        (refine ⟨_, _, _, a_move (gd_none rfl) rfl rfl rfl rfl rfl, (by first | rfl | kernel_rfl), ?_⟩)
        (refine ⟨_, _, _, a_move (gd_none rfl) rfl rfl rfl rfl rfl, (by first | rfl | kernel_rfl), ?_⟩)
        (refine ⟨_, _, _, a_move (gd_none rfl) rfl rfl rfl rfl rfl, (by first | rfl | kernel_rfl), ?_⟩)
        (refine ⟨_, _, _, a_bslice (gd_none rfl) rfl rfl rfl rfl rfl rfl rfl rfl rfl rfl rfl rfl rfl, (by first | rfl | kernel_rfl), ?_⟩)
        (refine ⟨_, _, _, a_appX 400003 4 (gd_none rfl) rfl rfl rfl rfl rfl rfl rfl rfl rfl rfl rfl rfl rfl rfl (hfY) (by first | rfl | omega | (simp only [List.length_set, List.length_map, List.length_append, List.length_cons, List.length_nil] <;> omega) | (simp <;> omega)) (by first | assumption | exact szAll_spec rfl | exact Tm.size_all _ | exact Bd.size_all _ | exact ints_size _) (by simp) (by first | omega | (simp only [List.length_map, List.length_append, List.length_cons, List.length_nil] <;> omega) | (simp <;> omega)), (by first | rfl | kernel_rfl), ?_⟩)
        (first | (refine ⟨_, _, _, a_load_all (gd_none rfl) rfl rfl rfl rfl rfl rfl rfl rfl rfl rfl rfl rfl, (by first | rfl | kernel_rfl), ?_⟩) | (refine ⟨_, _, _, a_load_tok (gd_none rfl) rfl rfl rfl rfl rfl rfl rfl rfl rfl rfl rfl rfl rfl, (by first | rfl | kernel_rfl), ?_⟩) | (refine ⟨_, _, _, a_load_bp (gd_none rfl) rfl rfl rfl rfl rfl rfl rfl rfl rfl rfl rfl rfl, (by first | rfl | kernel_rfl), ?_⟩) | (refine ⟨_, _, _, a_load_ad (gd_none rfl) rfl rfl rfl rfl rfl rfl rfl rfl rfl, (by first | rfl | kernel_rfl), ?_⟩) | (refine ⟨_, _, _, a_load_ptr (gd_none rfl) rfl rfl rfl rfl rfl rfl rfl rfl rfl, (by first | rfl | kernel_rfl), ?_⟩) | (refine ⟨_, _, _, a_load_fld (gd_none rfl) rfl rfl rfl rfl rfl rfl rfl rfl rfl rfl rfl rfl rfl, (by first | rfl | kernel_rfl), ?_⟩) | (refine ⟨_, _, _, a_load_fullv (gd_none rfl) rfl rfl rfl rfl rfl rfl rfl rfl rfl, (by first | rfl | kernel_rfl), ?_⟩))
        (first | (refine ⟨_, _, _, a_load_all (gd_none rfl) rfl rfl rfl rfl rfl rfl rfl rfl rfl rfl rfl rfl, (by first | rfl | kernel_rfl), ?_⟩) | (refine ⟨_, _, _, a_load_tok (gd_none rfl) rfl rfl rfl rfl rfl rfl rfl rfl rfl rfl rfl rfl rfl, (by first | rfl | kernel_rfl), ?_⟩) | (refine ⟨_, _, _, a_load_bp (gd_none rfl) rfl rfl rfl rfl rfl rfl rfl rfl rfl rfl rfl rfl, (by first | rfl | kernel_rfl), ?_⟩) | (refine ⟨_, _, _, a_load_ad (gd_none rfl) rfl rfl rfl rfl rfl rfl rfl rfl rfl, (by first | rfl | kernel_rfl), ?_⟩) | (refine ⟨_, _, _, a_load_ptr (gd_none rfl) rfl rfl rfl rfl rfl rfl rfl rfl rfl, (by first | rfl | kernel_rfl), ?_⟩) | (refine ⟨_, _, _, a_load_fld (gd_none rfl) rfl rfl rfl rfl rfl rfl rfl rfl rfl rfl rfl rfl rfl, (by first | rfl | kernel_rfl), ?_⟩) | (refine ⟨_, _, _, a_load_fullv (gd_none rfl) rfl rfl rfl rfl rfl rfl rfl rfl rfl, (by first | rfl | kernel_rfl), ?_⟩))
        (refine ⟨_, _, _, a_callOD ([0, 30]) (gd_none rfl) rfl rfl rfl rfl rfl (hcall) (by repeat (first | exact trivial | refine ⟨rfl, ?_⟩)) (by first | rfl | kernel_rfl) (by first | rfl | kernel_rfl) (by first | rfl | kernel_rfl) (by first | rfl | kernel_rfl) (hnb_of (by first | rfl | kernel_rfl)) (by first | rfl | kernel_rfl) (by first | rfl | kernel_rfl) (by first | rfl | kernel_rfl), (by first | rfl | kernel_rfl), ?_⟩)
        (refine ⟨_, _, _, a_assign (gd_none rfl) rfl rfl rfl rfl rfl, (by first | rfl | kernel_rfl), ?_⟩)
        refine ⟨by kernel_rfl, ?_⟩
        show AWp _ _ _ _ _ _ _
        refine awp_region ?_
        (refine ⟨_, _, _, a_add (gd_none rfl) rfl rfl rfl rfl rfl rfl (by first | omega | (simp only [List.length_map, List.length_append, List.length_cons, List.length_nil] <;> omega) | (simp <;> omega)), (by first | rfl | kernel_rfl), ?_⟩)
        (refine ⟨_, _, _, a_move (gd_none rfl) rfl rfl rfl rfl rfl, (by first | rfl | kernel_rfl), ?_⟩)
        refine ⟨hkl, ?_⟩
        show Wk _ _ _ _ ((0, AV.sl 300001 0 (L0 ++ pmL p (l.take (k + 1)) 0 pl).length 1) :: (1, .sl 400002 0 pl.length 1) :: (6, .bp 6 0 []) :: (100006, .bx p.cw) :: (7, .bp 7 0 []) :: (100007, .bx (Tm.cw ⟨f, l⟩)) :: (23, .val (.lst (l.map Tm.cv))) :: (24, .val (.i (l.map Tm.cv).length)) :: (25, .val (.i (((k + 1 : Nat) : Int)))) :: (300001, .mrow 29 1 ((L0 ++ pmL p (l.take (k + 1)) 0 pl).map plv)) :: (400002, .mrow 3 1 (pl.map CV.i)) :: [])
        rw [hstep]
        exact wk_sub ⟨rfl, rfl, rfl, rfl, rfl, rfl, rfl, rfl, rfl, rfl, rfl, trivial⟩
    · have hkl : k = l.length := by
        have : ¬ k < l.length := by simpa using hlt
        omega
      subst hkl
      rw [List.take_length]
      refine awp_exit ?_
      show AWp _ _ _ _ _ _ _
      refine awp_seq (awp_region ?_)
      (refine ⟨_, _, _, a_move (gd_none rfl) rfl rfl rfl rfl rfl, (by first | rfl | kernel_rfl), ?_⟩)
      (refine ⟨_, _, _, a_assign (gd_none rfl) rfl rfl rfl rfl rfl, (by first | rfl | kernel_rfl), ?_⟩)
      show AWp _ _ _ _ _ _ _
      exact awp_ret ⟨.inr rfl, _, Wk.refl _, rfl, rfl, rfl, trivial⟩
  · refine afunO_of Try.func34 Try.ntmps34 rfl rfl rfl rfl rfl rfl ?_
    intro w U hU
    have hfY : U.f 400002 = none := hUno9 hU (by kernel_rfl)
    refine awp_seq (awp_region ?_)
    (refine ⟨_, _, _, a_box (gd_none rfl) rfl rfl rfl rfl rfl, (by first | rfl | kernel_rfl), ?_⟩)
    (refine ⟨_, _, _, a_box (gd_none rfl) rfl rfl rfl rfl rfl, (by first | rfl | kernel_rfl), ?_⟩)
    (refine ⟨_, _, _, a_assign (gd_none rfl) rfl rfl rfl rfl rfl, (by first | rfl | kernel_rfl), ?_⟩)
    show AWp _ _ _ _ _ _ _
    refine awp_seq (awp_seq (awp_region ?_))
    (first | (refine ⟨_, _, _, a_load_all (gd_none rfl) rfl rfl rfl rfl rfl rfl rfl rfl rfl rfl rfl rfl, (by first | rfl | kernel_rfl), ?_⟩) | (refine ⟨_, _, _, a_load_tok (gd_none rfl) rfl rfl rfl rfl rfl rfl rfl rfl rfl rfl rfl rfl rfl, (by first | rfl | kernel_rfl), ?_⟩) | (refine ⟨_, _, _, a_load_bp (gd_none rfl) rfl rfl rfl rfl rfl rfl rfl rfl rfl rfl rfl rfl, (by first | rfl | kernel_rfl), ?_⟩) | (refine ⟨_, _, _, a_load_ad (gd_none rfl) rfl rfl rfl rfl rfl rfl rfl rfl rfl, (by first | rfl | kernel_rfl), ?_⟩) | (refine ⟨_, _, _, a_load_ptr (gd_none rfl) rfl rfl rfl rfl rfl rfl rfl rfl rfl, (by first | rfl | kernel_rfl), ?_⟩) | (refine ⟨_, _, _, a_load_fld (gd_none rfl) rfl rfl rfl rfl rfl rfl rfl rfl rfl rfl rfl rfl rfl, (by first | rfl | kernel_rfl), ?_⟩) | (refine ⟨_, _, _, a_load_fullv (gd_none rfl) rfl rfl rfl rfl rfl rfl rfl rfl rfl, (by first | rfl | kernel_rfl), ?_⟩))
    (refine ⟨_, _, _, a_call (gd_none rfl) rfl rfl rfl rfl rfl (mIsVar_abs w ⟨f, l⟩), (by first | rfl | kernel_rfl), ?_⟩)
    show AWp _ _ _ _ _ _ _
    refine awp_cond rfl (fun hc => ?_) (fun hc => ?_)
    · have hf : f < 0 := by simpa using hc
      rw [pm_eq, if_pos hf, List.append_nil]
      refine awp_seq (awp_region ?_)
      (refine ⟨_, _, _, a_move (gd_none rfl) rfl rfl rfl rfl rfl, (by first | rfl | kernel_rfl), ?_⟩)
      (refine ⟨_, _, _, a_assign (gd_none rfl) rfl rfl rfl rfl rfl, (by first | rfl | kernel_rfl), ?_⟩)
      show AWp _ _ _ _ _ _ _
      exact awp_ret ⟨.inr rfl, _, Wk.refl _, rfl, rfl, rfl, trivial⟩
    have hf : ¬ f < 0 := by simpa using hc
    rw [pm_eq, if_neg hf]
    refine awp_skip ?_
    show AWp _ _ _ _ _ _ _
    have his := mIs_abs w p ⟨f, l⟩ hpr hpo hr hpv
    obtain ⟨L0, hL0⟩ : ∃ L0, L0 = Ls ++ (if (mt p ⟨f, l⟩ []).1 = true then [pl] else []) := ⟨_, rfl⟩
    rw [← List.append_assoc, ← hL0]
    have hL0l : L0.length ≤ Ls.length + 1 := by rw [hL0]; split <;> simp
    refine awp_mid ((0, AV.sl 300001 0 (L0).length 1) :: (1, .sl 400003 0 pl.length 1) :: (6, .bp 6 0 []) :: (100006, .bx p.cw) :: (7, .bp 7 0 []) :: (100007, .bx (Tm.cw ⟨f, l⟩)) :: (300001, .mrow 29 1 ((L0).map plv)) :: (400003, .mrow 3 1 (pl.map CV.i)) :: []) ?_ ?_
    · refine awp_seq (awp_region ?_)
      (first | (refine ⟨_, _, _, a_load_all (gd_none rfl) rfl rfl rfl rfl rfl rfl rfl rfl rfl rfl rfl rfl, (by first | rfl | kernel_rfl), ?_⟩) | (refine ⟨_, _, _, a_load_tok (gd_none rfl) rfl rfl rfl rfl rfl rfl rfl rfl rfl rfl rfl rfl rfl, (by first | rfl | kernel_rfl), ?_⟩) | (refine ⟨_, _, _, a_load_bp (gd_none rfl) rfl rfl rfl rfl rfl rfl rfl rfl rfl rfl rfl rfl, (by first | rfl | kernel_rfl), ?_⟩) | (refine ⟨_, _, _, a_load_ad (gd_none rfl) rfl rfl rfl rfl rfl rfl rfl rfl rfl, (by first | rfl | kernel_rfl), ?_⟩) | (refine ⟨_, _, _, a_load_ptr (gd_none rfl) rfl rfl rfl rfl rfl rfl rfl rfl rfl, (by first | rfl | kernel_rfl), ?_⟩) | (refine ⟨_, _, _, a_load_fld (gd_none rfl) rfl rfl rfl rfl rfl rfl rfl rfl rfl rfl rfl rfl rfl, (by first | rfl | kernel_rfl), ?_⟩) | (refine ⟨_, _, _, a_load_fullv (gd_none rfl) rfl rfl rfl rfl rfl rfl rfl rfl rfl, (by first | rfl | kernel_rfl), ?_⟩))
      (first | (refine ⟨_, _, _, a_load_all (gd_none rfl) rfl rfl rfl rfl rfl rfl rfl rfl rfl rfl rfl rfl, (by first | rfl | kernel_rfl), ?_⟩) | (refine ⟨_, _, _, a_load_tok (gd_none rfl) rfl rfl rfl rfl rfl rfl rfl rfl rfl rfl rfl rfl rfl, (by first | rfl | kernel_rfl), ?_⟩) | (refine ⟨_, _, _, a_load_bp (gd_none rfl) rfl rfl rfl rfl rfl rfl rfl rfl rfl rfl rfl rfl, (by first | rfl | kernel_rfl), ?_⟩) | (refine ⟨_, _, _, a_load_ad (gd_none rfl) rfl rfl rfl rfl rfl rfl rfl rfl rfl, (by first | rfl | kernel_rfl), ?_⟩) | (refine ⟨_, _, _, a_load_ptr (gd_none rfl) rfl rfl rfl rfl rfl rfl rfl rfl rfl, (by first | rfl | kernel_rfl), ?_⟩) | (refine ⟨_, _, _, a_load_fld (gd_none rfl) rfl rfl rfl rfl rfl rfl rfl rfl rfl rfl rfl rfl rfl, (by first | rfl | kernel_rfl), ?_⟩) | (refine ⟨_, _, _, a_load_fullv (gd_none rfl) rfl rfl rfl rfl rfl rfl rfl rfl rfl, (by first | rfl | kernel_rfl), ?_⟩))
      (refine ⟨_, _, _, a_call (gd_none rfl) rfl rfl rfl rfl rfl (his), (by first | rfl | kernel_rfl), ?_⟩)
      show AWp _ _ _ _ _ _ _
      cases hm : (mt p ⟨f, l⟩ []).1 with
      | false =>
        rw [hm, if_neg (by simp), List.append_nil] at hL0
        rw [hL0]
        refine awp_cond rfl (fun hc => by cases hc) (fun hc => awp_skip ?_)
        exact wk_sub ⟨rfl, rfl, rfl, rfl, rfl, rfl, rfl, rfl, trivial⟩
      | true =>
        rw [hm, if_pos rfl] at hL0
        have hlp := plv_size Ls
        have hlm : (Ls.map plv).length = Ls.length := List.length_map ..
        refine awp_cond rfl (fun hc => ?_) (fun hc => by cases hc)
        refine awp_region ?_
        (refine ⟨_, _, _, a_move (gd_none rfl) rfl rfl rfl rfl rfl, (by first | rfl | kernel_rfl), ?_⟩)
        (refine ⟨_, _, _, a_move (gd_none rfl) rfl rfl rfl rfl rfl, (by first | rfl | kernel_rfl), ?_⟩)
        (refine ⟨_, _, _, a_callO (gd_none rfl) rfl rfl rfl rfl rfl (clInt400003_abs pl (by omega)) (by repeat (first | exact trivial | refine ⟨rfl, ?_⟩)) (by first | rfl | kernel_rfl) (by first | rfl | kernel_rfl) (by first | rfl | kernel_rfl) (by first | rfl | kernel_rfl) (hnb_of (by first | rfl | kernel_rfl)), (by first | rfl | kernel_rfl), ?_⟩)
        (refine ⟨_, _, _, a_bslice (gd_none rfl) rfl rfl rfl rfl rfl rfl rfl rfl rfl rfl rfl rfl rfl, (by first | rfl | kernel_rfl), ?_⟩)
        (refine ⟨_, _, _, a_appM 300021 (gd_none rfl) rfl rfl rfl rfl rfl rfl rfl rfl rfl rfl rfl rfl rfl (by first | rfl | omega | (simp only [List.length_set, List.length_map, List.length_append, List.length_cons, List.length_nil] <;> omega) | (simp <;> omega)) (by first | assumption | exact szAll_spec rfl | exact Tm.size_all _ | exact Bd.size_all _ | exact ints_size _) (by first | omega | (simp only [List.length_map, List.length_append, List.length_cons, List.length_nil] <;> omega) | (simp <;> omega)), (by first | rfl | kernel_rfl), ?_⟩)
        (refine ⟨_, _, _, a_assign (gd_none rfl) rfl rfl rfl rfl rfl, (by first | rfl | kernel_rfl), ?_⟩)
        refine (wk_sub (s' := (0, AV.sl 300021 0 L0.length 1) :: (1, .sl 400003 0 pl.length 1) :: (6, .bp 6 0 []) :: (100006, .bx p.cw) :: (7, .bp 7 0 []) :: (100007, .bx (Tm.cw ⟨f, l⟩)) :: (300021, .mrow 29 1 (L0.map plv)) :: (400003, .mrow 3 1 (pl.map CV.i)) :: []) ⟨?_, rfl, rfl, rfl, rfl, rfl, ?_, rfl, trivial⟩).trans (wk_ren 300021 300001 rfl rfl (by kernel_rfl) (by kernel_rfl))
        · rw [hL0, List.length_append, ← hlm]; rfl
        · rw [hL0, List.map_append]; rfl
    refine awp_seq (awp_seq (awp_region ?_))
    (first | (refine ⟨_, _, _, a_field_bp (gd_none rfl) rfl rfl rfl rfl rfl rfl rfl rfl rfl, (by first | rfl | kernel_rfl), ?_⟩) | (refine ⟨_, _, _, a_field_ad (gd_none rfl) rfl rfl rfl rfl rfl rfl rfl rfl rfl rfl rfl, (by first | rfl | kernel_rfl), ?_⟩) | (refine ⟨_, _, _, a_fieldM (gd_none rfl) rfl rfl rfl rfl rfl rfl rfl rfl rfl, (by first | rfl | kernel_rfl), ?_⟩))
    (first | (refine ⟨_, _, _, a_load_all (gd_none rfl) rfl rfl rfl rfl rfl rfl rfl rfl rfl rfl rfl rfl, (by first | rfl | kernel_rfl), ?_⟩) | (refine ⟨_, _, _, a_load_tok (gd_none rfl) rfl rfl rfl rfl rfl rfl rfl rfl rfl rfl rfl rfl rfl, (by first | rfl | kernel_rfl), ?_⟩) | (refine ⟨_, _, _, a_load_bp (gd_none rfl) rfl rfl rfl rfl rfl rfl rfl rfl rfl rfl rfl rfl, (by first | rfl | kernel_rfl), ?_⟩) | (refine ⟨_, _, _, a_load_ad (gd_none rfl) rfl rfl rfl rfl rfl rfl rfl rfl rfl, (by first | rfl | kernel_rfl), ?_⟩) | (refine ⟨_, _, _, a_load_ptr (gd_none rfl) rfl rfl rfl rfl rfl rfl rfl rfl rfl, (by first | rfl | kernel_rfl), ?_⟩) | (refine ⟨_, _, _, a_load_fld (gd_none rfl) rfl rfl rfl rfl rfl rfl rfl rfl rfl rfl rfl rfl rfl, (by first | rfl | kernel_rfl), ?_⟩) | (refine ⟨_, _, _, a_load_fullv (gd_none rfl) rfl rfl rfl rfl rfl rfl rfl rfl rfl, (by first | rfl | kernel_rfl), ?_⟩))
    (first | (refine ⟨_, _, _, a_len (gd_none rfl) rfl rfl rfl rfl rfl rfl rfl, (by first | rfl | kernel_rfl), ?_⟩) | (refine ⟨_, _, _, a_lenM (gd_none rfl) rfl rfl rfl rfl rfl rfl rfl, (by first | rfl | kernel_rfl), ?_⟩))
    (refine ⟨_, _, _, a_move (gd_none rfl) rfl rfl rfl rfl rfl, (by first | rfl | kernel_rfl), ?_⟩)
    show AWp _ _ _ _ _ _ _
    refine awp_block (awp_count l.length (fun k => (0, AV.sl 300001 0 (L0 ++ pmL p (l.take k) 0 pl).length 1) :: (1, .sl 400003 0 pl.length 1) :: (6, .bp 6 0 []) :: (100006, .bx p.cw) :: (7, .bp 7 0 []) :: (100007, .bx (Tm.cw ⟨f, l⟩)) :: (23, .val (.lst (l.map Tm.cv))) :: (24, .val (.i (l.map Tm.cv).length)) :: (25, .val (.i (k))) :: (300001, .mrow 29 1 ((L0 ++ pmL p (l.take k) 0 pl).map plv)) :: (400003, .mrow 3 1 (pl.map CV.i)) :: []) (wk_sub ⟨?_, rfl, rfl, rfl, rfl, rfl, rfl, rfl, rfl, ?_, rfl, trivial⟩) ?_)
    · rw [List.take_zero, pmL_nil, List.append_nil]; rfl
    · rw [List.take_zero, pmL_nil, List.append_nil]; rfl
    intro k hk
    refine awp_seq (awp_region ?_)
    (refine ⟨_, _, _, a_lss (gd_none rfl) rfl rfl rfl rfl rfl rfl, (by first | rfl | kernel_rfl), ?_⟩)
    show AWp _ _ _ _ _ _ _
    refine awp_seq (awp_cond rfl (fun hlt => ?_) (fun hlt => ?_))
    · have hkl : k < l.length := by simpa using hlt
      obtain ⟨x, hx⟩ : ∃ x, l[k]? = some x := ⟨l[k], List.getElem?_eq_getElem hkl⟩
      have hx' := Tm.map_at hx
      have hxm := List.mem_of_getElem? hx
      obtain ⟨Lk, hLk⟩ : ∃ Lk, Lk = L0 ++ pmL p (l.take k) 0 pl := ⟨_, rfl⟩
      have hstep : L0 ++ pmL p (l.take (k + 1)) 0 pl = Lk ++ pm p x (pl ++ [(k : Int)]) := by rw [pmL_take 0 pl hx, ← List.append_assoc, ← hLk, Nat.zero_add]
      have hszs := pm_sizes hf hx
      have hpk := pmL_len p (l.take k) 0 pl
      have hLkl : Lk.length ≤ L0.length + ((l.take k).flatMap Tm.flat).length := by rw [hLk, List.length_append]; omega
      have hcall := (ih x hxm (hr'.2 x hxm) (hok'.2 x hxm) Lk (pl ++ [(k : Int)]) (by omega) (by rw [List.length_append]; simp only [List.length_cons, List.length_nil]; omega)).1
      have hpe : (pl ++ [(k : Int)]).length = (pl.map CV.i).length + [CV.i (k : Int)].length := by simp
      rw [hpe, List.map_append] at hcall
      have hlm : (pl.map CV.i).length = pl.length := List.length_map ..
      rw [← hLk]
      refine awp_skip ?_
      show AWp _ _ _ _ _ _ _
      refine awp_seq (awp_block (awp_seq (awp_region ?_)))
      (refine ⟨_, _, _, a_move (gd_none rfl) rfl rfl rfl rfl rfl, (by first | rfl | kernel_rfl), ?_⟩)
      (refine ⟨_, _, _, a_index (j := k) (gd_none rfl) rfl rfl rfl rfl rfl rfl rfl rfl rfl (hx') rfl (hsz), (by first | rfl | kernel_rfl), ?_⟩)
      (first | (refine ⟨_, _, _, a_load_all (gd_none rfl) rfl rfl rfl rfl rfl rfl rfl rfl rfl rfl rfl rfl, (by first | rfl | kernel_rfl), ?_⟩) | (refine ⟨_, _, _, a_load_tok (gd_none rfl) rfl rfl rfl rfl rfl rfl rfl rfl rfl rfl rfl rfl rfl, (by first | rfl | kernel_rfl), ?_⟩) | (refine ⟨_, _, _, a_load_bp (gd_none rfl) rfl rfl rfl rfl rfl rfl rfl rfl rfl rfl rfl rfl, (by first | rfl | kernel_rfl), ?_⟩) | (refine ⟨_, _, _, a_load_ad (gd_none rfl) rfl rfl rfl rfl rfl rfl rfl rfl rfl, (by first | rfl | kernel_rfl), ?_⟩) | (refine ⟨_, _, _, a_load_ptr (gd_none rfl) rfl rfl rfl rfl rfl rfl rfl rfl rfl, (by first | rfl | kernel_rfl), ?_⟩) | (refine ⟨_, _, _, a_load_fld (gd_none rfl) rfl rfl rfl rfl rfl rfl rfl rfl rfl rfl rfl rfl rfl, (by first | rfl | kernel_rfl), ?_⟩) | (refine ⟨_, _, _, a_load_fullv (gd_none rfl) rfl rfl rfl rfl rfl rfl rfl rfl rfl, (by first | rfl | kernel_rfl), ?_⟩))
      (refine ⟨_, _, _, a_alloc (gd_none rfl) rfl rfl rfl rfl rfl rfl rfl rfl rfl rfl, (by first | rfl | kernel_rfl), ?_⟩)
      (refine ⟨_, _, _, a_assign (gd_none rfl) rfl rfl rfl rfl rfl, (by first | rfl | kernel_rfl), ?_⟩)
      (first | (refine ⟨_, _, _, a_store_all (gd_none rfl) rfl rfl rfl rfl rfl rfl rfl rfl rfl rfl, (by first | rfl | kernel_rfl), ?_⟩) | (refine ⟨_, _, _, a_store (gd_none rfl) rfl rfl rfl rfl rfl rfl rfl rfl rfl rfl, (by first | rfl | kernel_rfl), ?_⟩) | (refine ⟨_, _, _, a_store_fld (gd_none rfl) rfl rfl rfl rfl rfl rfl rfl rfl rfl rfl rfl rfl, (by first | rfl | kernel_rfl), ?_⟩))
      show AWp _ _ _ _ _ _ _
      refine AWp.handle 4 400003 rfl rfl rfl rfl fun ao cap hcap hao => ?_
      rcases Nat.lt_or_ge (pl.map CV.i).length cap with hroom | hroom
      · refine awp_draw (by kernel_rfl) (by kernel_rfl) ?_
        (refine ⟨_, _, _, a_move (gd_none rfl) rfl rfl rfl rfl rfl, (by first | rfl | kernel_rfl), ?_⟩)
        (refine ⟨_, _, _, a_move (gd_none rfl) rfl rfl rfl rfl rfl, (by first | rfl | kernel_rfl), ?_⟩)
        (refine ⟨_, _, _, a_move (gd_none rfl) rfl rfl rfl rfl rfl, (by first | rfl | kernel_rfl), ?_⟩)
        (refine ⟨_, _, _, a_bslice (gd_none rfl) rfl rfl rfl rfl rfl rfl rfl rfl rfl rfl rfl rfl rfl, (by first | rfl | kernel_rfl), ?_⟩)
        (refine ⟨_, _, _, a_appR 400002 4 5 (gd_none rfl) rfl rfl rfl rfl rfl rfl rfl rfl rfl rfl rfl rfl rfl (hfY) (by first | rfl | omega | (simp only [List.length_set, List.length_map, List.length_append, List.length_cons, List.length_nil] <;> omega) | (simp <;> omega)) (by first | assumption | exact szAll_spec rfl | exact Tm.size_all _ | exact Bd.size_all _ | exact ints_size _) (by simp) (hroom), (by first | rfl | kernel_rfl), ?_⟩)
        (first | (refine ⟨_, _, _, a_load_all (gd_none rfl) rfl rfl rfl rfl rfl rfl rfl rfl rfl rfl rfl rfl, (by first | rfl | kernel_rfl), ?_⟩) | (refine ⟨_, _, _, a_load_tok (gd_none rfl) rfl rfl rfl rfl rfl rfl rfl rfl rfl rfl rfl rfl rfl, (by first | rfl | kernel_rfl), ?_⟩) | (refine ⟨_, _, _, a_load_bp (gd_none rfl) rfl rfl rfl rfl rfl rfl rfl rfl rfl rfl rfl rfl, (by first | rfl | kernel_rfl), ?_⟩) | (refine ⟨_, _, _, a_load_ad (gd_none rfl) rfl rfl rfl rfl rfl rfl rfl rfl rfl, (by first | rfl | kernel_rfl), ?_⟩) | (refine ⟨_, _, _, a_load_ptr (gd_none rfl) rfl rfl rfl rfl rfl rfl rfl rfl rfl, (by first | rfl | kernel_rfl), ?_⟩) | (refine ⟨_, _, _, a_load_fld (gd_none rfl) rfl rfl rfl rfl rfl rfl rfl rfl rfl rfl rfl rfl rfl, (by first | rfl | kernel_rfl), ?_⟩) | (refine ⟨_, _, _, a_load_fullv (gd_none rfl) rfl rfl rfl rfl rfl rfl rfl rfl rfl, (by first | rfl | kernel_rfl), ?_⟩))
        (first | (refine ⟨_, _, _, a_load_all (gd_none rfl) rfl rfl rfl rfl rfl rfl rfl rfl rfl rfl rfl rfl, (by first | rfl | kernel_rfl), ?_⟩) | (refine ⟨_, _, _, a_load_tok (gd_none rfl) rfl rfl rfl rfl rfl rfl rfl rfl rfl rfl rfl rfl rfl, (by first | rfl | kernel_rfl), ?_⟩) | (refine ⟨_, _, _, a_load_bp (gd_none rfl) rfl rfl rfl rfl rfl rfl rfl rfl rfl rfl rfl rfl, (by first | rfl | kernel_rfl), ?_⟩) | (refine ⟨_, _, _, a_load_ad (gd_none rfl) rfl rfl rfl rfl rfl rfl rfl rfl rfl, (by first | rfl | kernel_rfl), ?_⟩) | (refine ⟨_, _, _, a_load_ptr (gd_none rfl) rfl rfl rfl rfl rfl rfl rfl rfl rfl, (by first | rfl | kernel_rfl), ?_⟩) | (refine ⟨_, _, _, a_load_fld (gd_none rfl) rfl rfl rfl rfl rfl rfl rfl rfl rfl rfl rfl rfl rfl, (by first | rfl | kernel_rfl), ?_⟩) | (refine ⟨_, _, _, a_load_fullv (gd_none rfl) rfl rfl rfl rfl rfl rfl rfl rfl rfl, (by first | rfl | kernel_rfl), ?_⟩))
        (refine ⟨_, _, _, a_callOD ([0, 30]) (gd_none rfl) rfl rfl rfl rfl rfl (hcall) (by repeat (first | exact trivial | refine ⟨rfl, ?_⟩)) (by first | rfl | kernel_rfl) (by first | rfl | kernel_rfl) (by first | rfl | kernel_rfl) (by first | rfl | kernel_rfl) (hnb_of (by first | rfl | kernel_rfl)) (by first | rfl | kernel_rfl) (by first | rfl | kernel_rfl) (by first | rfl | kernel_rfl), (by first | rfl | kernel_rfl), ?_⟩)
        (refine ⟨_, _, _, a_assign (gd_none rfl) rfl rfl rfl rfl rfl, (by first | rfl | kernel_rfl), ?_⟩)
        refine ⟨by kernel_rfl, ?_⟩
        show AWp _ _ _ _ _ _ _
        refine AWp.wk (wk_again 400003 400002 4 5 (pl.map CV.i).length rfl rfl rfl rfl rfl rfl rfl (by simp)) ?_
        refine awp_region ?_
        (refine ⟨_, _, _, a_add (gd_none rfl) rfl rfl rfl rfl rfl rfl (by first | omega | (simp only [List.length_map, List.length_append, List.length_cons, List.length_nil] <;> omega) | (simp <;> omega)), (by first | rfl | kernel_rfl), ?_⟩)
        (refine ⟨_, _, _, a_move (gd_none rfl) rfl rfl rfl rfl rfl, (by first | rfl | kernel_rfl), ?_⟩)
        refine ⟨hkl, ?_⟩
        show Wk _ _ _ _ ((0, AV.sl 300001 0 (L0 ++ pmL p (l.take (k + 1)) 0 pl).length 1) :: (1, .sl 400003 0 pl.length 1) :: (6, .bp 6 0 []) :: (100006, .bx p.cw) :: (7, .bp 7 0 []) :: (100007, .bx (Tm.cw ⟨f, l⟩)) :: (23, .val (.lst (l.map Tm.cv))) :: (24, .val (.i (l.map Tm.cv).length)) :: (25, .val (.i (((k + 1 : Nat) : Int)))) :: (300001, .mrow 29 1 ((L0 ++ pmL p (l.take (k + 1)) 0 pl).map plv)) :: (400003, .mrow 3 1 (pl.map CV.i)) :: [])
        rw [hstep]
        refine wk_sub ⟨rfl, rfl, rfl, rfl, rfl, rfl, rfl, rfl, rfl, rfl, ?_, trivial⟩
        show some (AV.mrow 3 1 ((pl.map CV.i ++ [CV.i (k : Int)]).take (pl.map CV.i).length)) = _
        rw [List.take_left' rfl]
      · have hce : cap = (pl.map CV.i).length := by omega
        subst hce
        refine awp_draw (by kernel_rfl) (by kernel_rfl) ?_
        (refine ⟨_, _, _, a_move (gd_none rfl) rfl rfl rfl rfl rfl, (by first | rfl | kernel_rfl), ?_⟩)
        (refine ⟨_, _, _, a_move (gd_none rfl) rfl rfl rfl rfl rfl, (by first | rfl | kernel_rfl), ?_⟩)
        (refine ⟨_, _, _, a_move (gd_none rfl) rfl rfl rfl rfl rfl, (by first | rfl | kernel_rfl), ?_⟩)
        (refine ⟨_, _, _, a_bslice (gd_none rfl) rfl rfl rfl rfl rfl rfl rfl rfl rfl rfl rfl rfl rfl, (by first | rfl | kernel_rfl), ?_⟩)
        (refine ⟨_, _, _, a_appX 400002 4 (gd_none rfl) rfl rfl rfl rfl rfl rfl rfl rfl rfl rfl rfl rfl rfl rfl (hfY) (by first | rfl | omega | (simp only [List.length_set, List.length_map, List.length_append, List.length_cons, List.length_nil] <;> omega) | (simp <;> omega)) (by first | assumption | exact szAll_spec rfl | exact Tm.size_all _ | exact Bd.size_all _ | exact ints_size _) (by simp) (by first | omega | (simp only [List.length_map, List.length_append, List.length_cons, List.length_nil] <;> omega) | (simp <;> omega)), (by first | rfl | kernel_rfl), ?_⟩)
        (first | (refine ⟨_, _, _, a_load_all (gd_none rfl) rfl rfl rfl rfl rfl rfl rfl rfl rfl rfl rfl rfl, (by first | rfl | kernel_rfl), ?_⟩) | (refine ⟨_, _, _, a_load_tok (gd_none rfl) rfl rfl rfl rfl rfl rfl rfl rfl rfl rfl rfl rfl rfl, (by first | rfl | kernel_rfl), ?_⟩) | (refine ⟨_, _, _, a_load_bp (gd_none rfl) rfl rfl rfl rfl rfl rfl rfl rfl rfl rfl rfl rfl, (by first | rfl | kernel_rfl), ?_⟩) | (refine ⟨_, _, _, a_load_ad (gd_none rfl) rfl rfl rfl rfl rfl rfl rfl rfl rfl, (by first | rfl | kernel_rfl), ?_⟩) | (refine ⟨_, _, _, a_load_ptr (gd_none rfl) rfl rfl rfl rfl rfl rfl rfl rfl rfl, (by first | rfl | kernel_rfl), ?_⟩) | (refine ⟨_, _, _, a_load_fld (gd_none rfl) rfl rfl rfl rfl rfl rfl rfl rfl rfl rfl rfl rfl rfl, (by first | rfl | kernel_rfl), ?_⟩) | (refine ⟨_, _, _, a_load_fullv (gd_none rfl) rfl rfl rfl rfl rfl rfl rfl rfl rfl, (by first | rfl | kernel_rfl), ?_⟩))
        (first | (refine ⟨_, _, _, a_load_all (gd_none rfl) rfl rfl rfl rfl rfl rfl rfl rfl rfl rfl rfl rfl, (by first | rfl | kernel_rfl), ?_⟩) | (refine ⟨_, _, _, a_load_tok (gd_none rfl) rfl rfl rfl rfl rfl rfl rfl rfl rfl rfl rfl rfl rfl, (by first | rfl | kernel_rfl), ?_⟩) | (refine ⟨_, _, _, a_load_bp (gd_none rfl) rfl rfl rfl rfl rfl rfl rfl rfl rfl rfl rfl rfl, (by first | rfl | kernel_rfl), ?_⟩) | (refine ⟨_, _, _, a_load_ad (gd_none rfl) rfl rfl rfl rfl rfl rfl rfl rfl rfl, (by first | rfl | kernel_rfl), ?_⟩) | (refine ⟨_, _, _, a_load_ptr (gd_none rfl) rfl rfl rfl rfl rfl rfl rfl rfl rfl, (by first | rfl | kernel_rfl), ?_⟩) | (refine ⟨_, _, _, a_load_fld (gd_none rfl) rfl rfl rfl rfl rfl rfl rfl rfl rfl rfl rfl rfl rfl, (by first | rfl | kernel_rfl), ?_⟩) | (refine ⟨_, _, _, a_load_fullv (gd_none rfl) rfl rfl rfl rfl rfl rfl rfl rfl rfl, (by first | rfl | kernel_rfl), ?_⟩))
        (refine ⟨_, _, _, a_callOD ([0, 30]) (gd_none rfl) rfl rfl rfl rfl rfl (hcall) (by repeat (first | exact trivial | refine ⟨rfl, ?_⟩)) (by first | rfl | kernel_rfl) (by first | rfl | kernel_rfl) (by first | rfl | kernel_rfl) (by first | rfl | kernel_rfl) (hnb_of (by first | rfl | kernel_rfl)) (by first | rfl | kernel_rfl) (by first | rfl | kernel_rfl) (by first | rfl | kernel_rfl), (by first | rfl | kernel_rfl), ?_⟩)
        (refine ⟨_, _, _, a_assign (gd_none rfl) rfl rfl rfl rfl rfl, (by first | rfl | kernel_rfl), ?_⟩)
        refine ⟨by kernel_rfl, ?_⟩
        show AWp _ _ _ _ _ _ _
        refine awp_region ?_
        (refine ⟨_, _, _, a_add (gd_none rfl) rfl rfl rfl rfl rfl rfl (by first | omega | (simp only [List.length_map, List.length_append, List.length_cons, List.length_nil] <;> omega) | (simp <;> omega)), (by first | rfl | kernel_rfl), ?_⟩)
        (refine ⟨_, _, _, a_move (gd_none rfl) rfl rfl rfl rfl rfl, (by first | rfl | kernel_rfl), ?_⟩)
        refine ⟨hkl, ?_⟩
        show Wk _ _ _ _ ((0, AV.sl 300001 0 (L0 ++ pmL p (l.take (k + 1)) 0 pl).length 1) :: (1, .sl 400003 0 pl.length 1) :: (6, .bp 6 0 []) :: (100006, .bx p.cw) :: (7, .bp 7 0 []) :: (100007, .bx (Tm.cw ⟨f, l⟩)) :: (23, .val (.lst (l.map Tm.cv))) :: (24, .val (.i (l.map Tm.cv).length)) :: (25, .val (.i (((k + 1 : Nat) : Int)))) :: (300001, .mrow 29 1 ((L0 ++ pmL p (l.take (k + 1)) 0 pl).map plv)) :: (400003, .mrow 3 1 (pl.map CV.i)) :: [])
        rw [hstep]
        exact wk_sub ⟨rfl, rfl, rfl, rfl, rfl, rfl, rfl, rfl, rfl, rfl, rfl, trivial⟩
    · have hkl : k = l.length := by
        have : ¬ k < l.length := by simpa using hlt
        omega
      subst hkl
      rw [List.take_length]
      refine awp_exit ?_
      show AWp _ _ _ _ _ _ _
      refine awp_seq (awp_region ?_)
      (refine ⟨_, _, _, a_move (gd_none rfl) rfl rfl rfl rfl rfl, (by first | rfl | kernel_rfl), ?_⟩)
      (refine ⟨_, _, _, a_assign (gd_none rfl) rfl rfl rfl rfl rfl, (by first | rfl | kernel_rfl), ?_⟩)
      show AWp _ _ _ _ _ _ _
      exact awp_ret ⟨.inr rfl, _, Wk.refl _, rfl, rfl, rfl, trivial⟩
end Go.Proofs.Ytgmllfjidhbjjab


namespace Go.Proofs.Ytgmllfjidhbjjab
open Go.RowKit
set_option linter.unusedVariables false
set_option linter.unusedSimpArgs false
set_option maxRecDepth 100000

theorem nil_rep {U : Nat → Nat → Prop} {w : World} {hv : Nat → Value} {s : AS} {v : Value} (h : AVRep U w hv (LiveN s) ⟨0, .lst [], 1, 0, []⟩ v) : v = .slice none 0 0 := by
  obtain ⟨h1, h2⟩ : VRep U w (.lst []) v ∧ Tk hv (LiveN s) ⟨0, .lst [], 1, 0, []⟩ v.cells.toList := h
  obtain ⟨m, c, g1, g2⟩ := h2 (.inl rfl)
  simp only at g1
  rw [at_nil] at g1
  cases g1
  obtain ⟨ao, k, c, e1, _⟩ := vrep_lst.1 h1
  rw [e1] at g2 ⊢
  simpa [Value.cells, tokv] using g2
theorem addParts_nil (p t : Tm) (hpr : p.rng) (hpo : p.ok) (hpv : p.vs.length ≤ 65) (hr : t.rng) (hok : t.ok) (hs : t.size ≤ 1000000) : AFunO Try.prog 34 [] [⟨0, .lst [], 1, 0, []⟩, ⟨0, .lst [], 1, 0, []⟩, .val p.cw, .val t.cw] (.sl 300001 0 (pm p t []).length 1) [(300001, .mrow 29 1 ((pm p t []).map plv)), (400002, .mrow 3 1 [])] := by
  have h := (addParts_abs p hpr hpo hpv t hr hok [] [] (by simpa using hs) (by simpa using hs)).1
  rw [List.nil_append] at h
  refine ⟨h.1, fun U w hv a0 vs hU hpS hargs => ?_⟩
  obtain ⟨v1, us1, rfl, g1, v2, us2, rfl, g2, v3, us3, rfl, g3, v4, us4, rfl, g4, rfl⟩ := hargs
  have e1 := nil_rep g1
  have e2 := nil_rep g2
  subst e1
  subst e2
  have hno : ∀ k v, U.f k = some v → False := fun k v hk => by have := hU k v hk; cases this
  have hlk : ∀ {k av}, look [(300001, AV.mrow 29 1 (([] : List (List Int)).map plv)), (400002, AV.mrow 3 1 (([] : List Int).map CV.i))] k = some av → (k = 300001 ∧ av = AV.mrow 29 1 []) ∨ (k = 400002 ∧ av = AV.mrow 3 1 []) := fun {k av} hk => by
    rw [look_cons] at hk
    split at hk
    · rename_i e; cases hk; exact .inl ⟨e.symm, rfl⟩
    rw [look_cons] at hk
    split at hk
    · rename_i e; cases hk; exact .inr ⟨e.symm, rfl⟩
    · cases hk
  refine h.2 U w (fun _ => .slice none 0 0) ⟨#[], []⟩ _ (fun k v hk => (hno k v hk).elim) ⟨BelowX.refl _ _, rfl, rfl, fun d av k1 k2 => ?_, fun m o av k1 k2 k3 k4 => ?_, fun m o o' av av' k1 k2 k3 k4 k5 => ?_, fun k av k1 k2 => ?_, (fun k av g k1 k2 k3 k4 => by cases k4), (fun k k' av av' g k1 k2 k3 k4 k5 k6 k7 k8 => by cases k8), fun k v hk => (hno k v hk).elim, fun b o hd => hd.elim⟩ ?_
  · rcases hlk k1 with ⟨e, _⟩ | ⟨e, _⟩ <;> omega
  · rcases hlk k1 with ⟨e, _⟩ | ⟨e, _⟩ <;> (unfold fKey at e; omega)
  · rcases hlk k1 with ⟨e, _⟩ | ⟨e, _⟩ <;> (unfold fKey at e; omega)
  · rcases hlk k1 with ⟨e, rfl⟩ | ⟨e, rfl⟩
    · exact ⟨[], World.ownsRow_nil _ _ _ _, by decide, (fun c hc => by cases hc), rfl⟩
    · exact ⟨[], World.ownsRow_nil _ _ _ _, by decide, (fun c hc => by cases hc), rfl⟩
  · refine ⟨_, _, rfl, ⟨⟨by decide, by decide⟩, slV_all rfl (Nat.le_refl _) (.inl rfl)⟩, _, _, rfl, ⟨⟨by decide, by decide⟩, slV_all rfl (Nat.le_refl _) (.inl rfl)⟩, _, _, rfl, avrep_val g3.1, _, _, rfl, avrep_val g4.1, rfl⟩
-- 
theorem mParts_abs (W : World) (p t : Tm) (hpr : p.rng) (hpo : p.ok) (hpv : p.vs.length ≤ 65) (hr : t.rng) (hok : t.ok) (hs : t.size ≤ 1000000) : AFun Try.prog W 13 [p.cw, t.cw] (.val (.lst ((pm p t []).map plv))) := by
  have hlm : ((pm p t []).map plv).length = (pm p t []).length := List.length_map ..
  refine afun_of (rs := [.lst ((pm p t []).map plv)]) Try.func13 Try.ntmps13 rfl rfl rfl rfl ?_
  intro w U hW
  refine awp_seq (awp_region ?_)
  (refine ⟨_, _, _, a_box (gd_none rfl) rfl rfl rfl rfl rfl, (by first | rfl | kernel_rfl), ?_⟩)
  (refine ⟨_, _, _, a_box (gd_none rfl) rfl rfl rfl rfl rfl, (by first | rfl | kernel_rfl), ?_⟩)
  (refine ⟨_, _, _, a_assign (gd_none rfl) rfl rfl rfl rfl rfl, (by first | rfl | kernel_rfl), ?_⟩)
  show AWp _ _ _ _ _ _ _
  refine awp_seq (awp_region ?_)
  (first | (refine ⟨_, _, _, a_load_all (gd_none rfl) rfl rfl rfl rfl rfl rfl rfl rfl rfl rfl rfl rfl, (by first | rfl | kernel_rfl), ?_⟩) | (refine ⟨_, _, _, a_load_tok (gd_none rfl) rfl rfl rfl rfl rfl rfl rfl rfl rfl rfl rfl rfl rfl, (by first | rfl | kernel_rfl), ?_⟩) | (refine ⟨_, _, _, a_load_bp (gd_none rfl) rfl rfl rfl rfl rfl rfl rfl rfl rfl rfl rfl rfl, (by first | rfl | kernel_rfl), ?_⟩) | (refine ⟨_, _, _, a_load_ad (gd_none rfl) rfl rfl rfl rfl rfl rfl rfl rfl rfl, (by first | rfl | kernel_rfl), ?_⟩) | (refine ⟨_, _, _, a_load_ptr (gd_none rfl) rfl rfl rfl rfl rfl rfl rfl rfl rfl, (by first | rfl | kernel_rfl), ?_⟩) | (refine ⟨_, _, _, a_load_fld (gd_none rfl) rfl rfl rfl rfl rfl rfl rfl rfl rfl rfl rfl rfl rfl, (by first | rfl | kernel_rfl), ?_⟩) | (refine ⟨_, _, _, a_load_fullv (gd_none rfl) rfl rfl rfl rfl rfl rfl rfl rfl rfl, (by first | rfl | kernel_rfl), ?_⟩))
  (first | (refine ⟨_, _, _, a_load_all (gd_none rfl) rfl rfl rfl rfl rfl rfl rfl rfl rfl rfl rfl rfl, (by first | rfl | kernel_rfl), ?_⟩) | (refine ⟨_, _, _, a_load_tok (gd_none rfl) rfl rfl rfl rfl rfl rfl rfl rfl rfl rfl rfl rfl rfl, (by first | rfl | kernel_rfl), ?_⟩) | (refine ⟨_, _, _, a_load_bp (gd_none rfl) rfl rfl rfl rfl rfl rfl rfl rfl rfl rfl rfl rfl, (by first | rfl | kernel_rfl), ?_⟩) | (refine ⟨_, _, _, a_load_ad (gd_none rfl) rfl rfl rfl rfl rfl rfl rfl rfl rfl, (by first | rfl | kernel_rfl), ?_⟩) | (refine ⟨_, _, _, a_load_ptr (gd_none rfl) rfl rfl rfl rfl rfl rfl rfl rfl rfl, (by first | rfl | kernel_rfl), ?_⟩) | (refine ⟨_, _, _, a_load_fld (gd_none rfl) rfl rfl rfl rfl rfl rfl rfl rfl rfl rfl rfl rfl rfl, (by first | rfl | kernel_rfl), ?_⟩) | (refine ⟨_, _, _, a_load_fullv (gd_none rfl) rfl rfl rfl rfl rfl rfl rfl rfl rfl, (by first | rfl | kernel_rfl), ?_⟩))
  (refine ⟨_, _, _, a_callO (gd_none rfl) rfl rfl rfl rfl rfl (addParts_nil p t hpr hpo hpv hr hok hs) (by repeat (first | exact trivial | refine ⟨rfl, ?_⟩)) rfl rfl rfl rfl (fun k v h => by first | (rw [hW.1] at h; cases h) | (have h2 := hU k v h; cases h2)), (by first | rfl | kernel_rfl), ?_⟩)
  (refine ⟨_, _, _, a_assign (gd_none rfl) rfl rfl rfl rfl rfl, (by first | rfl | kernel_rfl), ?_⟩)
  show AWp _ _ _ _ _ _ _
  refine AWp.wk (wk_frz 4 300001 rfl rfl rfl (.inl hW.2) (by rw [hlm]; omega) (s' := []) trivial rfl) ?_
  rw [List.drop_zero, ← hlm, List.take_length]
  exact awp_ret (And.intro (.inr rfl) rfl)
end Go.Proofs.Ytgmllfjidhbjjab


namespace Go.Proofs.Ytgmllfjidhbjjab
open Go.RowKit
set_option linter.unusedVariables false
set_option linter.unusedSimpArgs false
set_option maxRecDepth 100000
/-- The part of a number. -/
def Tm.pa (t : Tm) (n : Int) : Option Tm := if 0 ≤ n then t.ps[n.toNat]? else none
/-- Does q stand at p's head? -/
def undB (p q : List Int) : Bool := decide (q = p.take q.length)
/-- What stands at a place. -/
def atP : List Int → Tm → Option Tm
  | [], t => some t
  | k :: ks, t => (t.pa k).bind (atP ks)
def stepP (p : List Int) (t : Tm) (k : Nat) : Tm := (atP (p.take k) t).getD ⟨0, []⟩
end Go.Proofs.Ytgmllfjidhbjjab


namespace Go.Proofs.Ytgmllfjidhbjjab
open Go.RowKit
set_option linter.unusedVariables false
set_option linter.unusedSimpArgs false
set_option maxRecDepth 100000
end Go.Proofs.Ytgmllfjidhbjjab


namespace Go.Proofs.Ytgmllfjidhbjjab
open Go.RowKit
set_option linter.unusedVariables false
set_option linter.unusedSimpArgs false
set_option maxRecDepth 100000

/-- Another term at a place. -/
def putP (u : Tm) : List Int → Tm → Option Tm
  | [], t => some u.strip
  | k :: ks, t => (t.pa k).bind fun s => (putP u ks s).map fun v => ⟨t.f, (t.l.take k.toNat).map Tm.strip ++ v :: (t.l.drop (k.toNat + 1)).map Tm.strip⟩
end Go.Proofs.Ytgmllfjidhbjjab


namespace Go.Proofs.Ytgmllfjidhbjjab
set_option linter.unusedVariables false
set_option linter.unusedSimpArgs false

theorem size_parts {t : Tm} (h : ¬ t.f < 0) : t.size = 1 + (t.l.map Tm.size).sum := by
  rw [Tm.size_eq, Tm.ps_of_sym (by omega), List.length_flatMap]
  rfl
theorem mem_placesL : ∀ {l : List Tm} {k : Nat} {p : List Int}, p ∈ Tm.placesL l k → ∃ i s q, l[i]? = some s ∧ q ∈ s.places ∧ p = ((k + i : Nat) : Int) :: q
  | [], k, p, h => by rw [placesL_nil] at h; cases h
  | t :: ts, k, p, h => by
    rw [placesL_cons] at h
    rcases List.mem_append.1 h with h | h
    · obtain ⟨q, hq, rfl⟩ := List.mem_map.1 h
      exact ⟨0, t, q, rfl, hq, rfl⟩
    · obtain ⟨i, s, q, h1, h2, h3⟩ := mem_placesL h
      exact ⟨i + 1, s, q, by simpa using h1, h2, by rw [h3]; congr 2; omega⟩
theorem places_at (t : Tm) : ∀ p ∈ t.places, (∃ s, atP p t = some s) ∧ p.length < t.size := by
  induction t using Tm.indp with
  | h t ih =>
    intro p hp
    rw [Tm.places_eq] at hp
    rcases List.mem_cons.1 hp with rfl | hp
    · exact ⟨⟨t, rfl⟩, by rw [Tm.size_eq]; simp; omega⟩
    · obtain ⟨i, s, q, h1, h2, rfl⟩ := mem_placesL hp
      obtain ⟨⟨x, hx⟩, hl⟩ := ih s (List.mem_of_getElem? h1) q h2
      have hpa : t.pa ((0 + i : Nat) : Int) = some s := by
        unfold Tm.pa
        rw [if_pos (by omega), Int.toNat_natCast, Nat.zero_add, h1]
      refine ⟨⟨x, by rw [atP, hpa]; exact hx⟩, ?_⟩
      have h3 := Tm.size_eq t
      have h4 := flatMap_len_mem Tm.flat (List.mem_of_getElem? h1)
      have h5 : s.size = s.flat.length := rfl
      rw [List.length_cons]
      omega
end Go.Proofs.Ytgmllfjidhbjjab


namespace Go.Proofs.Ytgmllfjidhbjjab
open Go.RowKit
set_option linter.unusedVariables false
set_option linter.unusedSimpArgs false
set_option maxRecDepth 100000

noncomputable abbrev rowC (p : List Int) : CV := CV.lst (p.map CV.i)
theorem rowC_size (l : List (List Int)) : ∀ c ∈ l.map rowC, c.size = 1 := by
  intro c hc
  obtain ⟨p, _, rfl⟩ := List.mem_map.1 hc
  rfl
theorem rowC_at {l : List (List Int)} {i : Nat} {p : List Int} (h : l[i]? = some p) : (l.map rowC)[i]? = some (.lst (p.map CV.i)) := by rw [List.getElem?_map, h]; rfl
theorem placesL_len : ∀ (l : List Tm) (k : Nat), (Tm.placesL l k).length = (l.map Tm.size).sum
  | [], k => rfl
  | t :: ts, k => by rw [placesL_cons, List.length_append, List.length_map, Tm.places_len, placesL_len ts (k + 1), List.map_cons, List.sum_cons]
theorem sum_take_le (l : List Tm) (k : Nat) : ((l.take k).map Tm.size).sum ≤ (l.map Tm.size).sum := by
  conv => rhs; rw [← List.take_append_drop k l, List.map_append, List.sum_append_nat]
  omega
theorem sum_take_at {l : List Tm} {k : Nat} {s : Tm} (h : l[k]? = some s) : ((l.take k).map Tm.size).sum + s.size ≤ (l.map Tm.size).sum := by
  have := sum_take_le l (k + 1)
  rw [List.take_add_one, h, List.map_append, List.sum_append_nat] at this
  simpa using this

-- 
set_option maxHeartbeats 2000000 in
theorem refPlaces_abs (W : World) : ∀ (t : Tm) (ah : List Int), t.ok → ah.length + t.size ≤ 100000 → AFun Try.prog W 9 [.lst (ah.map CV.i), t.cw] (.val (.lst ((t.places.map fun p => ah ++ p).map rowC))) := by
  intro t
  induction t using Tm.ind with
  | h f l ih =>
  intro ah hok hts
  obtain ⟨hl, hok⟩ := (Tm.ok_iff _).1 hok
  simp only at hl hok
  have hsz := Tm.size_all l
  have hsa := ints_size ah
  refine afun_of (rs := [.lst (((Tm.places ⟨f, l⟩).map fun p => ah ++ p).map rowC)]) Try.func9 Try.ntmps9 rfl rfl rfl rfl ?_
  intro w U hW
  refine awp_seq (awp_region ?_)
  (refine ⟨_, _, _, a_box (gd_none rfl) rfl rfl rfl rfl rfl, (by first | rfl | kernel_rfl), ?_⟩)
  (refine ⟨_, _, _, a_assign (gd_none rfl) rfl rfl rfl rfl rfl, (by first | rfl | kernel_rfl), ?_⟩)
  show AWp _ _ _ _ _ _ _
  refine awp_seq (awp_region ?_)
  (refine ⟨_, _, _, a_move (gd_none rfl) rfl rfl rfl rfl rfl, (by first | rfl | kernel_rfl), ?_⟩)
  (refine ⟨_, _, _, a_bsliceT (gd_none rfl) rfl rfl rfl rfl rfl rfl rfl rfl rfl rfl rfl rfl rfl rfl, (by first | rfl | kernel_rfl), ?_⟩)
  (refine ⟨_, _, _, a_assign (gd_none rfl) rfl rfl rfl rfl rfl, (by first | rfl | kernel_rfl), ?_⟩)
  show AWp _ _ _ _ _ _ _
  refine awp_seq (awp_seq (awp_region ?_))
  (refine ⟨_, _, _, a_assign (gd_none rfl) rfl rfl rfl rfl rfl, (by first | rfl | kernel_rfl), ?_⟩)
  show AWp _ _ _ _ _ _ _
  have e0 : look [(5, AV.own (.lst [.lst (ah.map CV.i)]) 300008)] 5 = some (.own (.lst (([[]].map fun p => ah ++ p).map rowC)) 300008) := by
    simp only [List.map_cons, List.map_nil, List.append_nil]
    rfl
  by_cases hf : f < 0
  · have hg : decide (f ≥ 0) = false := by simpa using hf
    rw [show Tm.places ⟨f, l⟩ = [[]] by rw [Tm.places_eq, Tm.ps_of_var (t := ⟨f, l⟩) hf]; rfl]
    refine awp_block (awp_count 0 (fun k => [(0, .val (.lst (ah.map CV.i))), (3, .bp 3 0 []), (100003, .bx (Tm.cw ⟨f, l⟩)), (5, .val (.lst (([[]].map fun p => ah ++ p).map rowC))), (6, .val (.i k))]) (Wk.trans (wk_sub (s' := [(0, .val (.lst (ah.map CV.i))), (3, .bp 3 0 []), (100003, .bx (Tm.cw ⟨f, l⟩)), (5, .own (.lst (([[]].map fun p => ah ++ p).map rowC)) 300008), (6, .val (.i (0 : Nat)))]) ⟨rfl, rfl, rfl, e0, rfl, trivial⟩) (wk_plain 5 rfl)) ?_)
    intro k hk
    refine awp_seq (awp_seq (awp_region ?_))
    (first | (refine ⟨_, _, _, a_field_bp (gd_none rfl) rfl rfl rfl rfl rfl rfl rfl rfl rfl, (by first | rfl | kernel_rfl), ?_⟩) | (refine ⟨_, _, _, a_field_ad (gd_none rfl) rfl rfl rfl rfl rfl rfl rfl rfl rfl rfl rfl, (by first | rfl | kernel_rfl), ?_⟩) | (refine ⟨_, _, _, a_fieldM (gd_none rfl) rfl rfl rfl rfl rfl rfl rfl rfl rfl, (by first | rfl | kernel_rfl), ?_⟩))
    (first | (refine ⟨_, _, _, a_load_all (gd_none rfl) rfl rfl rfl rfl rfl rfl rfl rfl rfl rfl rfl rfl, (by first | rfl | kernel_rfl), ?_⟩) | (refine ⟨_, _, _, a_load_tok (gd_none rfl) rfl rfl rfl rfl rfl rfl rfl rfl rfl rfl rfl rfl rfl, (by first | rfl | kernel_rfl), ?_⟩) | (refine ⟨_, _, _, a_load_bp (gd_none rfl) rfl rfl rfl rfl rfl rfl rfl rfl rfl rfl rfl rfl, (by first | rfl | kernel_rfl), ?_⟩) | (refine ⟨_, _, _, a_load_ad (gd_none rfl) rfl rfl rfl rfl rfl rfl rfl rfl rfl, (by first | rfl | kernel_rfl), ?_⟩) | (refine ⟨_, _, _, a_load_ptr (gd_none rfl) rfl rfl rfl rfl rfl rfl rfl rfl rfl, (by first | rfl | kernel_rfl), ?_⟩) | (refine ⟨_, _, _, a_load_fld (gd_none rfl) rfl rfl rfl rfl rfl rfl rfl rfl rfl rfl rfl rfl rfl, (by first | rfl | kernel_rfl), ?_⟩) | (refine ⟨_, _, _, a_load_fullv (gd_none rfl) rfl rfl rfl rfl rfl rfl rfl rfl rfl, (by first | rfl | kernel_rfl), ?_⟩))
    (refine ⟨_, _, _, a_geq (gd_none rfl) rfl rfl rfl rfl rfl rfl, (by first | rfl | kernel_rfl), ?_⟩)
    (refine ⟨_, _, _, a_move (gd_none rfl) rfl rfl rfl rfl rfl, (by first | rfl | kernel_rfl), ?_⟩)
    (refine ⟨_, _, _, a_off (go_off rfl rfl rfl rfl (by first | rfl | assumption | (simp; done) | (simp [*]; done))) rfl rfl rfl, rfl, ?_⟩)
    (refine ⟨_, _, _, a_off (go_off rfl rfl rfl rfl (by first | rfl | assumption | (simp; done) | (simp [*]; done))) rfl rfl rfl, rfl, ?_⟩)
    (refine ⟨_, _, _, a_off (go_off rfl rfl rfl rfl (by first | rfl | assumption | (simp; done) | (simp [*]; done))) rfl rfl rfl, rfl, ?_⟩)
    (refine ⟨_, _, _, a_off (go_off rfl rfl rfl rfl (by first | rfl | assumption | (simp; done) | (simp [*]; done))) rfl rfl rfl, rfl, ?_⟩)
    (refine ⟨_, _, _, a_off (go_off rfl rfl rfl rfl (by first | rfl | assumption | (simp; done) | (simp [*]; done))) rfl rfl rfl, rfl, ?_⟩)
    (first | (refine ⟨_, _, _, a_pick_t (gd_none rfl) rfl rfl rfl rfl rfl ?hb rfl, rfl, ?_⟩; case hb => (first | rfl | assumption | (simp; done))) | (refine ⟨_, _, _, a_pick_f (gd_none rfl) rfl rfl rfl rfl rfl ?hb rfl, rfl, ?_⟩; case hb => (first | rfl | assumption | (simp; done))))
    show AWp _ _ _ _ _ _ _
    refine awp_cond rfl (fun hc => by cases hc) (fun hc => awp_exit ?_)
    show AWp _ _ _ _ _ _ _
    refine awp_seq (awp_region ?_)
    (refine ⟨_, _, _, a_move (gd_none rfl) rfl rfl rfl rfl rfl, (by first | rfl | kernel_rfl), ?_⟩)
    (refine ⟨_, _, _, a_assign (gd_none rfl) rfl rfl rfl rfl rfl, (by first | rfl | kernel_rfl), ?_⟩)
    show AWp _ _ _ _ _ _ _
    exact awp_ret (And.intro (.inr rfl) rfl)
  have hg : decide (f ≥ 0) = true := by simp only [decide_eq_true_eq]; omega
  have hpl : Tm.places ⟨f, l⟩ = [] :: Tm.placesL l 0 := by rw [Tm.places_eq, Tm.ps_of_sym (t := ⟨f, l⟩) (by show 0 ≤ f; omega)]
  have hszp := size_parts (t := ⟨f, l⟩) hf
  simp only at hszp
  rw [hpl]
  refine awp_block (awp_count l.length (fun k => [(0, .val (.lst (ah.map CV.i))), (3, .bp 3 0 []), (100003, .bx (Tm.cw ⟨f, l⟩)), (5, .own (.lst ((([] :: Tm.placesL (l.take k) 0).map fun p => ah ++ p).map rowC)) 200034), (200034, .tok 29 1), (6, .val (.i k))])
    (Wk.trans (wk_sub (s' := [(0, .val (.lst (ah.map CV.i))), (3, .bp 3 0 []), (100003, .bx (Tm.cw ⟨f, l⟩)), (5, .own (.lst (([[]].map fun p => ah ++ p).map rowC)) 300008), (300008, .tok 29 1), (6, .val (.i (0 : Nat)))]) ⟨rfl, rfl, rfl, e0, rfl, rfl, trivial⟩) (wk_ren 300008 200034 rfl rfl rfl rfl)) ?_)
  intro k hk
  refine awp_seq (awp_seq (awp_region ?_))
  (first | (refine ⟨_, _, _, a_field_bp (gd_none rfl) rfl rfl rfl rfl rfl rfl rfl rfl rfl, (by first | rfl | kernel_rfl), ?_⟩) | (refine ⟨_, _, _, a_field_ad (gd_none rfl) rfl rfl rfl rfl rfl rfl rfl rfl rfl rfl rfl, (by first | rfl | kernel_rfl), ?_⟩) | (refine ⟨_, _, _, a_fieldM (gd_none rfl) rfl rfl rfl rfl rfl rfl rfl rfl rfl, (by first | rfl | kernel_rfl), ?_⟩))
  (first | (refine ⟨_, _, _, a_load_all (gd_none rfl) rfl rfl rfl rfl rfl rfl rfl rfl rfl rfl rfl rfl, (by first | rfl | kernel_rfl), ?_⟩) | (refine ⟨_, _, _, a_load_tok (gd_none rfl) rfl rfl rfl rfl rfl rfl rfl rfl rfl rfl rfl rfl rfl, (by first | rfl | kernel_rfl), ?_⟩) | (refine ⟨_, _, _, a_load_bp (gd_none rfl) rfl rfl rfl rfl rfl rfl rfl rfl rfl rfl rfl rfl, (by first | rfl | kernel_rfl), ?_⟩) | (refine ⟨_, _, _, a_load_ad (gd_none rfl) rfl rfl rfl rfl rfl rfl rfl rfl rfl, (by first | rfl | kernel_rfl), ?_⟩) | (refine ⟨_, _, _, a_load_ptr (gd_none rfl) rfl rfl rfl rfl rfl rfl rfl rfl rfl, (by first | rfl | kernel_rfl), ?_⟩) | (refine ⟨_, _, _, a_load_fld (gd_none rfl) rfl rfl rfl rfl rfl rfl rfl rfl rfl rfl rfl rfl rfl, (by first | rfl | kernel_rfl), ?_⟩) | (refine ⟨_, _, _, a_load_fullv (gd_none rfl) rfl rfl rfl rfl rfl rfl rfl rfl rfl, (by first | rfl | kernel_rfl), ?_⟩))
  (refine ⟨_, _, _, a_geq (gd_none rfl) rfl rfl rfl rfl rfl rfl, (by first | rfl | kernel_rfl), ?_⟩)
  (refine ⟨_, _, _, a_move (gd_none rfl) rfl rfl rfl rfl rfl, (by first | rfl | kernel_rfl), ?_⟩)
  (refine ⟨_, _, _, a_move (gd_on rfl rfl rfl rfl (by first | rfl | assumption | (simp; done))) rfl rfl rfl rfl rfl, (by first | rfl | kernel_rfl), ?_⟩)
  (first | (refine ⟨_, _, _, a_field_bp (gd_on rfl rfl rfl rfl (by first | rfl | assumption | (simp; done))) rfl rfl rfl rfl rfl rfl rfl rfl rfl, (by first | rfl | kernel_rfl), ?_⟩) | (refine ⟨_, _, _, a_field_ad (gd_on rfl rfl rfl rfl (by first | rfl | assumption | (simp; done))) rfl rfl rfl rfl rfl rfl rfl rfl rfl rfl rfl, (by first | rfl | kernel_rfl), ?_⟩) | (refine ⟨_, _, _, a_fieldM (gd_on rfl rfl rfl rfl (by first | rfl | assumption | (simp; done))) rfl rfl rfl rfl rfl rfl rfl rfl rfl, (by first | rfl | kernel_rfl), ?_⟩))
  (first | (refine ⟨_, _, _, a_load_all (gd_on rfl rfl rfl rfl (by first | rfl | assumption | (simp; done))) rfl rfl rfl rfl rfl rfl rfl rfl rfl rfl rfl rfl, (by first | rfl | kernel_rfl), ?_⟩) | (refine ⟨_, _, _, a_load_tok (gd_on rfl rfl rfl rfl (by first | rfl | assumption | (simp; done))) rfl rfl rfl rfl rfl rfl rfl rfl rfl rfl rfl rfl rfl, (by first | rfl | kernel_rfl), ?_⟩) | (refine ⟨_, _, _, a_load_bp (gd_on rfl rfl rfl rfl (by first | rfl | assumption | (simp; done))) rfl rfl rfl rfl rfl rfl rfl rfl rfl rfl rfl rfl, (by first | rfl | kernel_rfl), ?_⟩) | (refine ⟨_, _, _, a_load_ad (gd_on rfl rfl rfl rfl (by first | rfl | assumption | (simp; done))) rfl rfl rfl rfl rfl rfl rfl rfl rfl, (by first | rfl | kernel_rfl), ?_⟩) | (refine ⟨_, _, _, a_load_ptr (gd_on rfl rfl rfl rfl (by first | rfl | assumption | (simp; done))) rfl rfl rfl rfl rfl rfl rfl rfl rfl, (by first | rfl | kernel_rfl), ?_⟩) | (refine ⟨_, _, _, a_load_fld (gd_on rfl rfl rfl rfl (by first | rfl | assumption | (simp; done))) rfl rfl rfl rfl rfl rfl rfl rfl rfl rfl rfl rfl rfl, (by first | rfl | kernel_rfl), ?_⟩) | (refine ⟨_, _, _, a_load_fullv (gd_on rfl rfl rfl rfl (by first | rfl | assumption | (simp; done))) rfl rfl rfl rfl rfl rfl rfl rfl rfl, (by first | rfl | kernel_rfl), ?_⟩))
  (first | (refine ⟨_, _, _, a_len (gd_on rfl rfl rfl rfl (by first | rfl | assumption | (simp; done))) rfl rfl rfl rfl rfl rfl rfl, (by first | rfl | kernel_rfl), ?_⟩) | (refine ⟨_, _, _, a_lenM (gd_on rfl rfl rfl rfl (by first | rfl | assumption | (simp; done))) rfl rfl rfl rfl rfl rfl rfl, (by first | rfl | kernel_rfl), ?_⟩))
  (refine ⟨_, _, _, a_lss (gd_on rfl rfl rfl rfl (by first | rfl | assumption | (simp; done))) rfl rfl rfl rfl rfl rfl, (by first | rfl | kernel_rfl), ?_⟩)
  (first | (refine ⟨_, _, _, a_pick_t (gd_none rfl) rfl rfl rfl rfl rfl ?hb rfl, rfl, ?_⟩; case hb => (first | rfl | assumption | (simp; done))) | (refine ⟨_, _, _, a_pick_f (gd_none rfl) rfl rfl rfl rfl rfl ?hb rfl, rfl, ?_⟩; case hb => (first | rfl | assumption | (simp; done))))
  show AWp _ _ _ _ _ _ _
  refine awp_cond rfl (fun hc => awp_skip ?_) (fun hc => awp_exit ?_)
  · have hkl : k < l.length := by
      simp only [List.length_map, decide_eq_true_eq] at hc
      omega
    clear hc
    obtain ⟨t, ht⟩ : ∃ t, l[k]? = some t := ⟨l[k], List.getElem?_eq_getElem hkl⟩
    have ht' := Tm.map_at ht
    have htm := List.mem_of_getElem? ht
    have hb1 := sum_take_at ht
    obtain ⟨O, hO⟩ : ∃ O, O = ([] :: Tm.placesL (l.take k) 0).map fun p => ah ++ p := ⟨_, rfl⟩
    have hOl : O.length = 1 + ((l.take k).map Tm.size).sum := by rw [hO, List.length_map, List.length_cons, placesL_len]; omega
    have hOz := rowC_size O
    rw [← hO]
    have ihc := (ih t htm (ah ++ [(k : Int)]) (hok t htm) (by simp; omega)).up hW
    rw [show (ah ++ [(k : Int)]).map CV.i = ([] ++ ah.map CV.i) ++ [CV.i k] by simp] at ihc
    have hnl : (t.places.map fun p => ah ++ [(k : Int)] ++ p).length = t.size := by rw [List.length_map, Tm.places_len]
    obtain ⟨X, hX⟩ : ∃ X, X = t.places.map fun p => ah ++ [(k : Int)] ++ p := ⟨_, rfl⟩
    rw [← hX] at hnl ihc
    have hXz := rowC_size X
    show AWp _ _ _ _ _ _ _
    refine awp_seq (awp_block (awp_draw (by kernel_rfl) (by kernel_rfl) ?_))
    (refine ⟨_, _, _, a_move (gd_none rfl) rfl rfl rfl rfl rfl, (by first | rfl | kernel_rfl), ?_⟩)
    (refine ⟨_, _, _, a_bslice0 (gd_none rfl) rfl rfl rfl rfl rfl rfl rfl rfl, (by first | rfl | kernel_rfl), ?_⟩)
    (refine ⟨_, _, _, a_move (gd_none rfl) rfl rfl rfl rfl rfl, (by first | rfl | kernel_rfl), ?_⟩)
    (first | (refine ⟨_, _, _, a_app (gd_none rfl) rfl rfl rfl rfl rfl rfl rfl rfl rfl rfl rfl rfl rfl rfl rfl (by first | assumption | exact szAll_spec rfl | exact Tm.size_all _ | exact Bd.size_all _ | exact ints_size _) (by first | assumption | exact szAll_spec rfl | exact Tm.size_all _ | exact Bd.size_all _ | exact ints_size _) (by first | omega | (simp only [List.length_map, List.length_append, List.length_cons, List.length_nil] <;> omega) | (simp <;> omega)), (by first | rfl | kernel_rfl), ?_⟩) | (refine ⟨_, _, _, a_app_nil (gd_none rfl) rfl rfl rfl rfl rfl rfl rfl rfl rfl rfl rfl (by first | assumption | exact szAll_spec rfl | exact Tm.size_all _ | exact Bd.size_all _ | exact ints_size _) (by first | assumption | exact szAll_spec rfl | exact Tm.size_all _ | exact Bd.size_all _ | exact ints_size _) (by first | omega | (simp only [List.length_map, List.length_append, List.length_cons, List.length_nil] <;> omega) | (simp <;> omega)), (by first | rfl | kernel_rfl), ?_⟩))
    (refine ⟨_, _, _, a_move (gd_none rfl) rfl rfl rfl rfl rfl, (by first | rfl | kernel_rfl), ?_⟩)
    (refine ⟨_, _, _, a_bslice (gd_none rfl) rfl rfl rfl rfl rfl rfl rfl rfl rfl rfl rfl rfl rfl, (by first | rfl | kernel_rfl), ?_⟩)
    (first | (refine ⟨_, _, _, a_app (gd_none rfl) rfl rfl rfl rfl rfl rfl rfl rfl rfl rfl rfl rfl rfl rfl rfl (by first | assumption | exact szAll_spec rfl | exact Tm.size_all _ | exact Bd.size_all _ | exact ints_size _) (by first | assumption | exact szAll_spec rfl | exact Tm.size_all _ | exact Bd.size_all _ | exact ints_size _) (by first | omega | (simp only [List.length_map, List.length_append, List.length_cons, List.length_nil] <;> omega) | (simp <;> omega)), (by first | rfl | kernel_rfl), ?_⟩) | (refine ⟨_, _, _, a_app_nil (gd_none rfl) rfl rfl rfl rfl rfl rfl rfl rfl rfl rfl rfl (by first | assumption | exact szAll_spec rfl | exact Tm.size_all _ | exact Bd.size_all _ | exact ints_size _) (by first | assumption | exact szAll_spec rfl | exact Tm.size_all _ | exact Bd.size_all _ | exact ints_size _) (by first | omega | (simp only [List.length_map, List.length_append, List.length_cons, List.length_nil] <;> omega) | (simp <;> omega)), (by first | rfl | kernel_rfl), ?_⟩))
    (first | (refine ⟨_, _, _, a_field_bp (gd_none rfl) rfl rfl rfl rfl rfl rfl rfl rfl rfl, (by first | rfl | kernel_rfl), ?_⟩) | (refine ⟨_, _, _, a_field_ad (gd_none rfl) rfl rfl rfl rfl rfl rfl rfl rfl rfl rfl rfl, (by first | rfl | kernel_rfl), ?_⟩) | (refine ⟨_, _, _, a_fieldM (gd_none rfl) rfl rfl rfl rfl rfl rfl rfl rfl rfl, (by first | rfl | kernel_rfl), ?_⟩))
    (first | (refine ⟨_, _, _, a_load_all (gd_none rfl) rfl rfl rfl rfl rfl rfl rfl rfl rfl rfl rfl rfl, (by first | rfl | kernel_rfl), ?_⟩) | (refine ⟨_, _, _, a_load_tok (gd_none rfl) rfl rfl rfl rfl rfl rfl rfl rfl rfl rfl rfl rfl rfl, (by first | rfl | kernel_rfl), ?_⟩) | (refine ⟨_, _, _, a_load_bp (gd_none rfl) rfl rfl rfl rfl rfl rfl rfl rfl rfl rfl rfl rfl, (by first | rfl | kernel_rfl), ?_⟩) | (refine ⟨_, _, _, a_load_ad (gd_none rfl) rfl rfl rfl rfl rfl rfl rfl rfl rfl, (by first | rfl | kernel_rfl), ?_⟩) | (refine ⟨_, _, _, a_load_ptr (gd_none rfl) rfl rfl rfl rfl rfl rfl rfl rfl rfl, (by first | rfl | kernel_rfl), ?_⟩) | (refine ⟨_, _, _, a_load_fld (gd_none rfl) rfl rfl rfl rfl rfl rfl rfl rfl rfl rfl rfl rfl rfl, (by first | rfl | kernel_rfl), ?_⟩) | (refine ⟨_, _, _, a_load_fullv (gd_none rfl) rfl rfl rfl rfl rfl rfl rfl rfl rfl, (by first | rfl | kernel_rfl), ?_⟩))
    (refine ⟨_, _, _, a_move (gd_none rfl) rfl rfl rfl rfl rfl, (by first | rfl | kernel_rfl), ?_⟩)
    (refine ⟨_, _, _, a_index (gd_none rfl) rfl rfl rfl rfl rfl rfl rfl rfl rfl (by assumption) rfl (by first | assumption | exact szAll_spec rfl | exact Tm.size_all _ | exact Bd.size_all _ | exact ints_size _), (by first | rfl | kernel_rfl), ?_⟩)
    (first | (refine ⟨_, _, _, a_load_all (gd_none rfl) rfl rfl rfl rfl rfl rfl rfl rfl rfl rfl rfl rfl, (by first | rfl | kernel_rfl), ?_⟩) | (refine ⟨_, _, _, a_load_tok (gd_none rfl) rfl rfl rfl rfl rfl rfl rfl rfl rfl rfl rfl rfl rfl, (by first | rfl | kernel_rfl), ?_⟩) | (refine ⟨_, _, _, a_load_bp (gd_none rfl) rfl rfl rfl rfl rfl rfl rfl rfl rfl rfl rfl rfl, (by first | rfl | kernel_rfl), ?_⟩) | (refine ⟨_, _, _, a_load_ad (gd_none rfl) rfl rfl rfl rfl rfl rfl rfl rfl rfl, (by first | rfl | kernel_rfl), ?_⟩) | (refine ⟨_, _, _, a_load_ptr (gd_none rfl) rfl rfl rfl rfl rfl rfl rfl rfl rfl, (by first | rfl | kernel_rfl), ?_⟩) | (refine ⟨_, _, _, a_load_fld (gd_none rfl) rfl rfl rfl rfl rfl rfl rfl rfl rfl rfl rfl rfl rfl, (by first | rfl | kernel_rfl), ?_⟩) | (refine ⟨_, _, _, a_load_fullv (gd_none rfl) rfl rfl rfl rfl rfl rfl rfl rfl rfl, (by first | rfl | kernel_rfl), ?_⟩))
    (refine ⟨_, _, _, a_call (gd_none rfl) rfl rfl rfl rfl rfl (ihc), (by first | rfl | kernel_rfl), ?_⟩)
    (first | (refine ⟨_, _, _, a_app (gd_none rfl) rfl rfl rfl rfl rfl rfl rfl rfl rfl rfl rfl rfl rfl rfl rfl (by first | assumption | exact szAll_spec rfl | exact Tm.size_all _ | exact Bd.size_all _ | exact ints_size _) (by first | assumption | exact szAll_spec rfl | exact Tm.size_all _ | exact Bd.size_all _ | exact ints_size _) (by first | omega | (simp only [List.length_map, List.length_append, List.length_cons, List.length_nil] <;> omega) | (simp <;> omega)), (by first | rfl | kernel_rfl), ?_⟩) | (refine ⟨_, _, _, a_app_nil (gd_none rfl) rfl rfl rfl rfl rfl rfl rfl rfl rfl rfl rfl (by first | assumption | exact szAll_spec rfl | exact Tm.size_all _ | exact Bd.size_all _ | exact ints_size _) (by first | assumption | exact szAll_spec rfl | exact Tm.size_all _ | exact Bd.size_all _ | exact ints_size _) (by first | omega | (simp only [List.length_map, List.length_append, List.length_cons, List.length_nil] <;> omega) | (simp <;> omega)), (by first | rfl | kernel_rfl), ?_⟩))
    (refine ⟨_, _, _, a_assign (gd_none rfl) rfl rfl rfl rfl rfl, (by first | rfl | kernel_rfl), ?_⟩)
    refine ⟨by kernel_rfl, ?_⟩
    show AWp _ _ _ _ _ _ _
    refine awp_region ?_
    (refine ⟨_, _, _, a_move (gd_none rfl) rfl rfl rfl rfl rfl, (by first | rfl | kernel_rfl), ?_⟩)
    (refine ⟨_, _, _, a_add (gd_none rfl) rfl rfl rfl rfl rfl rfl (by first | omega | (simp only [List.length_map, List.length_append, List.length_cons, List.length_nil] <;> omega) | (simp <;> omega)), (by first | rfl | kernel_rfl), ?_⟩)
    (refine ⟨_, _, _, a_assign (gd_none rfl) rfl rfl rfl rfl rfl, (by first | rfl | kernel_rfl), ?_⟩)
    refine ⟨hkl, Wk.trans (wk_sub (s' := [(0, .val (.lst (ah.map CV.i))), (3, .bp 3 0 []), (100003, .bx (Tm.cw ⟨f, l⟩)), (5, .own (.lst ((([] :: Tm.placesL (l.take (k + 1)) 0).map fun p => ah ++ p).map rowC)) 300034), (300034, .tok 29 1), (6, .val (.i ((k + 1 : Nat) : Int)))]) ⟨rfl, rfl, rfl, ?_, rfl, rfl, trivial⟩) (wk_ren 300034 200034 rfl rfl rfl rfl)⟩
    have e : ([] :: Tm.placesL (l.take (k + 1)) 0).map (fun p => ah ++ p) = O ++ X := by
      rw [List.take_add_one, ht, Option.toList_some, Tm.placesL_snoc, hO, hX, List.length_take, Nat.min_eq_left (by omega), ← List.cons_append, List.map_append, List.map_map]
      congr 1
      refine List.map_congr_left fun p _ => ?_
      show ah ++ ((0 + k : Nat) : Int) :: p = _
      simp
    rw [e, List.map_append]
    rfl
  · have hkl : k = l.length := by
      simp only [List.length_map, decide_eq_false_iff_not] at hc
      omega
    subst hkl
    rw [List.take_length]
    show AWp _ _ _ _ _ _ _
    refine awp_seq (awp_region ?_)
    (refine ⟨_, _, _, a_move (gd_none rfl) rfl rfl rfl rfl rfl, (by first | rfl | kernel_rfl), ?_⟩)
    (refine ⟨_, _, _, a_assign (gd_none rfl) rfl rfl rfl rfl rfl, (by first | rfl | kernel_rfl), ?_⟩)
    show AWp _ _ _ _ _ _ _
    exact awp_ret (And.intro (.inr rfl) rfl)

-- 
set_option maxHeartbeats 2000000 in
theorem samePlaces_abs (W : World) (a b : List (List Int)) (ha : a.length ≤ 1000000) (hp : ∀ p ∈ a, p.length ≤ 1000000) : AFun Try.prog W 12 [.lst (a.map rowC), .lst (b.map rowC)] (.val (.b (decide (a = b)))) := by
  have hsa := rowC_size a
  have hsb := rowC_size b
  refine afun_of (rs := [.b (decide (a = b))]) Try.func12 Try.ntmps12 rfl rfl rfl rfl ?_
  intro w U hW
  refine awp_seq (awp_region ?_)
  (refine ⟨_, _, _, a_assign (gd_none rfl) rfl rfl rfl rfl rfl, (by first | rfl | kernel_rfl), ?_⟩)
  show AWp _ _ _ _ _ _ _
  refine awp_seq (awp_seq (awp_region ?_))
  (refine ⟨_, _, _, a_move (gd_none rfl) rfl rfl rfl rfl rfl, (by first | rfl | kernel_rfl), ?_⟩)
  (first | (refine ⟨_, _, _, a_len (gd_none rfl) rfl rfl rfl rfl rfl rfl rfl, (by first | rfl | kernel_rfl), ?_⟩) | (refine ⟨_, _, _, a_lenM (gd_none rfl) rfl rfl rfl rfl rfl rfl rfl, (by first | rfl | kernel_rfl), ?_⟩))
  (refine ⟨_, _, _, a_move (gd_none rfl) rfl rfl rfl rfl rfl, (by first | rfl | kernel_rfl), ?_⟩)
  (first | (refine ⟨_, _, _, a_len (gd_none rfl) rfl rfl rfl rfl rfl rfl rfl, (by first | rfl | kernel_rfl), ?_⟩) | (refine ⟨_, _, _, a_lenM (gd_none rfl) rfl rfl rfl rfl rfl rfl rfl, (by first | rfl | kernel_rfl), ?_⟩))
  (first | (refine ⟨_, _, _, a_neq (gd_none rfl) rfl rfl rfl rfl rfl rfl, (by first | rfl | kernel_rfl), ?_⟩) | (refine ⟨_, _, _, a_bne (gd_none rfl) rfl rfl rfl rfl rfl rfl rfl, (by first | rfl | kernel_rfl), ?_⟩))
  show AWp _ _ _ _ _ _ _
  refine awp_cond rfl (fun hc => ?_) (fun hc => awp_skip ?_)
  · have h : a.length ≠ b.length := by
      simp only [List.length_map] at hc
      simp at hc
      omega
    rw [show decide (a = b) = false by rw [decide_eq_false_iff_not]; intro e; rw [e] at h; exact h rfl]
    refine awp_seq (awp_region ?_)
    (refine ⟨_, _, _, a_assign (gd_none rfl) rfl rfl rfl rfl rfl, (by first | rfl | kernel_rfl), ?_⟩)
    show AWp _ _ _ _ _ _ _
    exact awp_ret (And.intro (.inr rfl) rfl)
  have hlen : a.length = b.length := by
    simp only [List.length_map] at hc
    simp at hc
    omega
  clear hc
  show AWp _ _ _ _ _ _ _
  refine awp_seq (awp_seq (awp_region ?_))
  (refine ⟨_, _, _, a_assign (gd_none rfl) rfl rfl rfl rfl rfl, (by first | rfl | kernel_rfl), ?_⟩)
  show AWp _ _ _ _ _ _ _
  refine awp_block (awp_countI a.length (fun i => a.take i = b.take i) (fun i => [(0, .val (.lst (a.map rowC))), (1, .val (.lst (b.map rowC))), (5, .val (.i i))]) (wk_sub ⟨rfl, rfl, rfl, trivial⟩) (by simp) ?_)
  intro i hi hI
  refine awp_seq (awp_seq (awp_region ?_))
  (refine ⟨_, _, _, a_move (gd_none rfl) rfl rfl rfl rfl rfl, (by first | rfl | kernel_rfl), ?_⟩)
  (refine ⟨_, _, _, a_move (gd_none rfl) rfl rfl rfl rfl rfl, (by first | rfl | kernel_rfl), ?_⟩)
  (first | (refine ⟨_, _, _, a_len (gd_none rfl) rfl rfl rfl rfl rfl rfl rfl, (by first | rfl | kernel_rfl), ?_⟩) | (refine ⟨_, _, _, a_lenM (gd_none rfl) rfl rfl rfl rfl rfl rfl rfl, (by first | rfl | kernel_rfl), ?_⟩))
  (refine ⟨_, _, _, a_lss (gd_none rfl) rfl rfl rfl rfl rfl rfl, (by first | rfl | kernel_rfl), ?_⟩)
  show AWp _ _ _ _ _ _ _
  refine awp_cond rfl (fun hc => awp_skip ?_) (fun hc => awp_exit ?_)
  · have hil : i < a.length := by
      simp only [List.length_map, decide_eq_true_eq] at hc
      omega
    clear hc
    obtain ⟨p, hpp⟩ : ∃ p, a[i]? = some p := ⟨a[i], List.getElem?_eq_getElem hil⟩
    obtain ⟨q, hqq⟩ : ∃ q, b[i]? = some q := ⟨b[i], List.getElem?_eq_getElem (by omega)⟩
    have hp' := rowC_at hpp
    have hq' := rowC_at hqq
    have hpl := hp p (List.mem_of_getElem? hpp)
    have hps := ints_size p
    have hqs := ints_size q
    have hdiff : p ≠ q → decide (a = b) = false := fun hne => by
      rw [decide_eq_false_iff_not]
      intro e
      rw [e, hqq] at hpp
      exact hne (Option.some.inj hpp).symm
    show AWp _ _ _ _ _ _ _
    refine awp_seq (awp_block (awp_seq (awp_seq (awp_draw (by kernel_rfl) (by kernel_rfl) ?_))))
    (refine ⟨_, _, _, a_move (gd_none rfl) rfl rfl rfl rfl rfl, (by first | rfl | kernel_rfl), ?_⟩)
    (refine ⟨_, _, _, a_move (gd_none rfl) rfl rfl rfl rfl rfl, (by first | rfl | kernel_rfl), ?_⟩)
    (refine ⟨_, _, _, a_index (gd_none rfl) rfl rfl rfl rfl rfl rfl rfl rfl rfl (by assumption) rfl (by first | assumption | exact szAll_spec rfl | exact Tm.size_all _ | exact Bd.size_all _ | exact ints_size _), (by first | rfl | kernel_rfl), ?_⟩)
    (first | (refine ⟨_, _, _, a_load_all (gd_none rfl) rfl rfl rfl rfl rfl rfl rfl rfl rfl rfl rfl rfl, (by first | rfl | kernel_rfl), ?_⟩) | (refine ⟨_, _, _, a_load_tok (gd_none rfl) rfl rfl rfl rfl rfl rfl rfl rfl rfl rfl rfl rfl rfl, (by first | rfl | kernel_rfl), ?_⟩) | (refine ⟨_, _, _, a_load_bp (gd_none rfl) rfl rfl rfl rfl rfl rfl rfl rfl rfl rfl rfl rfl, (by first | rfl | kernel_rfl), ?_⟩) | (refine ⟨_, _, _, a_load_ad (gd_none rfl) rfl rfl rfl rfl rfl rfl rfl rfl rfl, (by first | rfl | kernel_rfl), ?_⟩) | (refine ⟨_, _, _, a_load_ptr (gd_none rfl) rfl rfl rfl rfl rfl rfl rfl rfl rfl, (by first | rfl | kernel_rfl), ?_⟩) | (refine ⟨_, _, _, a_load_fld (gd_none rfl) rfl rfl rfl rfl rfl rfl rfl rfl rfl rfl rfl rfl rfl, (by first | rfl | kernel_rfl), ?_⟩) | (refine ⟨_, _, _, a_load_fullv (gd_none rfl) rfl rfl rfl rfl rfl rfl rfl rfl rfl, (by first | rfl | kernel_rfl), ?_⟩))
    (first | (refine ⟨_, _, _, a_len (gd_none rfl) rfl rfl rfl rfl rfl rfl rfl, (by first | rfl | kernel_rfl), ?_⟩) | (refine ⟨_, _, _, a_lenM (gd_none rfl) rfl rfl rfl rfl rfl rfl rfl, (by first | rfl | kernel_rfl), ?_⟩))
    (refine ⟨_, _, _, a_move (gd_none rfl) rfl rfl rfl rfl rfl, (by first | rfl | kernel_rfl), ?_⟩)
    (refine ⟨_, _, _, a_move (gd_none rfl) rfl rfl rfl rfl rfl, (by first | rfl | kernel_rfl), ?_⟩)
    (refine ⟨_, _, _, a_index (gd_none rfl) rfl rfl rfl rfl rfl rfl rfl rfl rfl (by assumption) rfl (by first | assumption | exact szAll_spec rfl | exact Tm.size_all _ | exact Bd.size_all _ | exact ints_size _), (by first | rfl | kernel_rfl), ?_⟩)
    (first | (refine ⟨_, _, _, a_load_all (gd_none rfl) rfl rfl rfl rfl rfl rfl rfl rfl rfl rfl rfl rfl, (by first | rfl | kernel_rfl), ?_⟩) | (refine ⟨_, _, _, a_load_tok (gd_none rfl) rfl rfl rfl rfl rfl rfl rfl rfl rfl rfl rfl rfl rfl, (by first | rfl | kernel_rfl), ?_⟩) | (refine ⟨_, _, _, a_load_bp (gd_none rfl) rfl rfl rfl rfl rfl rfl rfl rfl rfl rfl rfl rfl, (by first | rfl | kernel_rfl), ?_⟩) | (refine ⟨_, _, _, a_load_ad (gd_none rfl) rfl rfl rfl rfl rfl rfl rfl rfl rfl, (by first | rfl | kernel_rfl), ?_⟩) | (refine ⟨_, _, _, a_load_ptr (gd_none rfl) rfl rfl rfl rfl rfl rfl rfl rfl rfl, (by first | rfl | kernel_rfl), ?_⟩) | (refine ⟨_, _, _, a_load_fld (gd_none rfl) rfl rfl rfl rfl rfl rfl rfl rfl rfl rfl rfl rfl rfl, (by first | rfl | kernel_rfl), ?_⟩) | (refine ⟨_, _, _, a_load_fullv (gd_none rfl) rfl rfl rfl rfl rfl rfl rfl rfl rfl, (by first | rfl | kernel_rfl), ?_⟩))
    (first | (refine ⟨_, _, _, a_len (gd_none rfl) rfl rfl rfl rfl rfl rfl rfl, (by first | rfl | kernel_rfl), ?_⟩) | (refine ⟨_, _, _, a_lenM (gd_none rfl) rfl rfl rfl rfl rfl rfl rfl, (by first | rfl | kernel_rfl), ?_⟩))
    (first | (refine ⟨_, _, _, a_neq (gd_none rfl) rfl rfl rfl rfl rfl rfl, (by first | rfl | kernel_rfl), ?_⟩) | (refine ⟨_, _, _, a_bne (gd_none rfl) rfl rfl rfl rfl rfl rfl rfl, (by first | rfl | kernel_rfl), ?_⟩))
    refine ⟨by kernel_rfl, ?_⟩
    show AWp _ _ _ _ _ _ _
    refine awp_cond rfl (fun hc => ?_) (fun hc => awp_skip ?_)
    · have h : p.length ≠ q.length := by
        simp only [List.length_map] at hc
        simp at hc
        omega
      rw [hdiff fun e => h (by rw [e])]
      refine awp_seq (awp_region ?_)
      (refine ⟨_, _, _, a_assign (gd_none rfl) rfl rfl rfl rfl rfl, (by first | rfl | kernel_rfl), ?_⟩)
      show AWp _ _ _ _ _ _ _
      exact awp_ret (And.intro (.inr rfl) rfl)
    have hpq : p.length = q.length := by
      simp only [List.length_map] at hc
      simp at hc
      omega
    clear hc
    show AWp _ _ _ _ _ _ _
    refine AWp.wk (wk_sub (s' := [(0, .val (.lst (a.map rowC))), (1, .val (.lst (b.map rowC))), (5, .val (.i i))]) ⟨rfl, rfl, rfl, trivial⟩) ?_
    refine awp_seq (awp_region ?_)
    (refine ⟨_, _, _, a_assign (gd_none rfl) rfl rfl rfl rfl rfl, (by first | rfl | kernel_rfl), ?_⟩)
    show AWp _ _ _ _ _ _ _
    refine awp_block (awp_countI p.length (fun k => p.take k = q.take k) (fun k => [(0, .val (.lst (a.map rowC))), (1, .val (.lst (b.map rowC))), (5, .val (.i i)), (6, .val (.i k))]) (wk_sub ⟨rfl, rfl, rfl, rfl, trivial⟩) (by simp) ?_)
    intro k hk hJ
    refine awp_seq (awp_seq (awp_region ?_))
    (refine ⟨_, _, _, a_move (gd_none rfl) rfl rfl rfl rfl rfl, (by first | rfl | kernel_rfl), ?_⟩)
    (refine ⟨_, _, _, a_move (gd_none rfl) rfl rfl rfl rfl rfl, (by first | rfl | kernel_rfl), ?_⟩)
    (refine ⟨_, _, _, a_move (gd_none rfl) rfl rfl rfl rfl rfl, (by first | rfl | kernel_rfl), ?_⟩)
    (refine ⟨_, _, _, a_index (gd_none rfl) rfl rfl rfl rfl rfl rfl rfl rfl rfl (by assumption) rfl (by first | assumption | exact szAll_spec rfl | exact Tm.size_all _ | exact Bd.size_all _ | exact ints_size _), (by first | rfl | kernel_rfl), ?_⟩)
    (first | (refine ⟨_, _, _, a_load_all (gd_none rfl) rfl rfl rfl rfl rfl rfl rfl rfl rfl rfl rfl rfl, (by first | rfl | kernel_rfl), ?_⟩) | (refine ⟨_, _, _, a_load_tok (gd_none rfl) rfl rfl rfl rfl rfl rfl rfl rfl rfl rfl rfl rfl rfl, (by first | rfl | kernel_rfl), ?_⟩) | (refine ⟨_, _, _, a_load_bp (gd_none rfl) rfl rfl rfl rfl rfl rfl rfl rfl rfl rfl rfl rfl, (by first | rfl | kernel_rfl), ?_⟩) | (refine ⟨_, _, _, a_load_ad (gd_none rfl) rfl rfl rfl rfl rfl rfl rfl rfl rfl, (by first | rfl | kernel_rfl), ?_⟩) | (refine ⟨_, _, _, a_load_ptr (gd_none rfl) rfl rfl rfl rfl rfl rfl rfl rfl rfl, (by first | rfl | kernel_rfl), ?_⟩) | (refine ⟨_, _, _, a_load_fld (gd_none rfl) rfl rfl rfl rfl rfl rfl rfl rfl rfl rfl rfl rfl rfl, (by first | rfl | kernel_rfl), ?_⟩) | (refine ⟨_, _, _, a_load_fullv (gd_none rfl) rfl rfl rfl rfl rfl rfl rfl rfl rfl, (by first | rfl | kernel_rfl), ?_⟩))
    (first | (refine ⟨_, _, _, a_len (gd_none rfl) rfl rfl rfl rfl rfl rfl rfl, (by first | rfl | kernel_rfl), ?_⟩) | (refine ⟨_, _, _, a_lenM (gd_none rfl) rfl rfl rfl rfl rfl rfl rfl, (by first | rfl | kernel_rfl), ?_⟩))
    (refine ⟨_, _, _, a_lss (gd_none rfl) rfl rfl rfl rfl rfl rfl, (by first | rfl | kernel_rfl), ?_⟩)
    show AWp _ _ _ _ _ _ _
    refine awp_cond rfl (fun hc => awp_skip ?_) (fun hc => awp_exit ?_)
    · have hkl : k < p.length := by
        simp only [List.length_map, decide_eq_true_eq] at hc
        omega
      clear hc
      obtain ⟨x, hx⟩ : ∃ x, p[k]? = some x := ⟨p[k], List.getElem?_eq_getElem hkl⟩
      obtain ⟨y, hy⟩ : ∃ y, q[k]? = some y := ⟨q[k], List.getElem?_eq_getElem (by omega)⟩
      have hx' := ints_at hx
      have hy' := ints_at hy
      show AWp _ _ _ _ _ _ _
      refine awp_seq (awp_block (awp_seq (awp_draw (by kernel_rfl) (by kernel_rfl) ?_)))
      (refine ⟨_, _, _, a_move (gd_none rfl) rfl rfl rfl rfl rfl, (by first | rfl | kernel_rfl), ?_⟩)
      (refine ⟨_, _, _, a_move (gd_none rfl) rfl rfl rfl rfl rfl, (by first | rfl | kernel_rfl), ?_⟩)
      (refine ⟨_, _, _, a_index (gd_none rfl) rfl rfl rfl rfl rfl rfl rfl rfl rfl (by assumption) rfl (by first | assumption | exact szAll_spec rfl | exact Tm.size_all _ | exact Bd.size_all _ | exact ints_size _), (by first | rfl | kernel_rfl), ?_⟩)
      (first | (refine ⟨_, _, _, a_load_all (gd_none rfl) rfl rfl rfl rfl rfl rfl rfl rfl rfl rfl rfl rfl, (by first | rfl | kernel_rfl), ?_⟩) | (refine ⟨_, _, _, a_load_tok (gd_none rfl) rfl rfl rfl rfl rfl rfl rfl rfl rfl rfl rfl rfl rfl, (by first | rfl | kernel_rfl), ?_⟩) | (refine ⟨_, _, _, a_load_bp (gd_none rfl) rfl rfl rfl rfl rfl rfl rfl rfl rfl rfl rfl rfl, (by first | rfl | kernel_rfl), ?_⟩) | (refine ⟨_, _, _, a_load_ad (gd_none rfl) rfl rfl rfl rfl rfl rfl rfl rfl rfl, (by first | rfl | kernel_rfl), ?_⟩) | (refine ⟨_, _, _, a_load_ptr (gd_none rfl) rfl rfl rfl rfl rfl rfl rfl rfl rfl, (by first | rfl | kernel_rfl), ?_⟩) | (refine ⟨_, _, _, a_load_fld (gd_none rfl) rfl rfl rfl rfl rfl rfl rfl rfl rfl rfl rfl rfl rfl, (by first | rfl | kernel_rfl), ?_⟩) | (refine ⟨_, _, _, a_load_fullv (gd_none rfl) rfl rfl rfl rfl rfl rfl rfl rfl rfl, (by first | rfl | kernel_rfl), ?_⟩))
      (refine ⟨_, _, _, a_move (gd_none rfl) rfl rfl rfl rfl rfl, (by first | rfl | kernel_rfl), ?_⟩)
      (refine ⟨_, _, _, a_index (gd_none rfl) rfl rfl rfl rfl rfl rfl rfl rfl rfl (by assumption) rfl (by first | assumption | exact szAll_spec rfl | exact Tm.size_all _ | exact Bd.size_all _ | exact ints_size _), (by first | rfl | kernel_rfl), ?_⟩)
      (first | (refine ⟨_, _, _, a_load_all (gd_none rfl) rfl rfl rfl rfl rfl rfl rfl rfl rfl rfl rfl rfl, (by first | rfl | kernel_rfl), ?_⟩) | (refine ⟨_, _, _, a_load_tok (gd_none rfl) rfl rfl rfl rfl rfl rfl rfl rfl rfl rfl rfl rfl rfl, (by first | rfl | kernel_rfl), ?_⟩) | (refine ⟨_, _, _, a_load_bp (gd_none rfl) rfl rfl rfl rfl rfl rfl rfl rfl rfl rfl rfl rfl, (by first | rfl | kernel_rfl), ?_⟩) | (refine ⟨_, _, _, a_load_ad (gd_none rfl) rfl rfl rfl rfl rfl rfl rfl rfl rfl, (by first | rfl | kernel_rfl), ?_⟩) | (refine ⟨_, _, _, a_load_ptr (gd_none rfl) rfl rfl rfl rfl rfl rfl rfl rfl rfl, (by first | rfl | kernel_rfl), ?_⟩) | (refine ⟨_, _, _, a_load_fld (gd_none rfl) rfl rfl rfl rfl rfl rfl rfl rfl rfl rfl rfl rfl rfl, (by first | rfl | kernel_rfl), ?_⟩) | (refine ⟨_, _, _, a_load_fullv (gd_none rfl) rfl rfl rfl rfl rfl rfl rfl rfl rfl, (by first | rfl | kernel_rfl), ?_⟩))
      (refine ⟨_, _, _, a_move (gd_none rfl) rfl rfl rfl rfl rfl, (by first | rfl | kernel_rfl), ?_⟩)
      (refine ⟨_, _, _, a_move (gd_none rfl) rfl rfl rfl rfl rfl, (by first | rfl | kernel_rfl), ?_⟩)
      (refine ⟨_, _, _, a_index (gd_none rfl) rfl rfl rfl rfl rfl rfl rfl rfl rfl (by assumption) rfl (by first | assumption | exact szAll_spec rfl | exact Tm.size_all _ | exact Bd.size_all _ | exact ints_size _), (by first | rfl | kernel_rfl), ?_⟩)
      (first | (refine ⟨_, _, _, a_load_all (gd_none rfl) rfl rfl rfl rfl rfl rfl rfl rfl rfl rfl rfl rfl, (by first | rfl | kernel_rfl), ?_⟩) | (refine ⟨_, _, _, a_load_tok (gd_none rfl) rfl rfl rfl rfl rfl rfl rfl rfl rfl rfl rfl rfl rfl, (by first | rfl | kernel_rfl), ?_⟩) | (refine ⟨_, _, _, a_load_bp (gd_none rfl) rfl rfl rfl rfl rfl rfl rfl rfl rfl rfl rfl rfl, (by first | rfl | kernel_rfl), ?_⟩) | (refine ⟨_, _, _, a_load_ad (gd_none rfl) rfl rfl rfl rfl rfl rfl rfl rfl rfl, (by first | rfl | kernel_rfl), ?_⟩) | (refine ⟨_, _, _, a_load_ptr (gd_none rfl) rfl rfl rfl rfl rfl rfl rfl rfl rfl, (by first | rfl | kernel_rfl), ?_⟩) | (refine ⟨_, _, _, a_load_fld (gd_none rfl) rfl rfl rfl rfl rfl rfl rfl rfl rfl rfl rfl rfl rfl, (by first | rfl | kernel_rfl), ?_⟩) | (refine ⟨_, _, _, a_load_fullv (gd_none rfl) rfl rfl rfl rfl rfl rfl rfl rfl rfl, (by first | rfl | kernel_rfl), ?_⟩))
      (refine ⟨_, _, _, a_move (gd_none rfl) rfl rfl rfl rfl rfl, (by first | rfl | kernel_rfl), ?_⟩)
      (refine ⟨_, _, _, a_index (gd_none rfl) rfl rfl rfl rfl rfl rfl rfl rfl rfl (by assumption) rfl (by first | assumption | exact szAll_spec rfl | exact Tm.size_all _ | exact Bd.size_all _ | exact ints_size _), (by first | rfl | kernel_rfl), ?_⟩)
      (first | (refine ⟨_, _, _, a_load_all (gd_none rfl) rfl rfl rfl rfl rfl rfl rfl rfl rfl rfl rfl rfl, (by first | rfl | kernel_rfl), ?_⟩) | (refine ⟨_, _, _, a_load_tok (gd_none rfl) rfl rfl rfl rfl rfl rfl rfl rfl rfl rfl rfl rfl rfl, (by first | rfl | kernel_rfl), ?_⟩) | (refine ⟨_, _, _, a_load_bp (gd_none rfl) rfl rfl rfl rfl rfl rfl rfl rfl rfl rfl rfl rfl, (by first | rfl | kernel_rfl), ?_⟩) | (refine ⟨_, _, _, a_load_ad (gd_none rfl) rfl rfl rfl rfl rfl rfl rfl rfl rfl, (by first | rfl | kernel_rfl), ?_⟩) | (refine ⟨_, _, _, a_load_ptr (gd_none rfl) rfl rfl rfl rfl rfl rfl rfl rfl rfl, (by first | rfl | kernel_rfl), ?_⟩) | (refine ⟨_, _, _, a_load_fld (gd_none rfl) rfl rfl rfl rfl rfl rfl rfl rfl rfl rfl rfl rfl rfl, (by first | rfl | kernel_rfl), ?_⟩) | (refine ⟨_, _, _, a_load_fullv (gd_none rfl) rfl rfl rfl rfl rfl rfl rfl rfl rfl, (by first | rfl | kernel_rfl), ?_⟩))
      (first | (refine ⟨_, _, _, a_neq (gd_none rfl) rfl rfl rfl rfl rfl rfl, (by first | rfl | kernel_rfl), ?_⟩) | (refine ⟨_, _, _, a_bne (gd_none rfl) rfl rfl rfl rfl rfl rfl rfl, (by first | rfl | kernel_rfl), ?_⟩))
      refine ⟨by kernel_rfl, ?_⟩
      show AWp _ _ _ _ _ _ _
      refine awp_cond rfl (fun hc => ?_) (fun hc => awp_skip ?_)
      · have hne : x ≠ y := by simpa using hc
        rw [hdiff fun e => hne (by rw [e, hy] at hx; exact (Option.some.inj hx).symm)]
        refine awp_seq (awp_region ?_)
        (refine ⟨_, _, _, a_assign (gd_none rfl) rfl rfl rfl rfl rfl, (by first | rfl | kernel_rfl), ?_⟩)
        show AWp _ _ _ _ _ _ _
        exact awp_ret (And.intro (.inr rfl) rfl)
      have he : x = y := by simpa using hc
      clear hc
      show AWp _ _ _ _ _ _ _
      refine awp_region ?_
      (refine ⟨_, _, _, a_move (gd_none rfl) rfl rfl rfl rfl rfl, (by first | rfl | kernel_rfl), ?_⟩)
      (refine ⟨_, _, _, a_add (gd_none rfl) rfl rfl rfl rfl rfl rfl (by first | omega | (simp only [List.length_map, List.length_append, List.length_cons, List.length_nil] <;> omega) | (simp <;> omega)), (by first | rfl | kernel_rfl), ?_⟩)
      (refine ⟨_, _, _, a_assign (gd_none rfl) rfl rfl rfl rfl rfl, (by first | rfl | kernel_rfl), ?_⟩)
      refine ⟨hkl, ?_, wk_sub ⟨rfl, rfl, rfl, rfl, trivial⟩⟩
      show p.take (k + 1) = q.take (k + 1)
      rw [List.take_add_one, List.take_add_one, hJ, hx, hy, he]
    · have hkl : k = p.length := by
        simp only [List.length_map, decide_eq_false_iff_not] at hc
        omega
      subst hkl
      rw [List.take_length, hpq, List.take_length] at hJ
      show AWp _ _ _ _ _ _ _
      refine awp_region ?_
      (refine ⟨_, _, _, a_move (gd_none rfl) rfl rfl rfl rfl rfl, (by first | rfl | kernel_rfl), ?_⟩)
      (refine ⟨_, _, _, a_add (gd_none rfl) rfl rfl rfl rfl rfl rfl (by first | omega | (simp only [List.length_map, List.length_append, List.length_cons, List.length_nil] <;> omega) | (simp <;> omega)), (by first | rfl | kernel_rfl), ?_⟩)
      (refine ⟨_, _, _, a_assign (gd_none rfl) rfl rfl rfl rfl rfl, (by first | rfl | kernel_rfl), ?_⟩)
      refine ⟨hil, ?_, wk_sub ⟨rfl, rfl, rfl, trivial⟩⟩
      show a.take (i + 1) = b.take (i + 1)
      rw [List.take_add_one, List.take_add_one, hI, hpp, hqq, hJ]
  · have hil : i = a.length := by
      simp only [List.length_map, decide_eq_false_iff_not] at hc
      omega
    subst hil
    rw [List.take_length, hlen, List.take_length] at hI
    rw [show decide (a = b) = true by simpa using hI]
    show AWp _ _ _ _ _ _ _
    refine awp_seq (awp_region ?_)
    (refine ⟨_, _, _, a_assign (gd_none rfl) rfl rfl rfl rfl rfl, (by first | rfl | kernel_rfl), ?_⟩)
    show AWp _ _ _ _ _ _ _
    exact awp_ret (And.intro (.inr rfl) rfl)
end Go.Proofs.Ytgmllfjidhbjjab


namespace Go.Proofs.Ytgmllfjidhbjjab
set_option linter.unusedVariables false
set_option linter.unusedSimpArgs false

noncomputable def okAt (p t : Tm) (q : List Int) : Bool := match atP q t with
  | some s => decide (¬ s.f < 0) && (mt p s []).1
  | none => false
theorem okAt_nil (p t : Tm) : okAt p t [] = (decide (¬ t.f < 0) && (mt p t []).1) := rfl
theorem okAt_cons {p t s : Tm} {k : Int} (h : t.pa k = some s) (q : List Int) : okAt p t (k :: q) = okAt p s q := by
  unfold okAt
  rw [atP, h]
  rfl
theorem pmL_filter {p t : Tm} (pl : List Int) : ∀ (l : List Tm) (i : Nat), (∀ j s, l[j]? = some s → t.pa ((i + j : Nat) : Int) = some s) → (∀ s ∈ l, ∀ pl, pm p s pl = (s.places.filter (okAt p s)).map (pl ++ ·)) →
    pmL p l i pl = ((Tm.placesL l i).filter (okAt p t)).map (pl ++ ·)
  | [], i, h, ih => by rw [pmL_nil, placesL_nil]; rfl
  | s :: l, i, h, ih => by
    have h0 : t.pa (i : Int) = some s := h 0 s rfl
    rw [pmL_cons, placesL_cons, List.filter_append, List.map_append, ih s (List.mem_cons_self ..), pmL_filter pl l (i + 1) (fun j x hx => by rw [show i + 1 + j = i + (j + 1) by omega]; exact h (j + 1) x (by simpa using hx)) (fun x hx => ih x (List.mem_cons_of_mem _ hx))]
    congr 1
    rw [List.filter_map, List.map_map]
    have : (okAt p t ∘ fun q => (i : Int) :: q) = okAt p s := by
      funext q
      exact okAt_cons h0 q
    rw [this]
    refine List.map_congr_left fun q _ => ?_
    show pl ++ [(i : Int)] ++ q = pl ++ ((i : Int) :: q)
    rw [List.append_assoc]
    rfl
theorem pm_filter (p t : Tm) : ∀ pl : List Int, pm p t pl = (t.places.filter (okAt p t)).map (pl ++ ·) := by
  induction t using Tm.indp with
  | h t ih =>
    intro pl
    rw [pm_eq, Tm.places_eq, List.filter_cons, okAt_nil]
    by_cases hf : t.f < 0
    · rw [if_pos hf, Tm.ps_of_var hf, placesL_nil]
      simp [hf]
    · have hps : t.ps = t.l := Tm.ps_of_sym (by omega)
      rw [hps] at ih
      rw [if_neg hf, hps, pmL_filter (t := t) pl t.l 0 (fun j s hs => by
        unfold Tm.pa
        rw [if_pos (by omega), Int.toNat_natCast, Nat.zero_add, hps, hs]) ih]
      by_cases hm : (mt p t []).1 = true
      · simp [hf, hm]
      · simp [hf, hm]
theorem pm_nil_filter (p t : Tm) : pm p t [] = t.places.filter (okAt p t) := by
  rw [pm_filter]
  simp
theorem placesL_flat9 : ∀ {l : List Tm} {b i : Nat} {p : List Int}, (Tm.placesL l b)[i]? = some p → ∃ (j : Nat) (x : Tm) (q : List Int) (m : Nat), l[j]? = some x ∧ p = ((b + j : Nat) : Int) :: q ∧ x.places[m]? = some q ∧ (l.flatMap Tm.flat)[i]? = x.flat[m]?
  | [], b, i, p, h => by rw [placesL_nil] at h; simp at h
  | t :: ts, b, i, p, h => by
    rw [placesL_cons] at h
    have hfl : t.flat.length = t.size := rfl
    rcases Nat.lt_or_ge i t.size with hi | hi
    · rw [List.getElem?_append_left (by rw [List.length_map, Tm.places_len]; exact hi), List.getElem?_map] at h
      obtain ⟨q, h1, h2⟩ := Option.map_eq_some_iff.1 h
      refine ⟨0, t, q, i, rfl, h2.symm, h1, ?_⟩
      rw [List.flatMap_cons, List.getElem?_append_left (by omega)]
    · rw [List.getElem?_append_right (by rw [List.length_map, Tm.places_len]; exact hi), List.length_map, Tm.places_len] at h
      obtain ⟨j, x, q, m, h1, h2, h3, h4⟩ := placesL_flat9 h
      refine ⟨j + 1, x, q, m, by simpa using h1, by rw [h2]; congr 2; omega, h3, ?_⟩
      rw [List.flatMap_cons, List.getElem?_append_right (by omega), hfl]
      exact h4
theorem places_flat9 (t : Tm) : ∀ (i : Nat) (p : List Int), t.places[i]? = some p → ∃ s, t.flat[i]? = some s ∧ atP p t = some s := by
  induction t using Tm.indp with
  | h t ih =>
    intro i p h
    rw [Tm.places_eq] at h
    rw [Tm.flat_eq]
    cases i with
    | zero => simp at h; subst h; exact ⟨t, rfl, rfl⟩
    | succ i =>
      rw [List.getElem?_cons_succ] at h
      obtain ⟨j, x, q, m, h1, rfl, h3, h4⟩ := placesL_flat9 h
      obtain ⟨s, g1, g2⟩ := ih x (List.mem_of_getElem? h1) m q h3
      refine ⟨s, by rw [List.getElem?_cons_succ, h4, g1], ?_⟩
      have hpa : t.pa ((0 + j : Nat) : Int) = some x := by
        unfold Tm.pa
        rw [if_pos (by omega), Int.toNat_natCast, Nat.zero_add, h1]
      rw [atP, hpa]; exact g2
theorem ok_flat9 (t : Tm) : t.ok → ∀ s ∈ t.flat, s.ok := by
  induction t using Tm.indp with
  | h t ih =>
    intro h s hs
    rw [Tm.flat_eq] at hs
    rcases List.mem_cons.1 hs with rfl | hs
    · exact h
    · obtain ⟨x, hx, hs⟩ := List.mem_flatMap.1 hs
      exact ih x hx (((Tm.ok_iff _).1 h).2 x (Tm.ps_mem hx).1) s hs
theorem okAt_flat {p t s : Tm} {i : Nat} {q : List Int} (hq : t.places[i]? = some q) (hs : t.flat[i]? = some s) : okAt p t q = (decide (¬ s.f < 0) && (mt p s []).1) := by
  obtain ⟨x, h1, h2⟩ := places_flat9 t i q hq
  rw [hs] at h1
  cases h1
  unfold okAt
  rw [h2]
end Go.Proofs.Ytgmllfjidhbjjab


namespace Go.Proofs.Ytgmllfjidhbjjab
open Go.RowKit
set_option linter.unusedVariables false
set_option linter.unusedSimpArgs false
set_option maxRecDepth 100000

/-- No binding. -/
def Bd.zero : Bd := ⟨0, ⟨0, []⟩⟩
/-- Of the first n: those that are not like the one ahead. -/
def cptN (q : Bd → Bd → Bool) (L : List Bd) : Nat → List Bd
  | 0 => []
  | m + 1 => match L[m]?, (match m with | 0 => none | k + 1 => L[k]?) with
    | some x, some y => if q x y then cptN q L m else cptN q L m ++ [x]
    | some x, none => cptN q L m ++ [x]
    | none, _ => cptN q L m
theorem cptN_yes {q : Bd → Bd → Bool} {L : List Bd} {m : Nat} {x y : Bd} (hx : L[m + 1]? = some x) (hy : L[m]? = some y) (h : q x y = true) : cptN q L (m + 2) = cptN q L (m + 1) := by
  rw [cptN]; simp only [hx, hy, h, if_true]
theorem cptN_no {q : Bd → Bd → Bool} {L : List Bd} {m : Nat} {x y : Bd} (hx : L[m + 1]? = some x) (hy : L[m]? = some y) (h : q x y = false) : cptN q L (m + 2) = cptN q L (m + 1) ++ [x] := by
  rw [cptN]; simp [hx, hy, h]
end Go.Proofs.Ytgmllfjidhbjjab


namespace Go.Proofs.Ytgmllfjidhbjjab
open Go.RowKit
set_option linter.unusedVariables false
set_option linter.unusedSimpArgs false
set_option maxRecDepth 100000

def sameV (x y : Bd) : Bool := decide (x.v = y.v)
def sortF (L : List Bd) : List Bd := isortN (ltC cmpB) 0 (L.length - 1) 1 L
def firstsF (L : List Bd) : List Bd := cptN sameV (sortF L) (sortF L).length
def Bd.strip (b : Bd) : Bd := ⟨b.v, b.t.strip⟩
def normF (L : List Bd) : List Bd := ((firstsF L).filter fun b => !idleB b).map Bd.strip

theorem cptN_step {q : Bd → Bd → Bool} {L : List Bd} (n : Nat) : cptN q L (n + 1) = cptN q L n ∨ ∃ x, L[n]? = some x ∧ cptN q L (n + 1) = cptN q L n ++ [x] := by
  cases n with
  | zero =>
    cases L with
    | nil => left; rfl
    | cons x l => right; exact ⟨x, rfl, rfl⟩
  | succ m =>
    cases hx : L[m + 1]? with
    | none => left; rw [cptN]; simp only [hx]
    | some x =>
      cases hy : L[m]? with
      | none => right; exact ⟨x, rfl, by rw [cptN]; simp only [hx, hy]⟩
      | some y =>
        cases hq : q x y with
        | true => left; exact cptN_yes hx hy hq
        | false => right; exact ⟨x, rfl, cptN_no hx hy hq⟩
theorem cptN_mem {q : Bd → Bd → Bool} {L : List Bd} : ∀ {n : Nat} {x : Bd}, x ∈ cptN q L n → x ∈ L
  | 0, x, h => by simp [cptN] at h
  | n + 1, x, h => by
    rcases cptN_step (q := q) (L := L) n with e | ⟨y, h1, e⟩
    · rw [e] at h; exact cptN_mem h
    · rw [e] at h
      rcases List.mem_append.1 h with h | h
      · exact cptN_mem h
      · rw [List.mem_singleton.1 h]; exact List.mem_of_getElem? h1
theorem sink_mem {lt : Bd → Bd → Bool} {a : Nat} : ∀ {j : Nat} {L : List Bd} {z : Bd}, z ∈ sink lt a j L ↔ z ∈ L
  | 0, L, z => Iff.rfl
  | j + 1, L, z => by
    rw [sink]
    split
    · rename_i x y hx hy
      split
      · rw [sink_mem]
        have hj : j + 1 < L.length := by
          rcases Nat.lt_or_ge (j + 1) L.length with h | h
          · exact h
          · rw [List.getElem?_eq_none h] at hx; cases hx
        have hxe : L[j + 1] = x := by rw [List.getElem?_eq_getElem hj] at hx; exact Option.some.inj hx
        have hye : L[j]'(by omega) = y := by rw [List.getElem?_eq_getElem (by omega)] at hy; exact Option.some.inj hy
        constructor
        · intro h
          rcases mem_set_of h with h | rfl
          · rcases mem_set_of h with h | rfl
            · exact h
            · exact List.mem_of_getElem? hy
          · exact List.mem_of_getElem? hx
        · intro h
          obtain ⟨i, hi⟩ := List.getElem?_of_mem h
          by_cases e1 : i = j
          · subst e1
            rw [hy] at hi
            cases hi
            exact List.mem_of_getElem? (i := i + 1) (by rw [List.getElem?_set_ne (by omega), List.getElem?_set_self hj])
          · by_cases e2 : i = j + 1
            · subst e2
              rw [hx] at hi
              cases hi
              exact List.mem_of_getElem? (i := j) (by rw [List.getElem?_set_self (by simp; omega)])
            · exact List.mem_of_getElem? (i := i) (by rw [List.getElem?_set_ne (Ne.symm e1), List.getElem?_set_ne (Ne.symm e2)]; exact hi)
      · exact Iff.rfl
    · exact Iff.rfl
theorem isortN_mem {lt : Bd → Bd → Bool} {a : Nat} : ∀ {n i : Nat} {L : List Bd} {z : Bd}, z ∈ isortN lt a n i L ↔ z ∈ L
  | 0, _, _, _ => Iff.rfl
  | n + 1, i, L, z => by rw [isortN, isortN_mem, sink_mem]
theorem firstsF_mem {L : List Bd} {x : Bd} (h : x ∈ firstsF L) : x ∈ L := isortN_mem.1 (cptN_mem h)
end Go.Proofs.Ytgmllfjidhbjjab


namespace Go.Proofs.Ytgmllfjidhbjjab
open Go.RowKit
set_option linter.unusedVariables false
set_option linter.unusedSimpArgs false
def SrtB (l : List Bd) : Prop := l.Pairwise fun x y => x.v ≤ y.v
end Go.Proofs.Ytgmllfjidhbjjab


namespace Go.Proofs.Ytgmllfjidhbjjab
open Go.RowKit
set_option linter.unusedVariables false
set_option linter.unusedSimpArgs false
set_option maxRecDepth 100000
end Go.Proofs.Ytgmllfjidhbjjab


namespace Go.Proofs.Ytgmllfjidhbjjab
open Go.RowKit
set_option linter.unusedVariables false
set_option linter.unusedSimpArgs false
set_option maxRecDepth 100000

def putB (M : List Bd) (b : Bd) : Bd := ⟨b.v, repT (imgB M) b.t⟩
def thenF (L M : List Bd) : List Bd := normF ((firstsF L).map (putB M) ++ M)

/-- Terms of no more than n symbols. -/
def Bnd (n : Nat) (L : List Bd) : Prop := ∀ b ∈ L, b.t.rng ∧ b.t.ok ∧ b.t.size ≤ n
theorem Bnd.ok {n : Nat} {L : List Bd} (h : Bnd n L) (hn : n ≤ 1000000000) : bdsOk L := fun b hb => ⟨(h b hb).1, Nat.le_trans (h b hb).2.2 hn⟩
theorem Bnd.img {n : Nat} {L : List Bd} (h : Bnd n L) (hn : 1 ≤ n) (v : Int) : (imgB L v).ok ∧ (imgB L v).size ≤ n := by
  unfold imgB
  cases e : findB L v with
  | none => exact ⟨leaf_ok _, by show (varT v).size ≤ n; rw [varT_size]; exact hn⟩
  | some t =>
    obtain ⟨b, hb, rfl, _⟩ := findB_mem e
    exact (h b hb).2
theorem rep_le {img : Int → Tm} {m : Nat} (hm : 1 ≤ m) (h : ∀ v, (img v).size ≤ m) (t : Tm) : (repT img t).size ≤ t.size * m := by
  have e := repT_size img t
  have hs : (t.vs.map fun v => ((img v).size : Int) - 1).sum ≤ (t.vs.length : Int) * ((m : Int) - 1) := by
    generalize t.vs = l
    induction l with
    | nil => simp
    | cons v l ih =>
      have := h v
      rw [List.map_cons, List.sum_cons, List.length_cons]
      have e2 : ((l.length + 1 : Nat) : Int) * ((m : Int) - 1) = (l.length : Int) * ((m : Int) - 1) + ((m : Int) - 1) := by
        rw [Int.natCast_add, Int.add_mul]; simp
      rw [e2]
      omega
  have hl : t.vs.length ≤ t.size := by
    unfold Tm.vs vsL Tm.size
    rw [List.length_map]
    exact List.length_filter_le _ _
  have h2 : (t.vs.length : Int) * ((m : Int) - 1) ≤ (t.size : Int) * ((m : Int) - 1) := Int.mul_le_mul_of_nonneg_right (by omega) (by omega)
  have h3 : (t.size : Int) * ((m : Int) - 1) = (t.size : Int) * (m : Int) - t.size := by rw [Int.mul_sub, Int.mul_one]
  have h4 : ((t.size * m : Nat) : Int) = (t.size : Int) * (m : Int) := Int.natCast_mul _ _
  omega
theorem Bnd.norm {n : Nat} {L : List Bd} (h : Bnd n L) : Bnd n (normF L) := fun b hb => by
  unfold normF at hb
  obtain ⟨c, hc, rfl⟩ := List.mem_map.1 hb
  obtain ⟨h1, h2, h3⟩ := h c (firstsF_mem (List.mem_filter.1 hc).1)
  exact ⟨Tm.strip_rng h1, Tm.strip_ok h2, by show c.t.strip.size ≤ n; rw [Tm.strip_size]; exact h3⟩
theorem Bnd.then {n m : Nat} {L M : List Bd} (hL : Bnd n L) (hM : Bnd m M) (hn : 1 ≤ n) (hm : 1 ≤ m) (hb : m ≤ 1000000000) : Bnd (n * m) (thenF L M) ∧ ∀ b ∈ L, (repT (imgB M) b.t).size ≤ n * m := by
  have hs : ∀ b ∈ L, (repT (imgB M) b.t).size ≤ n * m := fun b hbL => Nat.le_trans (rep_le hm (fun v => (hM.img hm v).2) b.t) (Nat.mul_le_mul_right _ (hL b hbL).2.2)
  refine ⟨Bnd.norm fun b hb' => ?_, hs⟩
  rcases List.mem_append.1 hb' with hb' | hb'
  · obtain ⟨c, hc, rfl⟩ := List.mem_map.1 hb'
    have hcL := firstsF_mem hc
    obtain ⟨h1, h2, h3⟩ := hL c hcL
    exact ⟨repT_rng h1 fun v g1 g2 => (imgB_ok (hM.ok hb) g1 g2).1, repT_ok h2 fun v => (hM.img hm v).1, hs c hcL⟩
  · obtain ⟨h1, h2, h3⟩ := hM b hb'
    exact ⟨h1, h2, Nat.le_trans h3 (Nat.le_mul_of_pos_left _ hn)⟩
end Go.Proofs.Ytgmllfjidhbjjab


namespace Go.Proofs.Ytgmllfjidhbjjab
set_option linter.unusedVariables false

theorem findB_has {L : List Bd} {v : Int} {u : Tm} (h : findB L v = some u) : v ∈ L.map Bd.v := by
  induction L with
  | nil => cases h
  | cons b L ih =>
    rw [findB] at h
    split at h
    · rename_i e; rw [← e]; simp
    · exact List.mem_cons_of_mem _ (ih h)
theorem findB_not {L : List Bd} {v : Int} (h : findB L v = none) : v ∉ L.map Bd.v := by
  induction L with
  | nil => simp
  | cons b L ih =>
    rw [findB] at h
    split at h
    · cases h
    · rename_i e
      rw [List.map_cons, List.mem_cons]
      rintro (h1 | h1)
      · exact e h1.symm
      · exact ih h h1
theorem bindM_names {L : List Bd} {v : Int} {t : Tm} : (bindM L v t).2.map Bd.v = nubS (L.map Bd.v) v := by
  unfold bindM nubS
  split
  · rename_i u hu; rw [if_pos (findB_has hu)]
  · rename_i hu; rw [if_neg (findB_not hu)]; simp
theorem mts_names : ∀ {ps ts : List Tm} {L : List Bd}, (∀ p ∈ ps, ∀ t L, (mt p t L).1 = true → (mt p t L).2.map Bd.v = p.vs.foldl nubS (L.map Bd.v)) → ps.length = ts.length → (mts ps ts L).1 = true → (mts ps ts L).2.map Bd.v = (ps.flatMap Tm.vs).foldl nubS (L.map Bd.v)
  | [], _, _, _, _, _ => rfl
  | _ :: _, [], _, _, h, _ => by simp at h
  | p :: ps, t :: ts, L, ih, hl, h => by
    rw [mts_cons] at h ⊢
    cases h1 : (mt p t L).1 with
    | false => rw [pairM_f h1] at h; cases h
    | true =>
      rw [pairM_t h1] at h ⊢
      rw [mts_names (fun q hq => ih q (List.mem_cons_of_mem _ hq)) (by simpa using hl) h, ih p (by simp) t L h1, List.flatMap_cons, List.foldl_append]
/-- Which numbers are bound, in which order. -/
theorem mt_names (p : Tm) : ∀ t L, (mt p t L).1 = true → (mt p t L).2.map Bd.v = p.vs.foldl nubS (L.map Bd.v) := by
  induction p using Tm.ind with
  | h f l ih =>
    intro t L h
    by_cases hf : f < 0
    · rw [mt_var _ _ hf, Tm.vs_var hf, bindM_names]; rfl
    · by_cases h2 : f ≠ t.f ∨ l.length ≠ t.l.length
      · rw [mt_ne _ hf h2] at h; cases h
      · rw [mt_sym _ hf (by show f = _; omega) (by show l.length = _; omega)] at h ⊢
        rw [Tm.vs_sym hf]
        exact mts_names ih (by show l.length = _; omega) h
/-- What was bound, as it is told. -/
theorem ext_self (L : List Bd) : Ext L (imgB L) := fun v u h => by unfold imgB; rw [h]; rfl
end Go.Proofs.Ytgmllfjidhbjjab


namespace Go.Proofs.Ytgmllfjidhbjjab
open Go.RowKit
set_option linter.unusedVariables false
set_option linter.unusedSimpArgs false
set_option maxRecDepth 100000

theorem same_leaf (f g : Int) : sameT ⟨f, []⟩ ⟨g, []⟩ = decide (f = g) := by
  rw [Bool.eq_iff_iff, sameT_iff, decide_eq_true_eq]
  constructor
  · intro h
    have := congrArg Tm.f h
    rwa [Tm.strip_f, Tm.strip_f] at this
  · rintro rfl; rfl
theorem alive_m1 : (mt ⟨4, [⟨-1, []⟩, ⟨-1, []⟩]⟩ ⟨4, [⟨1, []⟩, ⟨1, []⟩]⟩ []).1 = true := by
  rw [mt_sym (p := ⟨4, [⟨-1, []⟩, ⟨-1, []⟩]⟩) (t := ⟨4, [⟨1, []⟩, ⟨1, []⟩]⟩) [] (by decide) rfl rfl]
  simp only [mts_cons, mts_nil]
  rw [mt_var _ _ (by decide)]
  simp only [bindM, findB, pairM, List.nil_append]
  rw [mts_cons, mt_var _ _ (by decide)]
  simp [bindM, findB, pairM, same_leaf, mts_nil]
theorem alive_m2 : (mt ⟨4, [⟨-1, []⟩, ⟨-1, []⟩]⟩ ⟨4, [⟨1, []⟩, ⟨2, []⟩]⟩ []).1 = false := by
  rw [mt_sym (p := ⟨4, [⟨-1, []⟩, ⟨-1, []⟩]⟩) (t := ⟨4, [⟨1, []⟩, ⟨2, []⟩]⟩) [] (by decide) rfl rfl]
  simp only [mts_cons, mts_nil]
  rw [mt_var _ _ (by decide)]
  simp only [bindM, findB, pairM, List.nil_append]
  rw [mts_cons, mt_var _ _ (by decide)]
  simp [bindM, findB, pairM, same_leaf, mts_nil]
theorem alive_m3 : (mt ⟨1, []⟩ ⟨-1, []⟩ []).1 = false := by
  rw [mt_ne _ (by decide) (.inl (by decide))]
theorem two_rng {f g h : Int} (h1 : -100 ≤ f ∧ f ≤ 100) (h2 : -100 ≤ g ∧ g ≤ 100) (h3 : -100 ≤ h ∧ h ≤ 100) : (Tm.mk f [⟨g, []⟩, ⟨h, []⟩]).rng ∧ (Tm.mk f [⟨g, []⟩, ⟨h, []⟩]).ok := by
  constructor
  · refine (Tm.rng_iff _).2 ⟨⟨by show -9223372036854775808 ≤ f; omega, by show f ≤ 9223372036854775807; omega⟩, fun s hs => ?_⟩
    simp at hs
    rcases hs with rfl | rfl <;> exact leaf_rng (by omega) (by omega)
  · refine (Tm.ok_iff _).2 ⟨by show 2 ≤ _; omega, fun s hs => ?_⟩
    simp at hs
    rcases hs with rfl | rfl <;> exact leaf_ok _
theorem two_vs : (Tm.mk 4 [⟨-1, []⟩, ⟨-1, []⟩]).vs.length ≤ 65 := by
  rw [Tm.vs_sym (by decide)]
  show ([⟨-1, []⟩, ⟨-1, []⟩].flatMap Tm.vs).length ≤ 65
  rw [List.flatMap_cons, List.flatMap_cons, List.flatMap_nil, Tm.vs_var (by decide)]
  decide
set_option maxHeartbeats 2000000 in
-- 
theorem alive9_abs (W : World) : AFun Try.prog W 7 [] (.val (.b true)) := by
  refine afun_of (rs := [.b true]) Try.func7 Try.ntmps7 rfl rfl rfl rfl ?_
  intro w U hW
  have r1 := two_rng (f := 4) (g := -1) (h := -1) (by decide) (by decide) (by decide)
  have i1 := mIs_abs w ⟨4, [⟨-1, []⟩, ⟨-1, []⟩]⟩ ⟨4, [⟨1, []⟩, ⟨1, []⟩]⟩ r1.1 r1.2 (two_rng (by decide) (by decide) (by decide)).1 two_vs
  rw [alive_m1] at i1
  have i2 := mIs_abs w ⟨4, [⟨-1, []⟩, ⟨-1, []⟩]⟩ ⟨4, [⟨1, []⟩, ⟨2, []⟩]⟩ r1.1 r1.2 (two_rng (by decide) (by decide) (by decide)).1 two_vs
  rw [alive_m2] at i2
  have i3 := mIs_abs w ⟨1, []⟩ ⟨-1, []⟩ (leaf_rng (by decide) (by decide)) (leaf_ok _) (leaf_rng (by decide) (by decide)) (by rw [leaf_vs _ (by decide)]; decide)
  rw [alive_m3] at i3
  refine awp_seq (awp_region ?_)
  (refine ⟨_, _, _, a_assign (gd_none rfl) rfl rfl rfl rfl rfl, (by first | rfl | kernel_rfl), ?_⟩)
  show AWp _ _ _ _ _ _ _
  refine awp_seq (awp_region ?_)
  (refine ⟨_, _, _, a_buildP (gd_none rfl) rfl rfl rfl rfl rfl rfl rfl rfl rfl rfl rfl, (by first | rfl | kernel_rfl), ?_⟩)
  (refine ⟨_, _, _, a_buildP (gd_none rfl) rfl rfl rfl rfl rfl rfl rfl rfl rfl rfl rfl, (by first | rfl | kernel_rfl), ?_⟩)
  (refine ⟨_, _, _, a_bslice (gd_none rfl) rfl rfl rfl rfl rfl rfl rfl rfl rfl rfl rfl rfl rfl, (by first | rfl | kernel_rfl), ?_⟩)
  (refine ⟨_, _, _, a_build (gd_none rfl) rfl rfl rfl rfl rfl rfl rfl rfl rfl rfl rfl, (by first | rfl | kernel_rfl), ?_⟩)
  (refine ⟨_, _, _, a_alloc (gd_none rfl) rfl rfl rfl rfl rfl rfl rfl rfl rfl rfl, (by first | rfl | kernel_rfl), ?_⟩)
  (first | (refine ⟨_, _, _, a_store_all (gd_none rfl) rfl rfl rfl rfl rfl rfl rfl rfl rfl rfl, (by first | rfl | kernel_rfl), ?_⟩) | (refine ⟨_, _, _, a_store (gd_none rfl) rfl rfl rfl rfl rfl rfl rfl rfl rfl rfl, (by first | rfl | kernel_rfl), ?_⟩) | (refine ⟨_, _, _, a_store_fld (gd_none rfl) rfl rfl rfl rfl rfl rfl rfl rfl rfl rfl rfl rfl, (by first | rfl | kernel_rfl), ?_⟩))
  show AWp _ _ _ _ _ _ _
  refine awp_seq (awp_region ?_)
  (first | (refine ⟨_, _, _, a_load_all (gd_none rfl) rfl rfl rfl rfl rfl rfl rfl rfl rfl rfl rfl rfl, (by first | rfl | kernel_rfl), ?_⟩) | (refine ⟨_, _, _, a_load_tok (gd_none rfl) rfl rfl rfl rfl rfl rfl rfl rfl rfl rfl rfl rfl rfl, (by first | rfl | kernel_rfl), ?_⟩) | (refine ⟨_, _, _, a_load_bp (gd_none rfl) rfl rfl rfl rfl rfl rfl rfl rfl rfl rfl rfl rfl, (by first | rfl | kernel_rfl), ?_⟩) | (refine ⟨_, _, _, a_load_ad (gd_none rfl) rfl rfl rfl rfl rfl rfl rfl rfl rfl, (by first | rfl | kernel_rfl), ?_⟩) | (refine ⟨_, _, _, a_load_ptr (gd_none rfl) rfl rfl rfl rfl rfl rfl rfl rfl rfl, (by first | rfl | kernel_rfl), ?_⟩) | (refine ⟨_, _, _, a_load_fld (gd_none rfl) rfl rfl rfl rfl rfl rfl rfl rfl rfl rfl rfl rfl rfl, (by first | rfl | kernel_rfl), ?_⟩) | (refine ⟨_, _, _, a_load_fullv (gd_none rfl) rfl rfl rfl rfl rfl rfl rfl rfl rfl, (by first | rfl | kernel_rfl), ?_⟩))
  (refine ⟨_, _, _, a_build (gd_none rfl) rfl rfl rfl rfl rfl rfl rfl rfl rfl rfl rfl, (by first | rfl | kernel_rfl), ?_⟩)
  (refine ⟨_, _, _, a_build (gd_none rfl) rfl rfl rfl rfl rfl rfl rfl rfl rfl rfl rfl, (by first | rfl | kernel_rfl), ?_⟩)
  (refine ⟨_, _, _, a_bslice (gd_none rfl) rfl rfl rfl rfl rfl rfl rfl rfl rfl rfl rfl rfl rfl, (by first | rfl | kernel_rfl), ?_⟩)
  (refine ⟨_, _, _, a_build (gd_none rfl) rfl rfl rfl rfl rfl rfl rfl rfl rfl rfl rfl, (by first | rfl | kernel_rfl), ?_⟩)
  (refine ⟨_, _, _, a_call (gd_none rfl) rfl rfl rfl rfl rfl (i1), (by first | rfl | kernel_rfl), ?_⟩)
  (refine ⟨_, _, _, a_move (gd_none rfl) rfl rfl rfl rfl rfl, (by first | rfl | kernel_rfl), ?_⟩)
  (first | (refine ⟨_, _, _, a_load_all (gd_on rfl rfl rfl rfl (by first | rfl | assumption | (simp; done))) rfl rfl rfl rfl rfl rfl rfl rfl rfl rfl rfl rfl, (by first | rfl | kernel_rfl), ?_⟩) | (refine ⟨_, _, _, a_load_tok (gd_on rfl rfl rfl rfl (by first | rfl | assumption | (simp; done))) rfl rfl rfl rfl rfl rfl rfl rfl rfl rfl rfl rfl rfl, (by first | rfl | kernel_rfl), ?_⟩) | (refine ⟨_, _, _, a_load_bp (gd_on rfl rfl rfl rfl (by first | rfl | assumption | (simp; done))) rfl rfl rfl rfl rfl rfl rfl rfl rfl rfl rfl rfl, (by first | rfl | kernel_rfl), ?_⟩) | (refine ⟨_, _, _, a_load_ad (gd_on rfl rfl rfl rfl (by first | rfl | assumption | (simp; done))) rfl rfl rfl rfl rfl rfl rfl rfl rfl, (by first | rfl | kernel_rfl), ?_⟩) | (refine ⟨_, _, _, a_load_ptr (gd_on rfl rfl rfl rfl (by first | rfl | assumption | (simp; done))) rfl rfl rfl rfl rfl rfl rfl rfl rfl, (by first | rfl | kernel_rfl), ?_⟩) | (refine ⟨_, _, _, a_load_fld (gd_on rfl rfl rfl rfl (by first | rfl | assumption | (simp; done))) rfl rfl rfl rfl rfl rfl rfl rfl rfl rfl rfl rfl rfl, (by first | rfl | kernel_rfl), ?_⟩) | (refine ⟨_, _, _, a_load_fullv (gd_on rfl rfl rfl rfl (by first | rfl | assumption | (simp; done))) rfl rfl rfl rfl rfl rfl rfl rfl rfl, (by first | rfl | kernel_rfl), ?_⟩))
  (refine ⟨_, _, _, a_build (gd_on rfl rfl rfl rfl (by first | rfl | assumption | (simp; done))) rfl rfl rfl rfl rfl rfl rfl rfl rfl rfl rfl, (by first | rfl | kernel_rfl), ?_⟩)
  (refine ⟨_, _, _, a_build (gd_on rfl rfl rfl rfl (by first | rfl | assumption | (simp; done))) rfl rfl rfl rfl rfl rfl rfl rfl rfl rfl rfl, (by first | rfl | kernel_rfl), ?_⟩)
  (refine ⟨_, _, _, a_bslice (gd_on rfl rfl rfl rfl (by first | rfl | assumption | (simp; done))) rfl rfl rfl rfl rfl rfl rfl rfl rfl rfl rfl rfl rfl, (by first | rfl | kernel_rfl), ?_⟩)
  (refine ⟨_, _, _, a_build (gd_on rfl rfl rfl rfl (by first | rfl | assumption | (simp; done))) rfl rfl rfl rfl rfl rfl rfl rfl rfl rfl rfl, (by first | rfl | kernel_rfl), ?_⟩)
  (refine ⟨_, _, _, a_call (gd_on rfl rfl rfl rfl (by first | rfl | assumption | (simp; done))) rfl rfl rfl rfl rfl (i2), (by first | rfl | kernel_rfl), ?_⟩)
  (refine ⟨_, _, _, a_not (gd_on rfl rfl rfl rfl (by first | rfl | assumption | (simp; done))) rfl rfl rfl rfl rfl, (by first | rfl | kernel_rfl), ?_⟩)
  (first | (refine ⟨_, _, _, a_pick_t (gd_none rfl) rfl rfl rfl rfl rfl ?hb rfl, rfl, ?_⟩; case hb => (first | rfl | assumption | (simp; done))) | (refine ⟨_, _, _, a_pick_f (gd_none rfl) rfl rfl rfl rfl rfl ?hb rfl, rfl, ?_⟩; case hb => (first | rfl | assumption | (simp; done))))
  (refine ⟨_, _, _, a_move (gd_none rfl) rfl rfl rfl rfl rfl, (by first | rfl | kernel_rfl), ?_⟩)
  (refine ⟨_, _, _, a_build (gd_on rfl rfl rfl rfl (by first | rfl | assumption | (simp; done))) rfl rfl rfl rfl rfl rfl rfl rfl rfl rfl rfl, (by first | rfl | kernel_rfl), ?_⟩)
  (refine ⟨_, _, _, a_build (gd_on rfl rfl rfl rfl (by first | rfl | assumption | (simp; done))) rfl rfl rfl rfl rfl rfl rfl rfl rfl rfl rfl, (by first | rfl | kernel_rfl), ?_⟩)
  (refine ⟨_, _, _, a_call (gd_on rfl rfl rfl rfl (by first | rfl | assumption | (simp; done))) rfl rfl rfl rfl rfl (i3), (by first | rfl | kernel_rfl), ?_⟩)
  (refine ⟨_, _, _, a_not (gd_on rfl rfl rfl rfl (by first | rfl | assumption | (simp; done))) rfl rfl rfl rfl rfl, (by first | rfl | kernel_rfl), ?_⟩)
  (first | (refine ⟨_, _, _, a_pick_t (gd_none rfl) rfl rfl rfl rfl rfl ?hb rfl, rfl, ?_⟩; case hb => (first | rfl | assumption | (simp; done))) | (refine ⟨_, _, _, a_pick_f (gd_none rfl) rfl rfl rfl rfl rfl ?hb rfl, rfl, ?_⟩; case hb => (first | rfl | assumption | (simp; done))))
  (refine ⟨_, _, _, a_assign (gd_none rfl) rfl rfl rfl rfl rfl, (by first | rfl | kernel_rfl), ?_⟩)
  show AWp _ _ _ _ _ _ _
  exact awp_ret (And.intro (.inr rfl) rfl)
end Go.Proofs.Ytgmllfjidhbjjab

