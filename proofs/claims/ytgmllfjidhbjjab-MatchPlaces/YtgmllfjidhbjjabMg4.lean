/-
  MtFns MtNew MtFns2 MtFns3 MtFns4 MtParts MtParts2 MtParts3 TmPlA TmPlB TmPlC TmPlD TmPlE MtPm SbNorm SbNorm2 SbSortM SbLaw3
-/
import Derived.Test.YtgmllfjidhbjjabMg3
import Derived.Test.YtgmllfjidhbjjabMg2
namespace Go.Proofs.Ytgmllfjidhbjjab
open Go.RowKit
set_option linter.unusedVariables false
set_option linter.unusedSimpArgs false
set_option maxRecDepth 100000

/-- The bindings as they were handed in, and as they are once one was added; m: how many were handed in. -/
noncomputable def fA (m : Nat) (L : List Bd) : AV := ⟨if L.length ≤ m then 18 else 12, if L.length ≤ m then .lst (L.map Bd.cv) else .row [], 300001, 0, if L.length ≤ m then [] else [L.length, 3]⟩
noncomputable def rA (m : Nat) (L : List Bd) : AV := ⟨13, .lst (if L.length ≤ m then [] else L.map Bd.cv), 0, 60, [3]⟩
noncomputable abbrev bst (m : Nat) (L : List Bd) : AS := [(450001, .obj), (35500100, fA m L), (35500101, .val (.sc (.map none))), (300001, rA m L)]
noncomputable abbrev bsA (L : List Bd) : AS := [(450001, .obj), (35500100, ⟨18, .lst (L.map Bd.cv), 300001, 0, []⟩), (35500101, .val (.sc (.map none))), (300001, .mrow 60 3 [])]
noncomputable abbrev bsB (L : List Bd) : AS := [(450001, .obj), (35500100, .sl 300001 0 L.length 3), (35500101, .val (.sc (.map none))), (300001, .mrow 60 3 (L.map Bd.cv))]
theorem bst_A {m : Nat} {L : List Bd} (h : L.length ≤ m) : bst m L = bsA L := by simp only [bst, fA, rA, if_pos h]
theorem bst_B {m : Nat} {L : List Bd} (h : ¬ L.length ≤ m) : bst m L = bsB L := by simp only [bst, fA, rA, if_neg h]
theorem bst_lend (m : Nat) (L : List Bd) : (bst m L).all lendB = true := by kernel_rfl
theorem bst_leave (m : Nat) (L : List Bd) : (bst m L).all (leaveB (keysOf (bst m L))) = true := by
  by_cases h : L.length ≤ m
  · rw [bst_A h]; kernel_rfl
  · rw [bst_B h]; kernel_rfl

abbrev isV (v : Int) : Bd → Bool := fun b => decide (b.v = v)
theorem idx_find : ∀ (L : List Bd) (v : Int) (i : Nat), (findB L v = none ∧ idxB (isV v) L i = -1) ∨ ∃ k b, L[k]? = some b ∧ findB L v = some b.t ∧ idxB (isV v) L i = ((i + k : Nat) : Int)
  | [], v, i => .inl ⟨rfl, rfl⟩
  | b :: L, v, i => by
    by_cases h : b.v = v
    · exact .inr ⟨0, b, rfl, by rw [findB, if_pos h], by rw [idxB, if_pos (by simpa using h)]; rfl⟩
    · rw [findB, if_neg h, idxB, if_neg (by simpa using h)]
      rcases idx_find L v (i + 1) with h1 | ⟨k, c, h1, h2, h3⟩
      · exact .inl h1
      · exact .inr ⟨k + 1, c, by simpa using h1, h2, by rw [h3]; congr 1; omega⟩

-- 
theorem mIsVar_abs (W : World) (t : Tm) : AFun Try.prog W 54 [t.cw] (.val (.b (decide (t.f < 0)))) := by
  refine afun_of (rs := [.b (decide (t.f < 0))]) Try.func54 Try.ntmps54 rfl rfl rfl rfl ?_
  intro w U hW
  refine awp_seq (awp_region ?_)
  (refine ⟨_, _, _, a_box (gd_none rfl) rfl rfl rfl rfl rfl, (by first | rfl | kernel_rfl), ?_⟩)
  (refine ⟨_, _, _, a_assign (gd_none rfl) rfl rfl rfl rfl rfl, (by first | rfl | kernel_rfl), ?_⟩)
  show AWp _ _ _ _ _ _ _
  refine awp_seq (awp_region ?_)
  (first | (refine ⟨_, _, _, a_field_bp (gd_none rfl) rfl rfl rfl rfl rfl rfl rfl rfl rfl, (by first | rfl | kernel_rfl), ?_⟩) | (refine ⟨_, _, _, a_field_ad (gd_none rfl) rfl rfl rfl rfl rfl rfl rfl rfl rfl rfl rfl, (by first | rfl | kernel_rfl), ?_⟩) | (refine ⟨_, _, _, a_fieldM (gd_none rfl) rfl rfl rfl rfl rfl rfl rfl rfl rfl, (by first | rfl | kernel_rfl), ?_⟩))
  (first | (refine ⟨_, _, _, a_load_all (gd_none rfl) rfl rfl rfl rfl rfl rfl rfl rfl rfl rfl rfl rfl, (by first | rfl | kernel_rfl), ?_⟩) | (refine ⟨_, _, _, a_load_tok (gd_none rfl) rfl rfl rfl rfl rfl rfl rfl rfl rfl rfl rfl rfl rfl, (by first | rfl | kernel_rfl), ?_⟩) | (refine ⟨_, _, _, a_load_bp (gd_none rfl) rfl rfl rfl rfl rfl rfl rfl rfl rfl rfl rfl rfl, (by first | rfl | kernel_rfl), ?_⟩) | (refine ⟨_, _, _, a_load_ad (gd_none rfl) rfl rfl rfl rfl rfl rfl rfl rfl rfl, (by first | rfl | kernel_rfl), ?_⟩) | (refine ⟨_, _, _, a_load_ptr (gd_none rfl) rfl rfl rfl rfl rfl rfl rfl rfl rfl, (by first | rfl | kernel_rfl), ?_⟩) | (refine ⟨_, _, _, a_load_fld (gd_none rfl) rfl rfl rfl rfl rfl rfl rfl rfl rfl rfl rfl rfl rfl, (by first | rfl | kernel_rfl), ?_⟩) | (refine ⟨_, _, _, a_load_fullv (gd_none rfl) rfl rfl rfl rfl rfl rfl rfl rfl rfl, (by first | rfl | kernel_rfl), ?_⟩))
  (refine ⟨_, _, _, a_lss (gd_none rfl) rfl rfl rfl rfl rfl rfl, (by first | rfl | kernel_rfl), ?_⟩)
  (refine ⟨_, _, _, a_assign (gd_none rfl) rfl rfl rfl rfl rfl, (by first | rfl | kernel_rfl), ?_⟩)
  show AWp _ _ _ _ _ _ _
  exact awp_ret ⟨.inr rfl, rfl⟩
-- 
theorem mNumber_abs (W : World) (t : Tm) (h1 : -9223372036854775808 ≤ t.f) (h2 : t.f < 0) : AFun Try.prog W 63 [t.cw] (.val (.i (-1 - t.f))) := by
  refine afun_of (rs := [.i (-1 - t.f)]) Try.func63 Try.ntmps63 rfl rfl rfl rfl ?_
  intro w U hW
  refine awp_seq (awp_region ?_)
  (refine ⟨_, _, _, a_box (gd_none rfl) rfl rfl rfl rfl rfl, (by first | rfl | kernel_rfl), ?_⟩)
  (refine ⟨_, _, _, a_assign (gd_none rfl) rfl rfl rfl rfl rfl, (by first | rfl | kernel_rfl), ?_⟩)
  show AWp _ _ _ _ _ _ _
  refine awp_seq (awp_region ?_)
  (first | (refine ⟨_, _, _, a_field_bp (gd_none rfl) rfl rfl rfl rfl rfl rfl rfl rfl rfl, (by first | rfl | kernel_rfl), ?_⟩) | (refine ⟨_, _, _, a_field_ad (gd_none rfl) rfl rfl rfl rfl rfl rfl rfl rfl rfl rfl rfl, (by first | rfl | kernel_rfl), ?_⟩) | (refine ⟨_, _, _, a_fieldM (gd_none rfl) rfl rfl rfl rfl rfl rfl rfl rfl rfl, (by first | rfl | kernel_rfl), ?_⟩))
  (first | (refine ⟨_, _, _, a_load_all (gd_none rfl) rfl rfl rfl rfl rfl rfl rfl rfl rfl rfl rfl rfl, (by first | rfl | kernel_rfl), ?_⟩) | (refine ⟨_, _, _, a_load_tok (gd_none rfl) rfl rfl rfl rfl rfl rfl rfl rfl rfl rfl rfl rfl rfl, (by first | rfl | kernel_rfl), ?_⟩) | (refine ⟨_, _, _, a_load_bp (gd_none rfl) rfl rfl rfl rfl rfl rfl rfl rfl rfl rfl rfl rfl, (by first | rfl | kernel_rfl), ?_⟩) | (refine ⟨_, _, _, a_load_ad (gd_none rfl) rfl rfl rfl rfl rfl rfl rfl rfl rfl, (by first | rfl | kernel_rfl), ?_⟩) | (refine ⟨_, _, _, a_load_ptr (gd_none rfl) rfl rfl rfl rfl rfl rfl rfl rfl rfl, (by first | rfl | kernel_rfl), ?_⟩) | (refine ⟨_, _, _, a_load_fld (gd_none rfl) rfl rfl rfl rfl rfl rfl rfl rfl rfl rfl rfl rfl rfl, (by first | rfl | kernel_rfl), ?_⟩) | (refine ⟨_, _, _, a_load_fullv (gd_none rfl) rfl rfl rfl rfl rfl rfl rfl rfl rfl, (by first | rfl | kernel_rfl), ?_⟩))
  (refine ⟨_, _, _, a_sub (gd_none rfl) rfl rfl rfl rfl rfl rfl (by first | omega | (simp only [List.length_map, List.length_append, List.length_cons, List.length_nil] <;> omega) | (simp <;> omega)), (by first | rfl | kernel_rfl), ?_⟩)
  (refine ⟨_, _, _, a_assign (gd_none rfl) rfl rfl rfl rfl rfl, (by first | rfl | kernel_rfl), ?_⟩)
  show AWp _ _ _ _ _ _ _
  exact awp_ret ⟨.inr rfl, rfl⟩
-- 
theorem mFind1_abs (W : World) (b : Bd) (v : Int) : AFun Try.prog W 90 [b.cw, .ptr (.i v)] (.val (.b (isV v b))) := by
  refine afun_of (rs := [.b (isV v b)]) Try.func90 Try.ntmps90 rfl rfl rfl rfl ?_
  intro w U hW
  refine awp_seq (awp_region ?_)
  (refine ⟨_, _, _, a_box (gd_none rfl) rfl rfl rfl rfl rfl, (by first | rfl | kernel_rfl), ?_⟩)
  (refine ⟨_, _, _, a_assign (gd_none rfl) rfl rfl rfl rfl rfl, (by first | rfl | kernel_rfl), ?_⟩)
  show AWp _ _ _ _ _ _ _
  refine awp_seq (awp_region ?_)
  (first | (refine ⟨_, _, _, a_field_bp (gd_none rfl) rfl rfl rfl rfl rfl rfl rfl rfl rfl, (by first | rfl | kernel_rfl), ?_⟩) | (refine ⟨_, _, _, a_field_ad (gd_none rfl) rfl rfl rfl rfl rfl rfl rfl rfl rfl rfl rfl, (by first | rfl | kernel_rfl), ?_⟩) | (refine ⟨_, _, _, a_fieldM (gd_none rfl) rfl rfl rfl rfl rfl rfl rfl rfl rfl, (by first | rfl | kernel_rfl), ?_⟩))
  (first | (refine ⟨_, _, _, a_load_all (gd_none rfl) rfl rfl rfl rfl rfl rfl rfl rfl rfl rfl rfl rfl, (by first | rfl | kernel_rfl), ?_⟩) | (refine ⟨_, _, _, a_load_tok (gd_none rfl) rfl rfl rfl rfl rfl rfl rfl rfl rfl rfl rfl rfl rfl, (by first | rfl | kernel_rfl), ?_⟩) | (refine ⟨_, _, _, a_load_bp (gd_none rfl) rfl rfl rfl rfl rfl rfl rfl rfl rfl rfl rfl rfl, (by first | rfl | kernel_rfl), ?_⟩) | (refine ⟨_, _, _, a_load_ad (gd_none rfl) rfl rfl rfl rfl rfl rfl rfl rfl rfl, (by first | rfl | kernel_rfl), ?_⟩) | (refine ⟨_, _, _, a_load_ptr (gd_none rfl) rfl rfl rfl rfl rfl rfl rfl rfl rfl, (by first | rfl | kernel_rfl), ?_⟩) | (refine ⟨_, _, _, a_load_fld (gd_none rfl) rfl rfl rfl rfl rfl rfl rfl rfl rfl rfl rfl rfl rfl, (by first | rfl | kernel_rfl), ?_⟩) | (refine ⟨_, _, _, a_load_fullv (gd_none rfl) rfl rfl rfl rfl rfl rfl rfl rfl rfl, (by first | rfl | kernel_rfl), ?_⟩))
  (first | (refine ⟨_, _, _, a_load_all (gd_none rfl) rfl rfl rfl rfl rfl rfl rfl rfl rfl rfl rfl rfl, (by first | rfl | kernel_rfl), ?_⟩) | (refine ⟨_, _, _, a_load_tok (gd_none rfl) rfl rfl rfl rfl rfl rfl rfl rfl rfl rfl rfl rfl rfl, (by first | rfl | kernel_rfl), ?_⟩) | (refine ⟨_, _, _, a_load_bp (gd_none rfl) rfl rfl rfl rfl rfl rfl rfl rfl rfl rfl rfl rfl, (by first | rfl | kernel_rfl), ?_⟩) | (refine ⟨_, _, _, a_load_ad (gd_none rfl) rfl rfl rfl rfl rfl rfl rfl rfl rfl, (by first | rfl | kernel_rfl), ?_⟩) | (refine ⟨_, _, _, a_load_ptr (gd_none rfl) rfl rfl rfl rfl rfl rfl rfl rfl rfl, (by first | rfl | kernel_rfl), ?_⟩) | (refine ⟨_, _, _, a_load_fld (gd_none rfl) rfl rfl rfl rfl rfl rfl rfl rfl rfl rfl rfl rfl rfl, (by first | rfl | kernel_rfl), ?_⟩) | (refine ⟨_, _, _, a_load_fullv (gd_none rfl) rfl rfl rfl rfl rfl rfl rfl rfl rfl, (by first | rfl | kernel_rfl), ?_⟩))
  (first | (refine ⟨_, _, _, a_eql (gd_none rfl) rfl rfl rfl rfl rfl rfl, (by first | rfl | kernel_rfl), ?_⟩) | (refine ⟨_, _, _, a_beq (gd_none rfl) rfl rfl rfl rfl rfl rfl rfl, (by first | rfl | kernel_rfl), ?_⟩))
  (refine ⟨_, _, _, a_assign (gd_none rfl) rfl rfl rfl rfl rfl, (by first | rfl | kernel_rfl), ?_⟩)
  show AWp _ _ _ _ _ _ _
  exact awp_ret ⟨.inr rfl, rfl⟩
-- 
theorem indexP_abs (W : World) (q : Bd → Bool) (fc : CV) (L : List Bd) (hn : L.length ≤ 1000000000) (hc : ∀ W x, x ∈ L → AFunW Try.prog W fc [x.cw] (.val (.b (q x)))) :
    AFun Try.prog W 89 [.lst (L.map Bd.cv), fc] (.val (.i (idxB q L 0))) := by
  have hsz := Bd.size_all L
  refine afun_of (rs := [.i (idxB q L 0)]) Try.func89 Try.ntmps89 rfl rfl rfl rfl ?_
  intro w U hW
  refine awp_seq (awp_region ?_)
  (refine ⟨_, _, _, a_assign (gd_none rfl) rfl rfl rfl rfl rfl, (by first | rfl | kernel_rfl), ?_⟩)
  show AWp _ _ _ _ _ _ _
  refine awp_seq (awp_seq (awp_region ?_))
  (refine ⟨_, _, _, a_move (gd_none rfl) rfl rfl rfl rfl rfl, (by first | rfl | kernel_rfl), ?_⟩)
  (first | (refine ⟨_, _, _, a_len (gd_none rfl) rfl rfl rfl rfl rfl rfl rfl, (by first | rfl | kernel_rfl), ?_⟩) | (refine ⟨_, _, _, a_lenM (gd_none rfl) rfl rfl rfl rfl rfl rfl rfl, (by first | rfl | kernel_rfl), ?_⟩))
  (refine ⟨_, _, _, a_move (gd_none rfl) rfl rfl rfl rfl rfl, (by first | rfl | kernel_rfl), ?_⟩)
  show AWp _ _ _ _ _ _ _
  refine awp_block (awp_countI L.length (fun k => ∀ j c, j < k → L[j]? = some c → q c = false) (fun k => [(0, .val (.lst (L.map Bd.cv))), (1, .val fc), (7, .val (.i (L.map Bd.cv).length)), (8, .val (.i k))]) (wk_sub ⟨rfl, rfl, rfl, rfl, trivial⟩) (fun j c hj => by omega) ?_)
  intro k hk hI
  refine awp_seq (awp_region ?_)
  (refine ⟨_, _, _, a_lss (gd_none rfl) rfl rfl rfl rfl rfl rfl, (by first | rfl | kernel_rfl), ?_⟩)
  show AWp _ _ _ _ _ _ _
  refine awp_seq (awp_cond rfl (fun hlt => ?_) (fun hlt => ?_))
  · have hkl : k < L.length := by simpa using hlt
    obtain ⟨x, hx⟩ : ∃ x, L[k]? = some x := ⟨L[k], List.getElem?_eq_getElem hkl⟩
    have hx' := Bd.map_at hx
    refine awp_skip ?_
    show AWp _ _ _ _ _ _ _
    refine awp_seq (awp_block (awp_seq (awp_region ?_)))
    (refine ⟨_, _, _, a_move (gd_none rfl) rfl rfl rfl rfl rfl, (by first | rfl | kernel_rfl), ?_⟩)
    (refine ⟨_, _, _, a_assign (gd_none rfl) rfl rfl rfl rfl rfl, (by first | rfl | kernel_rfl), ?_⟩)
    show AWp _ _ _ _ _ _ _
    refine awp_seq (awp_region ?_)
    (refine ⟨_, _, _, a_move (gd_none rfl) rfl rfl rfl rfl rfl, (by first | rfl | kernel_rfl), ?_⟩)
    (refine ⟨_, _, _, a_move (gd_none rfl) rfl rfl rfl rfl rfl, (by first | rfl | kernel_rfl), ?_⟩)
    (refine ⟨_, _, _, a_move (gd_none rfl) rfl rfl rfl rfl rfl, (by first | rfl | kernel_rfl), ?_⟩)
    (refine ⟨_, _, _, a_index (j := k) (gd_none rfl) rfl rfl rfl rfl rfl rfl rfl rfl rfl (hx') rfl (hsz), (by first | rfl | kernel_rfl), ?_⟩)
    (first | (refine ⟨_, _, _, a_load_all (gd_none rfl) rfl rfl rfl rfl rfl rfl rfl rfl rfl rfl rfl rfl, (by first | rfl | kernel_rfl), ?_⟩) | (refine ⟨_, _, _, a_load_tok (gd_none rfl) rfl rfl rfl rfl rfl rfl rfl rfl rfl rfl rfl rfl rfl, (by first | rfl | kernel_rfl), ?_⟩) | (refine ⟨_, _, _, a_load_bp (gd_none rfl) rfl rfl rfl rfl rfl rfl rfl rfl rfl rfl rfl rfl, (by first | rfl | kernel_rfl), ?_⟩) | (refine ⟨_, _, _, a_load_ad (gd_none rfl) rfl rfl rfl rfl rfl rfl rfl rfl rfl, (by first | rfl | kernel_rfl), ?_⟩) | (refine ⟨_, _, _, a_load_ptr (gd_none rfl) rfl rfl rfl rfl rfl rfl rfl rfl rfl, (by first | rfl | kernel_rfl), ?_⟩) | (refine ⟨_, _, _, a_load_fld (gd_none rfl) rfl rfl rfl rfl rfl rfl rfl rfl rfl rfl rfl rfl rfl, (by first | rfl | kernel_rfl), ?_⟩) | (refine ⟨_, _, _, a_load_fullv (gd_none rfl) rfl rfl rfl rfl rfl rfl rfl rfl rfl, (by first | rfl | kernel_rfl), ?_⟩))
    (refine ⟨_, _, _, a_callw (gd_none rfl) rfl rfl rfl rfl rfl rfl (hc _ x (List.mem_of_getElem? hx)), (by first | rfl | kernel_rfl), ?_⟩)
    show AWp _ _ _ _ _ _ _
    refine awp_cond rfl (fun hq => ?_) (fun hq => ?_)
    · refine awp_seq (awp_region ?_)
      (refine ⟨_, _, _, a_move (gd_none rfl) rfl rfl rfl rfl rfl, (by first | rfl | kernel_rfl), ?_⟩)
      (refine ⟨_, _, _, a_assign (gd_none rfl) rfl rfl rfl rfl rfl, (by first | rfl | kernel_rfl), ?_⟩)
      show AWp _ _ _ _ _ _ _
      rw [idxB_at hx hq hI, Nat.zero_add]
      exact awp_ret ⟨.inr rfl, rfl⟩
    · refine awp_skip ?_
      show AWp _ _ _ _ _ _ _
      refine awp_region ?_
      (refine ⟨_, _, _, a_add (gd_none rfl) rfl rfl rfl rfl rfl rfl (by first | omega | (simp only [List.length_map, List.length_append, List.length_cons, List.length_nil] <;> omega) | (simp <;> omega)), (by first | rfl | kernel_rfl), ?_⟩)
      (refine ⟨_, _, _, a_move (gd_none rfl) rfl rfl rfl rfl rfl, (by first | rfl | kernel_rfl), ?_⟩)
      refine ⟨hkl, fun j c hj hc => ?_, wk_sub ⟨rfl, rfl, rfl, rfl, trivial⟩⟩
      rcases Nat.lt_or_ge j k with h | h
      · exact hI j c h hc
      · have : j = k := by omega
        subst this
        rw [hx] at hc
        cases hc
        exact hq
  · have hkl : ¬ k < L.length := by simpa using hlt
    rw [idxB_none fun b hb => ?_]
    · refine awp_exit ?_
      show AWp _ _ _ _ _ _ _
      refine awp_seq (awp_region ?_)
      (refine ⟨_, _, _, a_assign (gd_none rfl) rfl rfl rfl rfl rfl, (by first | rfl | kernel_rfl), ?_⟩)
      show AWp _ _ _ _ _ _ _
      exact awp_ret ⟨.inr rfl, rfl⟩
    · obtain ⟨j, hj⟩ := List.getElem?_of_mem hb
      have hjl : j < L.length := by
        rcases Nat.lt_or_ge j L.length with h | h
        · exact h
        · rw [List.getElem?_eq_none h] at hj; cases hj
      exact hI j b (by omega) hj

theorem find_fn (W : World) (v : Int) (x : Bd) : AFunW Try.prog W (.fn 90 0 [.ptr (.i v)]) [x.cw] (.val (.b (isV v x))) := .inl ⟨90, 0, [.ptr (.i v)], rfl, mFind1_abs W x v⟩
-- 
theorem mFindA_abs (L : List Bd) (v : Int) (hl : L.length ≤ 1000000) : AFunO Try.prog 88 (bsA L) [.bp 350001 0 [], .val (.i v)] (.tup [.i (idxB (isV v) L 0), .b (decide (idxB (isV v) L 0 ≥ 0))]) (bsA L) := by
  refine afunO_of Try.func88 Try.ntmps88 rfl rfl rfl rfl rfl rfl ?_
  intro w U hU
  refine awp_seq (awp_region ?_)
  (refine ⟨_, _, _, a_box (gd_none rfl) rfl rfl rfl rfl rfl, (by first | rfl | kernel_rfl), ?_⟩)
  (refine ⟨_, _, _, a_assign (gd_none rfl) rfl rfl rfl rfl rfl, (by first | rfl | kernel_rfl), ?_⟩)
  (refine ⟨_, _, _, a_assign (gd_none rfl) rfl rfl rfl rfl rfl, (by first | rfl | kernel_rfl), ?_⟩)
  show AWp _ _ _ _ _ _ _
  refine awp_seq (awp_seq (awp_region ?_))
  (refine ⟨_, _, _, a_move (gd_none rfl) rfl rfl rfl rfl rfl, (by first | rfl | kernel_rfl), ?_⟩)
  (refine ⟨_, _, _, a_nilchk (gd_none rfl) rfl rfl rfl rfl rfl, (by first | rfl | kernel_rfl), ?_⟩)
  (first | (refine ⟨_, _, _, a_field_bp (gd_none rfl) rfl rfl rfl rfl rfl rfl rfl rfl rfl, (by first | rfl | kernel_rfl), ?_⟩) | (refine ⟨_, _, _, a_field_ad (gd_none rfl) rfl rfl rfl rfl rfl rfl rfl rfl rfl rfl rfl, (by first | rfl | kernel_rfl), ?_⟩) | (refine ⟨_, _, _, a_fieldM (gd_none rfl) rfl rfl rfl rfl rfl rfl rfl rfl rfl, (by first | rfl | kernel_rfl), ?_⟩))
  (first | (refine ⟨_, _, _, a_load_all (gd_none rfl) rfl rfl rfl rfl rfl rfl rfl rfl rfl rfl rfl rfl, (by first | rfl | kernel_rfl), ?_⟩) | (refine ⟨_, _, _, a_load_tok (gd_none rfl) rfl rfl rfl rfl rfl rfl rfl rfl rfl rfl rfl rfl rfl, (by first | rfl | kernel_rfl), ?_⟩) | (refine ⟨_, _, _, a_load_bp (gd_none rfl) rfl rfl rfl rfl rfl rfl rfl rfl rfl rfl rfl rfl, (by first | rfl | kernel_rfl), ?_⟩) | (refine ⟨_, _, _, a_load_ad (gd_none rfl) rfl rfl rfl rfl rfl rfl rfl rfl rfl, (by first | rfl | kernel_rfl), ?_⟩) | (refine ⟨_, _, _, a_load_ptr (gd_none rfl) rfl rfl rfl rfl rfl rfl rfl rfl rfl, (by first | rfl | kernel_rfl), ?_⟩) | (refine ⟨_, _, _, a_load_fld (gd_none rfl) rfl rfl rfl rfl rfl rfl rfl rfl rfl rfl rfl rfl rfl, (by first | rfl | kernel_rfl), ?_⟩) | (refine ⟨_, _, _, a_load_fullv (gd_none rfl) rfl rfl rfl rfl rfl rfl rfl rfl rfl, (by first | rfl | kernel_rfl), ?_⟩))
  (refine ⟨_, _, _, a_mnot (gd_none rfl) rfl rfl rfl rfl rfl rfl, (by first | rfl | kernel_rfl), ?_⟩)
  show AWp _ _ _ _ _ _ _
  refine awp_cond rfl (fun hc => by cases hc) (fun hc => ?_)
  refine awp_skip ?_
  show AWp _ _ _ _ _ _ _
  refine AWp.wk (wk_freeze 3 rfl rfl rfl (s' := (0, .bp 350001 0 []) :: bsA L) ⟨rfl, rfl, rfl, rfl, rfl, trivial⟩ (by kernel_rfl) (by kernel_rfl) (by kernel_rfl)) ?_
  refine awp_seq (awp_region ?_)
  (refine ⟨_, _, _, a_move (gd_none rfl) rfl rfl rfl rfl rfl, (by first | rfl | kernel_rfl), ?_⟩)
  (refine ⟨_, _, _, a_nilchk (gd_none rfl) rfl rfl rfl rfl rfl, (by first | rfl | kernel_rfl), ?_⟩)
  (first | (refine ⟨_, _, _, a_field_bp (gd_none rfl) rfl rfl rfl rfl rfl rfl rfl rfl rfl, (by first | rfl | kernel_rfl), ?_⟩) | (refine ⟨_, _, _, a_field_ad (gd_none rfl) rfl rfl rfl rfl rfl rfl rfl rfl rfl rfl rfl, (by first | rfl | kernel_rfl), ?_⟩) | (refine ⟨_, _, _, a_fieldM (gd_none rfl) rfl rfl rfl rfl rfl rfl rfl rfl rfl, (by first | rfl | kernel_rfl), ?_⟩))
  (first | (refine ⟨_, _, _, a_load_all (gd_none rfl) rfl rfl rfl rfl rfl rfl rfl rfl rfl rfl rfl rfl, (by first | rfl | kernel_rfl), ?_⟩) | (refine ⟨_, _, _, a_load_tok (gd_none rfl) rfl rfl rfl rfl rfl rfl rfl rfl rfl rfl rfl rfl rfl, (by first | rfl | kernel_rfl), ?_⟩) | (refine ⟨_, _, _, a_load_bp (gd_none rfl) rfl rfl rfl rfl rfl rfl rfl rfl rfl rfl rfl rfl, (by first | rfl | kernel_rfl), ?_⟩) | (refine ⟨_, _, _, a_load_ad (gd_none rfl) rfl rfl rfl rfl rfl rfl rfl rfl rfl, (by first | rfl | kernel_rfl), ?_⟩) | (refine ⟨_, _, _, a_load_ptr (gd_none rfl) rfl rfl rfl rfl rfl rfl rfl rfl rfl, (by first | rfl | kernel_rfl), ?_⟩) | (refine ⟨_, _, _, a_load_fld (gd_none rfl) rfl rfl rfl rfl rfl rfl rfl rfl rfl rfl rfl rfl rfl, (by first | rfl | kernel_rfl), ?_⟩) | (refine ⟨_, _, _, a_load_fullv (gd_none rfl) rfl rfl rfl rfl rfl rfl rfl rfl rfl, (by first | rfl | kernel_rfl), ?_⟩))
  (refine ⟨_, _, _, a_mkfunc (gd_none rfl) rfl rfl rfl rfl rfl rfl, (by first | rfl | kernel_rfl), ?_⟩)
  (refine ⟨_, _, _, a_call (gd_none rfl) rfl rfl rfl rfl rfl (indexP_abs w (isV v) _ L (by omega) (fun W x _ => find_fn W v x)), (by first | rfl | kernel_rfl), ?_⟩)
  (refine ⟨_, _, _, a_assign (gd_none rfl) rfl rfl rfl rfl rfl, (by first | rfl | kernel_rfl), ?_⟩)
  show AWp _ _ _ _ _ _ _
  refine awp_seq (awp_region ?_)
  (refine ⟨_, _, _, a_move (gd_none rfl) rfl rfl rfl rfl rfl, (by first | rfl | kernel_rfl), ?_⟩)
  (refine ⟨_, _, _, a_move (gd_none rfl) rfl rfl rfl rfl rfl, (by first | rfl | kernel_rfl), ?_⟩)
  (refine ⟨_, _, _, a_geq (gd_none rfl) rfl rfl rfl rfl rfl rfl, (by first | rfl | kernel_rfl), ?_⟩)
  (refine ⟨_, _, _, a_assign (gd_none rfl) rfl rfl rfl rfl rfl, (by first | rfl | kernel_rfl), ?_⟩)
  (refine ⟨_, _, _, a_assign (gd_none rfl) rfl rfl rfl rfl rfl, (by first | rfl | kernel_rfl), ?_⟩)
  show AWp _ _ _ _ _ _ _
  exact awp_ret ⟨.inr rfl, _, Wk.refl _, rfl, rfl, rfl, rfl, rfl, trivial⟩
-- 
theorem mFindB_abs (L : List Bd) (v : Int) (hl : L.length ≤ 1000000) : AFunO Try.prog 88 (bsB L) [.bp 350001 0 [], .val (.i v)] (.tup [.i (idxB (isV v) L 0), .b (decide (idxB (isV v) L 0 ≥ 0))]) (bsB L) := by
  refine afunO_of Try.func88 Try.ntmps88 rfl rfl rfl rfl rfl rfl ?_
  intro w U hU
  refine awp_seq (awp_region ?_)
  (refine ⟨_, _, _, a_box (gd_none rfl) rfl rfl rfl rfl rfl, (by first | rfl | kernel_rfl), ?_⟩)
  (refine ⟨_, _, _, a_assign (gd_none rfl) rfl rfl rfl rfl rfl, (by first | rfl | kernel_rfl), ?_⟩)
  (refine ⟨_, _, _, a_assign (gd_none rfl) rfl rfl rfl rfl rfl, (by first | rfl | kernel_rfl), ?_⟩)
  show AWp _ _ _ _ _ _ _
  refine awp_seq (awp_seq (awp_region ?_))
  (refine ⟨_, _, _, a_move (gd_none rfl) rfl rfl rfl rfl rfl, (by first | rfl | kernel_rfl), ?_⟩)
  (refine ⟨_, _, _, a_nilchk (gd_none rfl) rfl rfl rfl rfl rfl, (by first | rfl | kernel_rfl), ?_⟩)
  (first | (refine ⟨_, _, _, a_field_bp (gd_none rfl) rfl rfl rfl rfl rfl rfl rfl rfl rfl, (by first | rfl | kernel_rfl), ?_⟩) | (refine ⟨_, _, _, a_field_ad (gd_none rfl) rfl rfl rfl rfl rfl rfl rfl rfl rfl rfl rfl, (by first | rfl | kernel_rfl), ?_⟩) | (refine ⟨_, _, _, a_fieldM (gd_none rfl) rfl rfl rfl rfl rfl rfl rfl rfl rfl, (by first | rfl | kernel_rfl), ?_⟩))
  (first | (refine ⟨_, _, _, a_load_all (gd_none rfl) rfl rfl rfl rfl rfl rfl rfl rfl rfl rfl rfl rfl, (by first | rfl | kernel_rfl), ?_⟩) | (refine ⟨_, _, _, a_load_tok (gd_none rfl) rfl rfl rfl rfl rfl rfl rfl rfl rfl rfl rfl rfl rfl, (by first | rfl | kernel_rfl), ?_⟩) | (refine ⟨_, _, _, a_load_bp (gd_none rfl) rfl rfl rfl rfl rfl rfl rfl rfl rfl rfl rfl rfl, (by first | rfl | kernel_rfl), ?_⟩) | (refine ⟨_, _, _, a_load_ad (gd_none rfl) rfl rfl rfl rfl rfl rfl rfl rfl rfl, (by first | rfl | kernel_rfl), ?_⟩) | (refine ⟨_, _, _, a_load_ptr (gd_none rfl) rfl rfl rfl rfl rfl rfl rfl rfl rfl, (by first | rfl | kernel_rfl), ?_⟩) | (refine ⟨_, _, _, a_load_fld (gd_none rfl) rfl rfl rfl rfl rfl rfl rfl rfl rfl rfl rfl rfl rfl, (by first | rfl | kernel_rfl), ?_⟩) | (refine ⟨_, _, _, a_load_fullv (gd_none rfl) rfl rfl rfl rfl rfl rfl rfl rfl rfl, (by first | rfl | kernel_rfl), ?_⟩))
  (refine ⟨_, _, _, a_mnot (gd_none rfl) rfl rfl rfl rfl rfl rfl, (by first | rfl | kernel_rfl), ?_⟩)
  show AWp _ _ _ _ _ _ _
  refine awp_cond rfl (fun hc => by cases hc) (fun hc => ?_)
  refine awp_skip ?_
  show AWp _ _ _ _ _ _ _
  refine AWp.wk (wk_freeze 3 rfl rfl rfl (s' := (0, .bp 350001 0 []) :: bsB L) ⟨rfl, rfl, rfl, rfl, rfl, trivial⟩ (by kernel_rfl) (by kernel_rfl) (by kernel_rfl)) ?_
  have hUf : U.f 400000 = none := by
    cases h : U.f 400000 with
    | none => rfl
    | some x => have := hU _ _ h; cases this
  refine AWp.wk (wk_renF 300001 400000 rfl rfl hUf (by kernel_rfl) (by kernel_rfl) (by kernel_rfl)) ?_
  have hix := indexF_abs (isV v) (.fn 90 0 [.ptr (.i v)]) L L.length (Nat.le_refl _) (by omega) (fun W x _ => find_fn W v x)
  rw [List.take_length] at hix
  refine awp_seq (awp_region ?_)
  (refine ⟨_, _, _, a_move (gd_none rfl) rfl rfl rfl rfl rfl, (by first | rfl | kernel_rfl), ?_⟩)
  (refine ⟨_, _, _, a_nilchk (gd_none rfl) rfl rfl rfl rfl rfl, (by first | rfl | kernel_rfl), ?_⟩)
  (first | (refine ⟨_, _, _, a_field_bp (gd_none rfl) rfl rfl rfl rfl rfl rfl rfl rfl rfl, (by first | rfl | kernel_rfl), ?_⟩) | (refine ⟨_, _, _, a_field_ad (gd_none rfl) rfl rfl rfl rfl rfl rfl rfl rfl rfl rfl rfl, (by first | rfl | kernel_rfl), ?_⟩) | (refine ⟨_, _, _, a_fieldM (gd_none rfl) rfl rfl rfl rfl rfl rfl rfl rfl rfl, (by first | rfl | kernel_rfl), ?_⟩))
  (first | (refine ⟨_, _, _, a_load_all (gd_none rfl) rfl rfl rfl rfl rfl rfl rfl rfl rfl rfl rfl rfl, (by first | rfl | kernel_rfl), ?_⟩) | (refine ⟨_, _, _, a_load_tok (gd_none rfl) rfl rfl rfl rfl rfl rfl rfl rfl rfl rfl rfl rfl rfl, (by first | rfl | kernel_rfl), ?_⟩) | (refine ⟨_, _, _, a_load_bp (gd_none rfl) rfl rfl rfl rfl rfl rfl rfl rfl rfl rfl rfl rfl, (by first | rfl | kernel_rfl), ?_⟩) | (refine ⟨_, _, _, a_load_ad (gd_none rfl) rfl rfl rfl rfl rfl rfl rfl rfl rfl, (by first | rfl | kernel_rfl), ?_⟩) | (refine ⟨_, _, _, a_load_ptr (gd_none rfl) rfl rfl rfl rfl rfl rfl rfl rfl rfl, (by first | rfl | kernel_rfl), ?_⟩) | (refine ⟨_, _, _, a_load_fld (gd_none rfl) rfl rfl rfl rfl rfl rfl rfl rfl rfl rfl rfl rfl rfl, (by first | rfl | kernel_rfl), ?_⟩) | (refine ⟨_, _, _, a_load_fullv (gd_none rfl) rfl rfl rfl rfl rfl rfl rfl rfl rfl, (by first | rfl | kernel_rfl), ?_⟩))
  (refine ⟨_, _, _, a_mkfunc (gd_none rfl) rfl rfl rfl rfl rfl rfl, (by first | rfl | kernel_rfl), ?_⟩)
  (refine ⟨_, _, _, a_callO (gd_none rfl) rfl rfl rfl rfl rfl (hix) (by repeat (first | exact trivial | refine ⟨rfl, ?_⟩)) (by first | rfl | kernel_rfl) (by first | rfl | kernel_rfl) (by first | rfl | kernel_rfl) (by first | rfl | kernel_rfl) (hnb_of (by first | rfl | kernel_rfl)), (by first | rfl | kernel_rfl), ?_⟩)
  (refine ⟨_, _, _, a_assign (gd_none rfl) rfl rfl rfl rfl rfl, (by first | rfl | kernel_rfl), ?_⟩)
  show AWp _ _ _ _ _ _ _
  refine awp_seq (awp_region ?_)
  (refine ⟨_, _, _, a_move (gd_none rfl) rfl rfl rfl rfl rfl, (by first | rfl | kernel_rfl), ?_⟩)
  (refine ⟨_, _, _, a_move (gd_none rfl) rfl rfl rfl rfl rfl, (by first | rfl | kernel_rfl), ?_⟩)
  (refine ⟨_, _, _, a_geq (gd_none rfl) rfl rfl rfl rfl rfl rfl, (by first | rfl | kernel_rfl), ?_⟩)
  (refine ⟨_, _, _, a_assign (gd_none rfl) rfl rfl rfl rfl rfl, (by first | rfl | kernel_rfl), ?_⟩)
  (refine ⟨_, _, _, a_assign (gd_none rfl) rfl rfl rfl rfl rfl, (by first | rfl | kernel_rfl), ?_⟩)
  show AWp _ _ _ _ _ _ _
  refine awp_ret ⟨.inr rfl, _, (wk_sub (s' := [(4, .val (.i (idxB (isV v) L 0))), (5, .val (.b (decide (idxB (isV v) L 0 ≥ 0)))), (450001, .obj), (35500100, .sl 400000 0 L.length 3), (35500101, .val (.sc (.map none))), (400000, .mrow 60 3 (L.map Bd.cv))]) ⟨rfl, rfl, rfl, rfl, rfl, rfl, trivial⟩).trans (wk_renF 400000 300001 rfl rfl ?_ (by kernel_rfl) (by kernel_rfl) (by kernel_rfl)), rfl, rfl, rfl, rfl, rfl, trivial⟩
  cases h : U.f 300001 with
  | none => rfl
  | some x => have := (U.hf _ _ h).1; omega
-- 
theorem mGetA_abs (L : List Bd) (v : Int) (hl : L.length ≤ 64) : AFunO Try.prog 81 (bsA L) [.bp 350001 0 [], .val (.i v)] (.tup [((findB L v).getD ⟨0, []⟩).cw, .b (findB L v).isSome]) (bsA L) := by
  have hsz := Bd.size_all L
  refine afunO_of Try.func81 Try.ntmps81 rfl rfl rfl rfl rfl rfl ?_
  intro w U hU
  refine awp_seq (awp_region ?_)
  (refine ⟨_, _, _, a_alloc (gd_none rfl) rfl rfl rfl rfl rfl rfl rfl rfl rfl rfl, (by first | rfl | kernel_rfl), ?_⟩)
  (refine ⟨_, _, _, a_assign (gd_none rfl) rfl rfl rfl rfl rfl, (by first | rfl | kernel_rfl), ?_⟩)
  show AWp _ _ _ _ _ _ _
  refine awp_seq (awp_seq (awp_region ?_))
  (refine ⟨_, _, _, a_move (gd_none rfl) rfl rfl rfl rfl rfl, (by first | rfl | kernel_rfl), ?_⟩)
  (refine ⟨_, _, _, a_nilchk (gd_none rfl) rfl rfl rfl rfl rfl, (by first | rfl | kernel_rfl), ?_⟩)
  (first | (refine ⟨_, _, _, a_field_bp (gd_none rfl) rfl rfl rfl rfl rfl rfl rfl rfl rfl, (by first | rfl | kernel_rfl), ?_⟩) | (refine ⟨_, _, _, a_field_ad (gd_none rfl) rfl rfl rfl rfl rfl rfl rfl rfl rfl rfl rfl, (by first | rfl | kernel_rfl), ?_⟩) | (refine ⟨_, _, _, a_fieldM (gd_none rfl) rfl rfl rfl rfl rfl rfl rfl rfl rfl, (by first | rfl | kernel_rfl), ?_⟩))
  (first | (refine ⟨_, _, _, a_load_all (gd_none rfl) rfl rfl rfl rfl rfl rfl rfl rfl rfl rfl rfl rfl, (by first | rfl | kernel_rfl), ?_⟩) | (refine ⟨_, _, _, a_load_tok (gd_none rfl) rfl rfl rfl rfl rfl rfl rfl rfl rfl rfl rfl rfl rfl, (by first | rfl | kernel_rfl), ?_⟩) | (refine ⟨_, _, _, a_load_bp (gd_none rfl) rfl rfl rfl rfl rfl rfl rfl rfl rfl rfl rfl rfl, (by first | rfl | kernel_rfl), ?_⟩) | (refine ⟨_, _, _, a_load_ad (gd_none rfl) rfl rfl rfl rfl rfl rfl rfl rfl rfl, (by first | rfl | kernel_rfl), ?_⟩) | (refine ⟨_, _, _, a_load_ptr (gd_none rfl) rfl rfl rfl rfl rfl rfl rfl rfl rfl, (by first | rfl | kernel_rfl), ?_⟩) | (refine ⟨_, _, _, a_load_fld (gd_none rfl) rfl rfl rfl rfl rfl rfl rfl rfl rfl rfl rfl rfl rfl, (by first | rfl | kernel_rfl), ?_⟩) | (refine ⟨_, _, _, a_load_fullv (gd_none rfl) rfl rfl rfl rfl rfl rfl rfl rfl rfl, (by first | rfl | kernel_rfl), ?_⟩))
  (refine ⟨_, _, _, a_mnil (gd_none rfl) rfl rfl rfl rfl rfl rfl, (by first | rfl | kernel_rfl), ?_⟩)
  (refine ⟨_, _, _, a_move (gd_none rfl) rfl rfl rfl rfl rfl, (by first | rfl | kernel_rfl), ?_⟩)
  (refine ⟨_, _, _, a_move (gd_on rfl rfl rfl rfl (by first | rfl | assumption | (simp; done))) rfl rfl rfl rfl rfl, (by first | rfl | kernel_rfl), ?_⟩)
  (refine ⟨_, _, _, a_nilchk (gd_on rfl rfl rfl rfl (by first | rfl | assumption | (simp; done))) rfl rfl rfl rfl rfl, (by first | rfl | kernel_rfl), ?_⟩)
  (first | (refine ⟨_, _, _, a_field_bp (gd_on rfl rfl rfl rfl (by first | rfl | assumption | (simp; done))) rfl rfl rfl rfl rfl rfl rfl rfl rfl, (by first | rfl | kernel_rfl), ?_⟩) | (refine ⟨_, _, _, a_field_ad (gd_on rfl rfl rfl rfl (by first | rfl | assumption | (simp; done))) rfl rfl rfl rfl rfl rfl rfl rfl rfl rfl rfl, (by first | rfl | kernel_rfl), ?_⟩) | (refine ⟨_, _, _, a_fieldM (gd_on rfl rfl rfl rfl (by first | rfl | assumption | (simp; done))) rfl rfl rfl rfl rfl rfl rfl rfl rfl, (by first | rfl | kernel_rfl), ?_⟩))
  (first | (refine ⟨_, _, _, a_load_all (gd_on rfl rfl rfl rfl (by first | rfl | assumption | (simp; done))) rfl rfl rfl rfl rfl rfl rfl rfl rfl rfl rfl rfl, (by first | rfl | kernel_rfl), ?_⟩) | (refine ⟨_, _, _, a_load_tok (gd_on rfl rfl rfl rfl (by first | rfl | assumption | (simp; done))) rfl rfl rfl rfl rfl rfl rfl rfl rfl rfl rfl rfl rfl, (by first | rfl | kernel_rfl), ?_⟩) | (refine ⟨_, _, _, a_load_bp (gd_on rfl rfl rfl rfl (by first | rfl | assumption | (simp; done))) rfl rfl rfl rfl rfl rfl rfl rfl rfl rfl rfl rfl, (by first | rfl | kernel_rfl), ?_⟩) | (refine ⟨_, _, _, a_load_ad (gd_on rfl rfl rfl rfl (by first | rfl | assumption | (simp; done))) rfl rfl rfl rfl rfl rfl rfl rfl rfl, (by first | rfl | kernel_rfl), ?_⟩) | (refine ⟨_, _, _, a_load_ptr (gd_on rfl rfl rfl rfl (by first | rfl | assumption | (simp; done))) rfl rfl rfl rfl rfl rfl rfl rfl rfl, (by first | rfl | kernel_rfl), ?_⟩) | (refine ⟨_, _, _, a_load_fld (gd_on rfl rfl rfl rfl (by first | rfl | assumption | (simp; done))) rfl rfl rfl rfl rfl rfl rfl rfl rfl rfl rfl rfl rfl, (by first | rfl | kernel_rfl), ?_⟩) | (refine ⟨_, _, _, a_load_fullv (gd_on rfl rfl rfl rfl (by first | rfl | assumption | (simp; done))) rfl rfl rfl rfl rfl rfl rfl rfl rfl, (by first | rfl | kernel_rfl), ?_⟩))
  (first | (refine ⟨_, _, _, a_len (gd_on rfl rfl rfl rfl (by first | rfl | assumption | (simp; done))) rfl rfl rfl rfl rfl rfl rfl, (by first | rfl | kernel_rfl), ?_⟩) | (refine ⟨_, _, _, a_lenM (gd_on rfl rfl rfl rfl (by first | rfl | assumption | (simp; done))) rfl rfl rfl rfl rfl rfl rfl, (by first | rfl | kernel_rfl), ?_⟩))
  (refine ⟨_, _, _, a_gtr (gd_on rfl rfl rfl rfl (by first | rfl | assumption | (simp; done))) rfl rfl rfl rfl rfl rfl, (by first | rfl | kernel_rfl), ?_⟩)
  (first | (refine ⟨_, _, _, a_pick_t (gd_none rfl) rfl rfl rfl rfl rfl ?hb rfl, rfl, ?_⟩; case hb => (first | rfl | assumption | (simp; done))) | (refine ⟨_, _, _, a_pick_f (gd_none rfl) rfl rfl rfl rfl rfl ?hb rfl, rfl, ?_⟩; case hb => (first | rfl | assumption | (simp; done))))
  show AWp _ _ _ _ _ _ _
  refine awp_cond rfl (fun hc => ?_) (fun hc => ?_)
  · simp only [List.length_map, decide_eq_true_eq] at hc
    omega
  refine awp_skip ?_
  show AWp _ _ _ _ _ _ _
  refine awp_seq (awp_region ?_)
  (refine ⟨_, _, _, a_move (gd_none rfl) rfl rfl rfl rfl rfl, (by first | rfl | kernel_rfl), ?_⟩)
  (refine ⟨_, _, _, a_move (gd_none rfl) rfl rfl rfl rfl rfl, (by first | rfl | kernel_rfl), ?_⟩)
  (refine ⟨_, _, _, a_callO (gd_none rfl) rfl rfl rfl rfl rfl (mFindA_abs L v (by omega)) (by repeat (first | exact trivial | refine ⟨rfl, ?_⟩)) (by first | rfl | kernel_rfl) (by first | rfl | kernel_rfl) (by first | rfl | kernel_rfl) (by first | rfl | kernel_rfl) (hnb_of (by first | rfl | kernel_rfl)), (by first | rfl | kernel_rfl), ?_⟩)
  (refine ⟨_, _, _, a_move (gd_none rfl) rfl rfl rfl rfl rfl, (by first | rfl | kernel_rfl), ?_⟩)
  (refine ⟨_, _, _, a_extract (gd_none rfl) rfl rfl rfl rfl rfl rfl, (by first | rfl | kernel_rfl), ?_⟩)
  (refine ⟨_, _, _, a_extract (gd_none rfl) rfl rfl rfl rfl rfl rfl, (by first | rfl | kernel_rfl), ?_⟩)
  (refine ⟨_, _, _, a_assign (gd_none rfl) rfl rfl rfl rfl rfl, (by first | rfl | kernel_rfl), ?_⟩)
  (refine ⟨_, _, _, a_assign (gd_none rfl) rfl rfl rfl rfl rfl, (by first | rfl | kernel_rfl), ?_⟩)
  show AWp _ _ _ _ _ _ _
  refine awp_seq (awp_seq (awp_region ?_))
  (refine ⟨_, _, _, a_move (gd_none rfl) rfl rfl rfl rfl rfl, (by first | rfl | kernel_rfl), ?_⟩)
  (refine ⟨_, _, _, a_not (gd_none rfl) rfl rfl rfl rfl rfl, (by first | rfl | kernel_rfl), ?_⟩)
  show AWp _ _ _ _ _ _ _
  rcases idx_find L v 0 with ⟨h1, h2⟩ | ⟨k, b, h1, h2, h3⟩
  · rw [h1, h2]
    refine awp_cond rfl (fun hc => ?_) (fun hc => by cases hc)
    refine awp_seq (awp_region ?_)
    (refine ⟨_, _, _, a_build (gd_none rfl) rfl rfl rfl rfl rfl rfl rfl rfl rfl rfl rfl, (by first | rfl | kernel_rfl), ?_⟩)
    (first | (refine ⟨_, _, _, a_store_all (gd_none rfl) rfl rfl rfl rfl rfl rfl rfl rfl rfl rfl, (by first | rfl | kernel_rfl), ?_⟩) | (refine ⟨_, _, _, a_store (gd_none rfl) rfl rfl rfl rfl rfl rfl rfl rfl rfl rfl, (by first | rfl | kernel_rfl), ?_⟩) | (refine ⟨_, _, _, a_store_fld (gd_none rfl) rfl rfl rfl rfl rfl rfl rfl rfl rfl rfl rfl rfl, (by first | rfl | kernel_rfl), ?_⟩))
    (refine ⟨_, _, _, a_assign (gd_none rfl) rfl rfl rfl rfl rfl, (by first | rfl | kernel_rfl), ?_⟩)
    show AWp _ _ _ _ _ _ _
    exact awp_ret ⟨.inr rfl, _, Wk.refl _, rfl, rfl, rfl, rfl, rfl, trivial⟩
  · rw [Nat.zero_add] at h3
    rw [h2, h3]
    have hb' := Bd.map_at h1
    refine awp_cond rfl (fun hc => ?_) (fun hc => ?_)
    · simp at hc <;> omega
    refine awp_skip ?_
    show AWp _ _ _ _ _ _ _
    refine awp_seq (awp_region ?_)
    (refine ⟨_, _, _, a_move (gd_none rfl) rfl rfl rfl rfl rfl, (by first | rfl | kernel_rfl), ?_⟩)
    (refine ⟨_, _, _, a_nilchk (gd_none rfl) rfl rfl rfl rfl rfl, (by first | rfl | kernel_rfl), ?_⟩)
    (first | (refine ⟨_, _, _, a_field_bp (gd_none rfl) rfl rfl rfl rfl rfl rfl rfl rfl rfl, (by first | rfl | kernel_rfl), ?_⟩) | (refine ⟨_, _, _, a_field_ad (gd_none rfl) rfl rfl rfl rfl rfl rfl rfl rfl rfl rfl rfl, (by first | rfl | kernel_rfl), ?_⟩) | (refine ⟨_, _, _, a_fieldM (gd_none rfl) rfl rfl rfl rfl rfl rfl rfl rfl rfl, (by first | rfl | kernel_rfl), ?_⟩))
    (first | (refine ⟨_, _, _, a_load_all (gd_none rfl) rfl rfl rfl rfl rfl rfl rfl rfl rfl rfl rfl rfl, (by first | rfl | kernel_rfl), ?_⟩) | (refine ⟨_, _, _, a_load_tok (gd_none rfl) rfl rfl rfl rfl rfl rfl rfl rfl rfl rfl rfl rfl rfl, (by first | rfl | kernel_rfl), ?_⟩) | (refine ⟨_, _, _, a_load_bp (gd_none rfl) rfl rfl rfl rfl rfl rfl rfl rfl rfl rfl rfl rfl, (by first | rfl | kernel_rfl), ?_⟩) | (refine ⟨_, _, _, a_load_ad (gd_none rfl) rfl rfl rfl rfl rfl rfl rfl rfl rfl, (by first | rfl | kernel_rfl), ?_⟩) | (refine ⟨_, _, _, a_load_ptr (gd_none rfl) rfl rfl rfl rfl rfl rfl rfl rfl rfl, (by first | rfl | kernel_rfl), ?_⟩) | (refine ⟨_, _, _, a_load_fld (gd_none rfl) rfl rfl rfl rfl rfl rfl rfl rfl rfl rfl rfl rfl rfl, (by first | rfl | kernel_rfl), ?_⟩) | (refine ⟨_, _, _, a_load_fullv (gd_none rfl) rfl rfl rfl rfl rfl rfl rfl rfl rfl, (by first | rfl | kernel_rfl), ?_⟩))
    (refine ⟨_, _, _, a_move (gd_none rfl) rfl rfl rfl rfl rfl, (by first | rfl | kernel_rfl), ?_⟩)
    (refine ⟨_, _, _, a_index (j := k) (gd_none rfl) rfl rfl rfl rfl rfl rfl rfl rfl rfl (hb') rfl (hsz), (by first | rfl | kernel_rfl), ?_⟩)
    (first | (refine ⟨_, _, _, a_field_bp (gd_none rfl) rfl rfl rfl rfl rfl rfl rfl rfl rfl, (by first | rfl | kernel_rfl), ?_⟩) | (refine ⟨_, _, _, a_field_ad (gd_none rfl) rfl rfl rfl rfl rfl rfl rfl rfl rfl rfl rfl, (by first | rfl | kernel_rfl), ?_⟩) | (refine ⟨_, _, _, a_fieldM (gd_none rfl) rfl rfl rfl rfl rfl rfl rfl rfl rfl, (by first | rfl | kernel_rfl), ?_⟩))
    (first | (refine ⟨_, _, _, a_load_all (gd_none rfl) rfl rfl rfl rfl rfl rfl rfl rfl rfl rfl rfl rfl, (by first | rfl | kernel_rfl), ?_⟩) | (refine ⟨_, _, _, a_load_tok (gd_none rfl) rfl rfl rfl rfl rfl rfl rfl rfl rfl rfl rfl rfl rfl, (by first | rfl | kernel_rfl), ?_⟩) | (refine ⟨_, _, _, a_load_bp (gd_none rfl) rfl rfl rfl rfl rfl rfl rfl rfl rfl rfl rfl rfl, (by first | rfl | kernel_rfl), ?_⟩) | (refine ⟨_, _, _, a_load_ad (gd_none rfl) rfl rfl rfl rfl rfl rfl rfl rfl rfl, (by first | rfl | kernel_rfl), ?_⟩) | (refine ⟨_, _, _, a_load_ptr (gd_none rfl) rfl rfl rfl rfl rfl rfl rfl rfl rfl, (by first | rfl | kernel_rfl), ?_⟩) | (refine ⟨_, _, _, a_load_fld (gd_none rfl) rfl rfl rfl rfl rfl rfl rfl rfl rfl rfl rfl rfl rfl, (by first | rfl | kernel_rfl), ?_⟩) | (refine ⟨_, _, _, a_load_fullv (gd_none rfl) rfl rfl rfl rfl rfl rfl rfl rfl rfl, (by first | rfl | kernel_rfl), ?_⟩))
    (first | (refine ⟨_, _, _, a_store_all (gd_none rfl) rfl rfl rfl rfl rfl rfl rfl rfl rfl rfl, (by first | rfl | kernel_rfl), ?_⟩) | (refine ⟨_, _, _, a_store (gd_none rfl) rfl rfl rfl rfl rfl rfl rfl rfl rfl rfl, (by first | rfl | kernel_rfl), ?_⟩) | (refine ⟨_, _, _, a_store_fld (gd_none rfl) rfl rfl rfl rfl rfl rfl rfl rfl rfl rfl rfl rfl, (by first | rfl | kernel_rfl), ?_⟩))
    (refine ⟨_, _, _, a_assign (gd_none rfl) rfl rfl rfl rfl rfl, (by first | rfl | kernel_rfl), ?_⟩)
    show AWp _ _ _ _ _ _ _
    exact awp_ret ⟨.inr rfl, _, Wk.refl _, rfl, rfl, rfl, rfl, rfl, trivial⟩
-- 
theorem mGetB_abs (L : List Bd) (v : Int) (hl : L.length ≤ 64) : AFunO Try.prog 81 (bsB L) [.bp 350001 0 [], .val (.i v)] (.tup [((findB L v).getD ⟨0, []⟩).cw, .b (findB L v).isSome]) (bsB L) := by
  have hsz := Bd.size_all L
  refine afunO_of Try.func81 Try.ntmps81 rfl rfl rfl rfl rfl rfl ?_
  intro w U hU
  refine awp_seq (awp_region ?_)
  (refine ⟨_, _, _, a_alloc (gd_none rfl) rfl rfl rfl rfl rfl rfl rfl rfl rfl rfl, (by first | rfl | kernel_rfl), ?_⟩)
  (refine ⟨_, _, _, a_assign (gd_none rfl) rfl rfl rfl rfl rfl, (by first | rfl | kernel_rfl), ?_⟩)
  show AWp _ _ _ _ _ _ _
  refine awp_seq (awp_seq (awp_region ?_))
  (refine ⟨_, _, _, a_move (gd_none rfl) rfl rfl rfl rfl rfl, (by first | rfl | kernel_rfl), ?_⟩)
  (refine ⟨_, _, _, a_nilchk (gd_none rfl) rfl rfl rfl rfl rfl, (by first | rfl | kernel_rfl), ?_⟩)
  (first | (refine ⟨_, _, _, a_field_bp (gd_none rfl) rfl rfl rfl rfl rfl rfl rfl rfl rfl, (by first | rfl | kernel_rfl), ?_⟩) | (refine ⟨_, _, _, a_field_ad (gd_none rfl) rfl rfl rfl rfl rfl rfl rfl rfl rfl rfl rfl, (by first | rfl | kernel_rfl), ?_⟩) | (refine ⟨_, _, _, a_fieldM (gd_none rfl) rfl rfl rfl rfl rfl rfl rfl rfl rfl, (by first | rfl | kernel_rfl), ?_⟩))
  (first | (refine ⟨_, _, _, a_load_all (gd_none rfl) rfl rfl rfl rfl rfl rfl rfl rfl rfl rfl rfl rfl, (by first | rfl | kernel_rfl), ?_⟩) | (refine ⟨_, _, _, a_load_tok (gd_none rfl) rfl rfl rfl rfl rfl rfl rfl rfl rfl rfl rfl rfl rfl, (by first | rfl | kernel_rfl), ?_⟩) | (refine ⟨_, _, _, a_load_bp (gd_none rfl) rfl rfl rfl rfl rfl rfl rfl rfl rfl rfl rfl rfl, (by first | rfl | kernel_rfl), ?_⟩) | (refine ⟨_, _, _, a_load_ad (gd_none rfl) rfl rfl rfl rfl rfl rfl rfl rfl rfl, (by first | rfl | kernel_rfl), ?_⟩) | (refine ⟨_, _, _, a_load_ptr (gd_none rfl) rfl rfl rfl rfl rfl rfl rfl rfl rfl, (by first | rfl | kernel_rfl), ?_⟩) | (refine ⟨_, _, _, a_load_fld (gd_none rfl) rfl rfl rfl rfl rfl rfl rfl rfl rfl rfl rfl rfl rfl, (by first | rfl | kernel_rfl), ?_⟩) | (refine ⟨_, _, _, a_load_fullv (gd_none rfl) rfl rfl rfl rfl rfl rfl rfl rfl rfl, (by first | rfl | kernel_rfl), ?_⟩))
  (refine ⟨_, _, _, a_mnil (gd_none rfl) rfl rfl rfl rfl rfl rfl, (by first | rfl | kernel_rfl), ?_⟩)
  (refine ⟨_, _, _, a_move (gd_none rfl) rfl rfl rfl rfl rfl, (by first | rfl | kernel_rfl), ?_⟩)
  (refine ⟨_, _, _, a_move (gd_on rfl rfl rfl rfl (by first | rfl | assumption | (simp; done))) rfl rfl rfl rfl rfl, (by first | rfl | kernel_rfl), ?_⟩)
  (refine ⟨_, _, _, a_nilchk (gd_on rfl rfl rfl rfl (by first | rfl | assumption | (simp; done))) rfl rfl rfl rfl rfl, (by first | rfl | kernel_rfl), ?_⟩)
  (first | (refine ⟨_, _, _, a_field_bp (gd_on rfl rfl rfl rfl (by first | rfl | assumption | (simp; done))) rfl rfl rfl rfl rfl rfl rfl rfl rfl, (by first | rfl | kernel_rfl), ?_⟩) | (refine ⟨_, _, _, a_field_ad (gd_on rfl rfl rfl rfl (by first | rfl | assumption | (simp; done))) rfl rfl rfl rfl rfl rfl rfl rfl rfl rfl rfl, (by first | rfl | kernel_rfl), ?_⟩) | (refine ⟨_, _, _, a_fieldM (gd_on rfl rfl rfl rfl (by first | rfl | assumption | (simp; done))) rfl rfl rfl rfl rfl rfl rfl rfl rfl, (by first | rfl | kernel_rfl), ?_⟩))
  (first | (refine ⟨_, _, _, a_load_all (gd_on rfl rfl rfl rfl (by first | rfl | assumption | (simp; done))) rfl rfl rfl rfl rfl rfl rfl rfl rfl rfl rfl rfl, (by first | rfl | kernel_rfl), ?_⟩) | (refine ⟨_, _, _, a_load_tok (gd_on rfl rfl rfl rfl (by first | rfl | assumption | (simp; done))) rfl rfl rfl rfl rfl rfl rfl rfl rfl rfl rfl rfl rfl, (by first | rfl | kernel_rfl), ?_⟩) | (refine ⟨_, _, _, a_load_bp (gd_on rfl rfl rfl rfl (by first | rfl | assumption | (simp; done))) rfl rfl rfl rfl rfl rfl rfl rfl rfl rfl rfl rfl, (by first | rfl | kernel_rfl), ?_⟩) | (refine ⟨_, _, _, a_load_ad (gd_on rfl rfl rfl rfl (by first | rfl | assumption | (simp; done))) rfl rfl rfl rfl rfl rfl rfl rfl rfl, (by first | rfl | kernel_rfl), ?_⟩) | (refine ⟨_, _, _, a_load_ptr (gd_on rfl rfl rfl rfl (by first | rfl | assumption | (simp; done))) rfl rfl rfl rfl rfl rfl rfl rfl rfl, (by first | rfl | kernel_rfl), ?_⟩) | (refine ⟨_, _, _, a_load_fld (gd_on rfl rfl rfl rfl (by first | rfl | assumption | (simp; done))) rfl rfl rfl rfl rfl rfl rfl rfl rfl rfl rfl rfl rfl, (by first | rfl | kernel_rfl), ?_⟩) | (refine ⟨_, _, _, a_load_fullv (gd_on rfl rfl rfl rfl (by first | rfl | assumption | (simp; done))) rfl rfl rfl rfl rfl rfl rfl rfl rfl, (by first | rfl | kernel_rfl), ?_⟩))
  (first | (refine ⟨_, _, _, a_len (gd_on rfl rfl rfl rfl (by first | rfl | assumption | (simp; done))) rfl rfl rfl rfl rfl rfl rfl, (by first | rfl | kernel_rfl), ?_⟩) | (refine ⟨_, _, _, a_lenM (gd_on rfl rfl rfl rfl (by first | rfl | assumption | (simp; done))) rfl rfl rfl rfl rfl rfl rfl, (by first | rfl | kernel_rfl), ?_⟩))
  (refine ⟨_, _, _, a_gtr (gd_on rfl rfl rfl rfl (by first | rfl | assumption | (simp; done))) rfl rfl rfl rfl rfl rfl, (by first | rfl | kernel_rfl), ?_⟩)
  (first | (refine ⟨_, _, _, a_pick_t (gd_none rfl) rfl rfl rfl rfl rfl ?hb rfl, rfl, ?_⟩; case hb => (first | rfl | assumption | (simp; done))) | (refine ⟨_, _, _, a_pick_f (gd_none rfl) rfl rfl rfl rfl rfl ?hb rfl, rfl, ?_⟩; case hb => (first | rfl | assumption | (simp; done))))
  show AWp _ _ _ _ _ _ _
  refine awp_cond rfl (fun hc => ?_) (fun hc => ?_)
  · simp only [decide_eq_true_eq] at hc
    omega
  refine awp_skip ?_
  show AWp _ _ _ _ _ _ _
  refine AWp.wk (wk_sub (s' := (0, .bp 350001 0 []) :: (1, .val (.i v)) :: (4, .bp 4 0 []) :: (100004, ⟨5, .row [.i 0, .lst []], 1, 0, [1]⟩) :: bsB L) ⟨rfl, rfl, rfl, rfl, rfl, rfl, rfl, rfl, trivial⟩) ?_
  refine awp_seq (awp_region ?_)
  (refine ⟨_, _, _, a_move (gd_none rfl) rfl rfl rfl rfl rfl, (by first | rfl | kernel_rfl), ?_⟩)
  (refine ⟨_, _, _, a_move (gd_none rfl) rfl rfl rfl rfl rfl, (by first | rfl | kernel_rfl), ?_⟩)
  (refine ⟨_, _, _, a_callO (gd_none rfl) rfl rfl rfl rfl rfl (mFindB_abs L v (by omega)) (by repeat (first | exact trivial | refine ⟨rfl, ?_⟩)) (by first | rfl | kernel_rfl) (by first | rfl | kernel_rfl) (by first | rfl | kernel_rfl) (by first | rfl | kernel_rfl) (hnb_of (by first | rfl | kernel_rfl)), (by first | rfl | kernel_rfl), ?_⟩)
  (refine ⟨_, _, _, a_move (gd_none rfl) rfl rfl rfl rfl rfl, (by first | rfl | kernel_rfl), ?_⟩)
  (refine ⟨_, _, _, a_extract (gd_none rfl) rfl rfl rfl rfl rfl rfl, (by first | rfl | kernel_rfl), ?_⟩)
  (refine ⟨_, _, _, a_extract (gd_none rfl) rfl rfl rfl rfl rfl rfl, (by first | rfl | kernel_rfl), ?_⟩)
  (refine ⟨_, _, _, a_assign (gd_none rfl) rfl rfl rfl rfl rfl, (by first | rfl | kernel_rfl), ?_⟩)
  (refine ⟨_, _, _, a_assign (gd_none rfl) rfl rfl rfl rfl rfl, (by first | rfl | kernel_rfl), ?_⟩)
  show AWp _ _ _ _ _ _ _
  refine awp_seq (awp_seq (awp_region ?_))
  (refine ⟨_, _, _, a_move (gd_none rfl) rfl rfl rfl rfl rfl, (by first | rfl | kernel_rfl), ?_⟩)
  (refine ⟨_, _, _, a_not (gd_none rfl) rfl rfl rfl rfl rfl, (by first | rfl | kernel_rfl), ?_⟩)
  show AWp _ _ _ _ _ _ _
  rcases idx_find L v 0 with ⟨h1, h2⟩ | ⟨k, b, h1, h2, h3⟩
  · rw [h1, h2]
    refine awp_cond rfl (fun hc => ?_) (fun hc => by cases hc)
    refine awp_seq (awp_region ?_)
    (refine ⟨_, _, _, a_build (gd_none rfl) rfl rfl rfl rfl rfl rfl rfl rfl rfl rfl rfl, (by first | rfl | kernel_rfl), ?_⟩)
    (first | (refine ⟨_, _, _, a_store_all (gd_none rfl) rfl rfl rfl rfl rfl rfl rfl rfl rfl rfl, (by first | rfl | kernel_rfl), ?_⟩) | (refine ⟨_, _, _, a_store (gd_none rfl) rfl rfl rfl rfl rfl rfl rfl rfl rfl rfl, (by first | rfl | kernel_rfl), ?_⟩) | (refine ⟨_, _, _, a_store_fld (gd_none rfl) rfl rfl rfl rfl rfl rfl rfl rfl rfl rfl rfl rfl, (by first | rfl | kernel_rfl), ?_⟩))
    (refine ⟨_, _, _, a_assign (gd_none rfl) rfl rfl rfl rfl rfl, (by first | rfl | kernel_rfl), ?_⟩)
    show AWp _ _ _ _ _ _ _
    exact awp_ret ⟨.inr rfl, _, Wk.refl _, rfl, rfl, rfl, rfl, rfl, trivial⟩
  · rw [Nat.zero_add] at h3
    rw [h2, h3]
    have hb' := Bd.map_at h1
    have hkl : k < L.length := by
      rcases Nat.lt_or_ge k L.length with h | h
      · exact h
      · rw [List.getElem?_eq_none h] at h1; cases h1
    refine awp_cond rfl (fun hc => ?_) (fun hc => ?_)
    · simp at hc <;> omega
    refine awp_skip ?_
    show AWp _ _ _ _ _ _ _
    refine awp_seq (awp_region ?_)
    (refine ⟨_, _, _, a_move (gd_none rfl) rfl rfl rfl rfl rfl, (by first | rfl | kernel_rfl), ?_⟩)
    (refine ⟨_, _, _, a_nilchk (gd_none rfl) rfl rfl rfl rfl rfl, (by first | rfl | kernel_rfl), ?_⟩)
    (first | (refine ⟨_, _, _, a_field_bp (gd_none rfl) rfl rfl rfl rfl rfl rfl rfl rfl rfl, (by first | rfl | kernel_rfl), ?_⟩) | (refine ⟨_, _, _, a_field_ad (gd_none rfl) rfl rfl rfl rfl rfl rfl rfl rfl rfl rfl rfl, (by first | rfl | kernel_rfl), ?_⟩) | (refine ⟨_, _, _, a_fieldM (gd_none rfl) rfl rfl rfl rfl rfl rfl rfl rfl rfl, (by first | rfl | kernel_rfl), ?_⟩))
    (first | (refine ⟨_, _, _, a_load_all (gd_none rfl) rfl rfl rfl rfl rfl rfl rfl rfl rfl rfl rfl rfl, (by first | rfl | kernel_rfl), ?_⟩) | (refine ⟨_, _, _, a_load_tok (gd_none rfl) rfl rfl rfl rfl rfl rfl rfl rfl rfl rfl rfl rfl rfl, (by first | rfl | kernel_rfl), ?_⟩) | (refine ⟨_, _, _, a_load_bp (gd_none rfl) rfl rfl rfl rfl rfl rfl rfl rfl rfl rfl rfl rfl, (by first | rfl | kernel_rfl), ?_⟩) | (refine ⟨_, _, _, a_load_ad (gd_none rfl) rfl rfl rfl rfl rfl rfl rfl rfl rfl, (by first | rfl | kernel_rfl), ?_⟩) | (refine ⟨_, _, _, a_load_ptr (gd_none rfl) rfl rfl rfl rfl rfl rfl rfl rfl rfl, (by first | rfl | kernel_rfl), ?_⟩) | (refine ⟨_, _, _, a_load_fld (gd_none rfl) rfl rfl rfl rfl rfl rfl rfl rfl rfl rfl rfl rfl rfl, (by first | rfl | kernel_rfl), ?_⟩) | (refine ⟨_, _, _, a_load_fullv (gd_none rfl) rfl rfl rfl rfl rfl rfl rfl rfl rfl, (by first | rfl | kernel_rfl), ?_⟩))
    (refine ⟨_, _, _, a_move (gd_none rfl) rfl rfl rfl rfl rfl, (by first | rfl | kernel_rfl), ?_⟩)
    (refine ⟨_, _, _, a_indexM (k := k) (gd_none rfl) rfl rfl rfl rfl rfl rfl rfl rfl rfl (by first | rfl | omega | (simp only [List.length_set, List.length_map, List.length_append, List.length_cons, List.length_nil] <;> omega) | (simp <;> omega)), (by first | rfl | kernel_rfl), ?_⟩)
    (first | (refine ⟨_, _, _, a_field_bp (gd_none rfl) rfl rfl rfl rfl rfl rfl rfl rfl rfl, (by first | rfl | kernel_rfl), ?_⟩) | (refine ⟨_, _, _, a_field_ad (gd_none rfl) rfl rfl rfl rfl rfl rfl rfl rfl rfl rfl rfl, (by first | rfl | kernel_rfl), ?_⟩) | (refine ⟨_, _, _, a_fieldM (gd_none rfl) rfl rfl rfl rfl rfl rfl rfl rfl rfl, (by first | rfl | kernel_rfl), ?_⟩))
    (refine ⟨_, _, _, a_loadM (gd_none rfl) rfl rfl rfl rfl rfl rfl rfl rfl (hb') rfl (by first | rfl | omega | (simp only [List.length_set, List.length_map, List.length_append, List.length_cons, List.length_nil] <;> omega) | (simp <;> omega)) rfl rfl, (by first | rfl | kernel_rfl), ?_⟩)
    (first | (refine ⟨_, _, _, a_store_all (gd_none rfl) rfl rfl rfl rfl rfl rfl rfl rfl rfl rfl, (by first | rfl | kernel_rfl), ?_⟩) | (refine ⟨_, _, _, a_store (gd_none rfl) rfl rfl rfl rfl rfl rfl rfl rfl rfl rfl, (by first | rfl | kernel_rfl), ?_⟩) | (refine ⟨_, _, _, a_store_fld (gd_none rfl) rfl rfl rfl rfl rfl rfl rfl rfl rfl rfl rfl rfl, (by first | rfl | kernel_rfl), ?_⟩))
    (refine ⟨_, _, _, a_assign (gd_none rfl) rfl rfl rfl rfl rfl, (by first | rfl | kernel_rfl), ?_⟩)
    show AWp _ _ _ _ _ _ _
    exact awp_ret ⟨.inr rfl, _, Wk.refl _, rfl, rfl, rfl, rfl, rfl, trivial⟩
end Go.Proofs.Ytgmllfjidhbjjab


namespace Go.Proofs.Ytgmllfjidhbjjab
open Go.RowKit
set_option linter.unusedVariables false
set_option linter.unusedSimpArgs false
set_option maxRecDepth 100000

theorem clip_any (a : Option Addr) (n c : Nat) (w : World) (hnc : n ≤ c) :
    Calls Try.prog 61 #[.slice a n c] w fun e w' => e = .returned (.slice a n n) ∧ w' = w := by
  have hA : a.map (fun x => x.add 0) = a := by
    cases a with
    | none => rfl
    | some ad => cases ad with | mk b f g => cases g <;> simp [Addr.add]
  go_enter Try.func61, Try.ntmps61
  go_wp2
  go_ret
  exact ⟨rfl, rfl⟩
theorem behind_any (a : Option Addr) (n c : Nat) (w : World) (hnc : n ≤ c) :
    Calls Try.prog 37 #[.slice a n c] w fun e w' => e = .returned (.pointer (some ⟨w.heap.size, 0, none⟩)) ∧ w' = w.alloc (.cells #[.slice a n n, .map none] 102) := by
  go_enter Try.func37, Try.ntmps37
  go_wp2_with fail
  refine (clip_any a n c w hnc).mono ?_
  rintro e w1 ⟨rfl, rfl⟩
  go_wp2
  go_ret
  exact ⟨rfl, rfl⟩
theorem look_bsA {L : List Bd} {k : Nat} {av : AV} (h : look (bsA L) k = some av) : (k = 450001 ∧ av = .obj) ∨ (k = 35500100 ∧ av = ⟨18, .lst (L.map Bd.cv), 300001, 0, []⟩) ∨ (k = 35500101 ∧ av = .val (.sc (.map none))) ∨ (k = 300001 ∧ av = .mrow 60 3 []) := by
  rw [look_cons] at h
  split at h
  · rename_i e; cases h; exact .inl ⟨e.symm, rfl⟩
  rw [look_cons] at h
  split at h
  · rename_i e; cases h; exact .inr (.inl ⟨e.symm, rfl⟩)
  rw [look_cons] at h
  split at h
  · rename_i e; cases h; exact .inr (.inr (.inl ⟨e.symm, rfl⟩))
  rw [look_cons] at h
  split at h
  · rename_i e; cases h; exact .inr (.inr (.inr ⟨e.symm, rfl⟩))
  · cases h
theorem behind_abs (L : List Bd) : AFunO Try.prog 37 [] [.val (.lst (L.map Bd.cv))] (.bp 350001 0 []) (bsA L) := by
  refine ⟨ent_of Try.func37 rfl rfl, fun U w hv a0 vs hU hpS hargs => ?_⟩
  obtain ⟨u, us, rfl, hu, rfl⟩ : ∃ u us, vs = u :: us ∧ AVRep (Us w U (fun _ _ => False)) w hv (LiveN []) (.val (.lst (L.map Bd.cv))) u ∧ us = [] := hargs
  have hu : VRep (Us w U (fun _ _ => False)) w (.lst (L.map Bd.cv)) u := hu.1
  obtain ⟨a, n, c, rfl, h1, h2, h3, h4, ys, h5, h6⟩ := vrep_lst.1 hu
  refine (behind_any a n c w h2).mono ?_
  rintro e w' ⟨rfl, hw'⟩
  have hB : Below w.heap.size w w' := by rw [hw']; exact (Below.refl _ _).alloc (Nat.le_refl _) _
  have hnew : w'.heap[w.heap.size]? = some (.cells #[.slice a n n, .map none] 102 (0, 0)) := by rw [hw']; exact alloc_new w _
  have hlt : w.heap.size < w'.heap.size := by
    rcases Nat.lt_or_ge w.heap.size w'.heap.size with h | h
    · exact h
    · rw [Array.getElem?_eq_none h] at hnew; cases hnew
  have hcell : ∀ i, i < 2 → w'.cell? ⟨w.heap.size, i, none⟩ = (#[.slice a n n, .map none] : Array Value)[i]? := fun i hi => by
    simp only [World.cell?, hnew]
    simp
  have hfull : VRep (Us w U (fun _ _ => False)) w' (.lst (L.map Bd.cv)) (.slice a n n) := by
    have hk : ∀ b o v, Us w U (fun _ _ => False) b o → w.cell? ⟨b, o, none⟩ = some v → Us w U (fun _ _ => False) b o ∧ w'.cell? ⟨b, o, none⟩ = some v := fun b o v hu hc => by
      refine ⟨hu, ?_⟩
      rw [hB.cell (p := ⟨b, o, none⟩) (World.block_lt_of_cell? w _ hc)]; exact hc
    refine VRep.keep hk (vrep_lst.2 ⟨a, n, n, rfl, h1, Nat.le_refl _, by omega, fun h => ⟨(h4 h).1, (h4 h).1⟩, ys, h5, h6⟩)
  obtain ⟨hv', hhv⟩ : ∃ hv' : Nat → Value, hv' = fun k => if k = 450001 then .pointer (some ⟨w.heap.size, 0, none⟩) else .slice none 0 0 := ⟨_, rfl⟩
  have hv1 : hv' 450001 = .pointer (some ⟨w.heap.size, 0, none⟩) := by rw [hhv]; simp
  have hv2 : hv' 300001 = .slice none 0 0 := by rw [hhv]; simp
  refine ⟨_, fun _ _ => False, hv', ⟨#[], []⟩, rfl, ⟨⟨hB.os, hB.tape, hB.output, hB.size, fun k hk _ => hB.block k hk⟩, rfl, rfl, fun d av g1 g2 => ?_, fun m o av g1 g2 g3 g4 => ?_, fun m o o' av av' g1 g2 g3 g4 g5 => ?_, fun k av g1 g2 => ?_, fun k av g g1 g2 g3 g4 => ?_, fun k k' av av' g g1 g2 g3 g4 g5 g6 g7 g8 g9 => ?_, fun k v hk => ?_, fun b o hd => hd.elim⟩, ?_⟩
  · rcases look_bsA g1 with ⟨e, _⟩ | ⟨e, _⟩ | ⟨e, _⟩ | ⟨e, _⟩ <;> omega
  · have hm : m = 350001 := by
      unfold BN at g4
      rcases look_bsA g3 with ⟨e, _⟩ | ⟨e, _⟩ | ⟨e, _⟩ | ⟨e, _⟩ <;> omega
    subst hm
    have hbk : blkOf (hv' (100000 + 350001)) = w.heap.size := by rw [show 100000 + 350001 = 450001 from rfl, hv1]; rfl
    rw [hbk]
    rcases look_bsA g1 with ⟨e, _⟩ | ⟨e, rfl⟩ | ⟨e, rfl⟩ | ⟨e, _⟩
    · unfold fKey at e; omega
    · have ho : o = 0 := by unfold fKey at e; omega
      subst ho
      refine ⟨.slice a n n, ⟨hfull, a, n, rfl⟩, rfl, fun i hi => ?_⟩
      have hi : i < 1 := hi
      obtain rfl : i = 0 := by omega
      rw [hcell _ (by omega)]; rfl
    · have ho : o = 1 := by unfold fKey at e; omega
      subst ho
      refine ⟨.map none, avrep_sc rfl, rfl, fun i hi => ?_⟩
      have hi : i < 1 := hi
      obtain rfl : i = 0 := by omega
      rw [hcell _ (by omega)]; rfl
    · unfold fKey at e; omega
  · rcases look_bsA g1 with ⟨e, _⟩ | ⟨e, rfl⟩ | ⟨e, rfl⟩ | ⟨e, _⟩
    · unfold fKey at e; omega
    · show o + 1 ≤ o'; omega
    · show o + 1 ≤ o'; omega
    · unfold fKey at e; omega
  · unfold oKey at g2
    rcases look_bsA g1 with ⟨rfl, rfl⟩ | ⟨e, _⟩ | ⟨e, _⟩ | ⟨rfl, rfl⟩
    · exact ⟨w.heap.size, _, _, hv1, hnew⟩
    · omega
    · omega
    · rw [hv2]
      exact ⟨[], World.ownsRow_nil _ _ _ _, by decide, (fun c hc => by cases hc), rfl⟩
  · unfold oKey at g2
    rcases look_bsA g1 with ⟨rfl, rfl⟩ | ⟨e, _⟩ | ⟨e, _⟩ | ⟨rfl, rfl⟩
    · rw [hv1] at g4
      have g4 : some w.heap.size = some g := g4
      cases g4
      exact ⟨.inl (Nat.le_refl _), hlt, fun o _ h => h⟩
    · omega
    · omega
    · rw [hv2] at g4; cases g4
  · unfold oKey at g3 g4
    have hk : ∀ {k av}, look (bsA L) k = some av → 100000 ≤ k ∧ k < 500000 → k = 450001 ∨ hb (hv' k) = none := fun {k av} f1 f2 => by
      rcases look_bsA f1 with ⟨rfl, rfl⟩ | ⟨e, _⟩ | ⟨e, _⟩ | ⟨rfl, rfl⟩
      · exact .inl rfl
      · omega
      · omega
      · right; rw [hv2]; rfl
    rcases hk g1 g3 with e1 | e1
    · rcases hk g2 g4 with e2 | e2
      · omega
      · rw [e2] at g9; cases g9
    · rw [e1] at g8; cases g8
  · have := hU k v hk; cases this
  · refine ⟨.inr ⟨by decide, by decide⟩, ?_⟩
    show _ = Value.pointer (some ⟨blkOf (hv' (100000 + 350001)), 0, none⟩)
    rw [show 100000 + 350001 = 450001 from rfl, hv1]; rfl
end Go.Proofs.Ytgmllfjidhbjjab


namespace Go.Proofs.Ytgmllfjidhbjjab
open Go.RowKit
set_option linter.unusedVariables false
set_option linter.unusedSimpArgs false
set_option maxRecDepth 100000

theorem mGet_abs (m : Nat) (L : List Bd) (v : Int) (hl : L.length ≤ 64) : AFunO Try.prog 81 (bst m L) [.bp 350001 0 [], .val (.i v)] (.tup [((findB L v).getD ⟨0, []⟩).cw, .b (findB L v).isSome]) (bst m L) := by
  by_cases h : L.length ≤ m
  · rw [bst_A h]; exact mGetA_abs L v hl
  · rw [bst_B h]; exact mGetB_abs L v hl

-- 
theorem mBindS_abs (m : Nat) (L : List Bd) (v : Int) (t u : Tm) (hl : L.length ≤ 64) (hf : findB L v = some u) (hu : u.rng) (ht : t.rng) : AFunO Try.prog 62 (bst m L) [.bp 350001 0 [], .val (.i v), .val t.cw] (.val (.b (sameT u t))) (bst m L) := by
  have hget := mGet_abs m L v hl
  rw [hf] at hget
  refine afunO_of Try.func62 Try.ntmps62 rfl rfl rfl rfl rfl rfl ?_
  intro w U hU
  refine awp_seq (awp_region ?_)
  (refine ⟨_, _, _, a_box (gd_none rfl) rfl rfl rfl rfl rfl, (by first | rfl | kernel_rfl), ?_⟩)
  (refine ⟨_, _, _, a_assign (gd_none rfl) rfl rfl rfl rfl rfl, (by first | rfl | kernel_rfl), ?_⟩)
  show AWp _ _ _ _ _ _ _
  refine awp_seq (awp_seq (awp_region ?_))
  (refine ⟨_, _, _, a_move (gd_none rfl) rfl rfl rfl rfl rfl, (by first | rfl | kernel_rfl), ?_⟩)
  (refine ⟨_, _, _, a_move (gd_none rfl) rfl rfl rfl rfl rfl, (by first | rfl | kernel_rfl), ?_⟩)
  (refine ⟨_, _, _, a_callO (gd_none rfl) rfl rfl rfl rfl rfl (hget) (by repeat (first | exact trivial | refine ⟨rfl, ?_⟩)) (bst_lend _ _) (bst_leave _ _) (by first | rfl | kernel_rfl) (by first | rfl | kernel_rfl) (hnb_of (by first | rfl | kernel_rfl)), (by first | rfl | kernel_rfl), ?_⟩)
  (refine ⟨_, _, _, a_move (gd_none rfl) rfl rfl rfl rfl rfl, (by first | rfl | kernel_rfl), ?_⟩)
  (refine ⟨_, _, _, a_extract (gd_none rfl) rfl rfl rfl rfl rfl rfl, (by first | rfl | kernel_rfl), ?_⟩)
  (refine ⟨_, _, _, a_extract (gd_none rfl) rfl rfl rfl rfl rfl rfl, (by first | rfl | kernel_rfl), ?_⟩)
  (refine ⟨_, _, _, a_alloc (gd_none rfl) rfl rfl rfl rfl rfl rfl rfl rfl rfl rfl, (by first | rfl | kernel_rfl), ?_⟩)
  (first | (refine ⟨_, _, _, a_store_all (gd_none rfl) rfl rfl rfl rfl rfl rfl rfl rfl rfl rfl, (by first | rfl | kernel_rfl), ?_⟩) | (refine ⟨_, _, _, a_store (gd_none rfl) rfl rfl rfl rfl rfl rfl rfl rfl rfl rfl, (by first | rfl | kernel_rfl), ?_⟩) | (refine ⟨_, _, _, a_store_fld (gd_none rfl) rfl rfl rfl rfl rfl rfl rfl rfl rfl rfl rfl rfl, (by first | rfl | kernel_rfl), ?_⟩))
  (refine ⟨_, _, _, a_assign (gd_none rfl) rfl rfl rfl rfl rfl, (by first | rfl | kernel_rfl), ?_⟩)
  show AWp _ _ _ _ _ _ _
  refine awp_seq (awp_region ?_)
  (refine ⟨_, _, _, a_move (gd_none rfl) rfl rfl rfl rfl rfl, (by first | rfl | kernel_rfl), ?_⟩)
  show AWp _ _ _ _ _ _ _
  refine awp_cond rfl (fun hc => ?_) (fun hc => by cases hc)
  refine awp_seq (awp_region ?_)
  (first | (refine ⟨_, _, _, a_load_all (gd_none rfl) rfl rfl rfl rfl rfl rfl rfl rfl rfl rfl rfl rfl, (by first | rfl | kernel_rfl), ?_⟩) | (refine ⟨_, _, _, a_load_tok (gd_none rfl) rfl rfl rfl rfl rfl rfl rfl rfl rfl rfl rfl rfl rfl, (by first | rfl | kernel_rfl), ?_⟩) | (refine ⟨_, _, _, a_load_bp (gd_none rfl) rfl rfl rfl rfl rfl rfl rfl rfl rfl rfl rfl rfl, (by first | rfl | kernel_rfl), ?_⟩) | (refine ⟨_, _, _, a_load_ad (gd_none rfl) rfl rfl rfl rfl rfl rfl rfl rfl rfl, (by first | rfl | kernel_rfl), ?_⟩) | (refine ⟨_, _, _, a_load_ptr (gd_none rfl) rfl rfl rfl rfl rfl rfl rfl rfl rfl, (by first | rfl | kernel_rfl), ?_⟩) | (refine ⟨_, _, _, a_load_fld (gd_none rfl) rfl rfl rfl rfl rfl rfl rfl rfl rfl rfl rfl rfl rfl, (by first | rfl | kernel_rfl), ?_⟩) | (refine ⟨_, _, _, a_load_fullv (gd_none rfl) rfl rfl rfl rfl rfl rfl rfl rfl rfl, (by first | rfl | kernel_rfl), ?_⟩))
  (first | (refine ⟨_, _, _, a_load_all (gd_none rfl) rfl rfl rfl rfl rfl rfl rfl rfl rfl rfl rfl rfl, (by first | rfl | kernel_rfl), ?_⟩) | (refine ⟨_, _, _, a_load_tok (gd_none rfl) rfl rfl rfl rfl rfl rfl rfl rfl rfl rfl rfl rfl rfl, (by first | rfl | kernel_rfl), ?_⟩) | (refine ⟨_, _, _, a_load_bp (gd_none rfl) rfl rfl rfl rfl rfl rfl rfl rfl rfl rfl rfl rfl, (by first | rfl | kernel_rfl), ?_⟩) | (refine ⟨_, _, _, a_load_ad (gd_none rfl) rfl rfl rfl rfl rfl rfl rfl rfl rfl, (by first | rfl | kernel_rfl), ?_⟩) | (refine ⟨_, _, _, a_load_ptr (gd_none rfl) rfl rfl rfl rfl rfl rfl rfl rfl rfl, (by first | rfl | kernel_rfl), ?_⟩) | (refine ⟨_, _, _, a_load_fld (gd_none rfl) rfl rfl rfl rfl rfl rfl rfl rfl rfl rfl rfl rfl rfl, (by first | rfl | kernel_rfl), ?_⟩) | (refine ⟨_, _, _, a_load_fullv (gd_none rfl) rfl rfl rfl rfl rfl rfl rfl rfl rfl, (by first | rfl | kernel_rfl), ?_⟩))
  (refine ⟨_, _, _, a_call (gd_none rfl) rfl rfl rfl rfl rfl (same_abs w hu ht), (by first | rfl | kernel_rfl), ?_⟩)
  (refine ⟨_, _, _, a_assign (gd_none rfl) rfl rfl rfl rfl rfl, (by first | rfl | kernel_rfl), ?_⟩)
  show AWp _ _ _ _ _ _ _
  exact awp_ret ⟨.inr rfl, _, Wk.refl _, rfl, rfl, rfl, rfl, rfl, trivial⟩
-- 
theorem mBindA_abs (L : List Bd) (v : Int) (t : Tm) (hl : L.length ≤ 64) (hf : findB L v = none) : AFunO Try.prog 62 (bsA L) [.bp 350001 0 [], .val (.i v), .val t.cw] (.val (.b true)) (bsB (L ++ [⟨v, t⟩])) := by
  have hget := mGetA_abs L v hl
  rw [hf] at hget
  have hsz := Bd.size_all L
  refine afunO_of Try.func62 Try.ntmps62 rfl rfl rfl rfl rfl rfl ?_
  intro w U hU
  refine awp_seq (awp_region ?_)
  (refine ⟨_, _, _, a_box (gd_none rfl) rfl rfl rfl rfl rfl, (by first | rfl | kernel_rfl), ?_⟩)
  (refine ⟨_, _, _, a_assign (gd_none rfl) rfl rfl rfl rfl rfl, (by first | rfl | kernel_rfl), ?_⟩)
  show AWp _ _ _ _ _ _ _
  refine awp_seq (awp_seq (awp_region ?_))
  (refine ⟨_, _, _, a_move (gd_none rfl) rfl rfl rfl rfl rfl, (by first | rfl | kernel_rfl), ?_⟩)
  (refine ⟨_, _, _, a_move (gd_none rfl) rfl rfl rfl rfl rfl, (by first | rfl | kernel_rfl), ?_⟩)
  (refine ⟨_, _, _, a_callO (gd_none rfl) rfl rfl rfl rfl rfl (hget) (by repeat (first | exact trivial | refine ⟨rfl, ?_⟩)) (by first | rfl | kernel_rfl) (by first | rfl | kernel_rfl) (by first | rfl | kernel_rfl) (by first | rfl | kernel_rfl) (hnb_of (by first | rfl | kernel_rfl)), (by first | rfl | kernel_rfl), ?_⟩)
  (refine ⟨_, _, _, a_move (gd_none rfl) rfl rfl rfl rfl rfl, (by first | rfl | kernel_rfl), ?_⟩)
  (refine ⟨_, _, _, a_extract (gd_none rfl) rfl rfl rfl rfl rfl rfl, (by first | rfl | kernel_rfl), ?_⟩)
  (refine ⟨_, _, _, a_extract (gd_none rfl) rfl rfl rfl rfl rfl rfl, (by first | rfl | kernel_rfl), ?_⟩)
  (refine ⟨_, _, _, a_alloc (gd_none rfl) rfl rfl rfl rfl rfl rfl rfl rfl rfl rfl, (by first | rfl | kernel_rfl), ?_⟩)
  (first | (refine ⟨_, _, _, a_store_all (gd_none rfl) rfl rfl rfl rfl rfl rfl rfl rfl rfl rfl, (by first | rfl | kernel_rfl), ?_⟩) | (refine ⟨_, _, _, a_store (gd_none rfl) rfl rfl rfl rfl rfl rfl rfl rfl rfl rfl, (by first | rfl | kernel_rfl), ?_⟩) | (refine ⟨_, _, _, a_store_fld (gd_none rfl) rfl rfl rfl rfl rfl rfl rfl rfl rfl rfl rfl rfl, (by first | rfl | kernel_rfl), ?_⟩))
  (refine ⟨_, _, _, a_assign (gd_none rfl) rfl rfl rfl rfl rfl, (by first | rfl | kernel_rfl), ?_⟩)
  show AWp _ _ _ _ _ _ _
  refine awp_seq (awp_region ?_)
  (refine ⟨_, _, _, a_move (gd_none rfl) rfl rfl rfl rfl rfl, (by first | rfl | kernel_rfl), ?_⟩)
  show AWp _ _ _ _ _ _ _
  refine awp_cond rfl (fun hc => by cases hc) (fun hc => ?_)
  refine awp_skip ?_
  show AWp _ _ _ _ _ _ _
  refine awp_seq (awp_seq (awp_region ?_))
  (refine ⟨_, _, _, a_move (gd_none rfl) rfl rfl rfl rfl rfl, (by first | rfl | kernel_rfl), ?_⟩)
  (refine ⟨_, _, _, a_nilchk (gd_none rfl) rfl rfl rfl rfl rfl, (by first | rfl | kernel_rfl), ?_⟩)
  (first | (refine ⟨_, _, _, a_field_bp (gd_none rfl) rfl rfl rfl rfl rfl rfl rfl rfl rfl, (by first | rfl | kernel_rfl), ?_⟩) | (refine ⟨_, _, _, a_field_ad (gd_none rfl) rfl rfl rfl rfl rfl rfl rfl rfl rfl rfl rfl, (by first | rfl | kernel_rfl), ?_⟩) | (refine ⟨_, _, _, a_fieldM (gd_none rfl) rfl rfl rfl rfl rfl rfl rfl rfl rfl, (by first | rfl | kernel_rfl), ?_⟩))
  (first | (refine ⟨_, _, _, a_load_all (gd_none rfl) rfl rfl rfl rfl rfl rfl rfl rfl rfl rfl rfl rfl, (by first | rfl | kernel_rfl), ?_⟩) | (refine ⟨_, _, _, a_load_tok (gd_none rfl) rfl rfl rfl rfl rfl rfl rfl rfl rfl rfl rfl rfl rfl, (by first | rfl | kernel_rfl), ?_⟩) | (refine ⟨_, _, _, a_load_bp (gd_none rfl) rfl rfl rfl rfl rfl rfl rfl rfl rfl rfl rfl rfl, (by first | rfl | kernel_rfl), ?_⟩) | (refine ⟨_, _, _, a_load_ad (gd_none rfl) rfl rfl rfl rfl rfl rfl rfl rfl rfl, (by first | rfl | kernel_rfl), ?_⟩) | (refine ⟨_, _, _, a_load_ptr (gd_none rfl) rfl rfl rfl rfl rfl rfl rfl rfl rfl, (by first | rfl | kernel_rfl), ?_⟩) | (refine ⟨_, _, _, a_load_fld (gd_none rfl) rfl rfl rfl rfl rfl rfl rfl rfl rfl rfl rfl rfl rfl, (by first | rfl | kernel_rfl), ?_⟩) | (refine ⟨_, _, _, a_load_fullv (gd_none rfl) rfl rfl rfl rfl rfl rfl rfl rfl rfl, (by first | rfl | kernel_rfl), ?_⟩))
  (refine ⟨_, _, _, a_mnot (gd_none rfl) rfl rfl rfl rfl rfl rfl, (by first | rfl | kernel_rfl), ?_⟩)
  show AWp _ _ _ _ _ _ _
  refine awp_cond rfl (fun hc => by cases hc) (fun hc => ?_)
  refine awp_skip ?_
  show AWp _ _ _ _ _ _ _
  refine awp_seq (awp_draw (by kernel_rfl) (by kernel_rfl) ?_)
  (refine ⟨_, _, _, a_move (gd_none rfl) rfl rfl rfl rfl rfl, (by first | rfl | kernel_rfl), ?_⟩)
  (refine ⟨_, _, _, a_move (gd_none rfl) rfl rfl rfl rfl rfl, (by first | rfl | kernel_rfl), ?_⟩)
  (refine ⟨_, _, _, a_nilchk (gd_none rfl) rfl rfl rfl rfl rfl, (by first | rfl | kernel_rfl), ?_⟩)
  (first | (refine ⟨_, _, _, a_field_bp (gd_none rfl) rfl rfl rfl rfl rfl rfl rfl rfl rfl, (by first | rfl | kernel_rfl), ?_⟩) | (refine ⟨_, _, _, a_field_ad (gd_none rfl) rfl rfl rfl rfl rfl rfl rfl rfl rfl rfl rfl, (by first | rfl | kernel_rfl), ?_⟩) | (refine ⟨_, _, _, a_fieldM (gd_none rfl) rfl rfl rfl rfl rfl rfl rfl rfl rfl, (by first | rfl | kernel_rfl), ?_⟩))
  (refine ⟨_, _, _, a_load_full (gd_none rfl) rfl rfl rfl rfl rfl rfl rfl rfl rfl, (by first | rfl | kernel_rfl), ?_⟩)
  (refine ⟨_, _, _, a_move (gd_none rfl) rfl rfl rfl rfl rfl, (by first | rfl | kernel_rfl), ?_⟩)
  (first | (refine ⟨_, _, _, a_load_all (gd_none rfl) rfl rfl rfl rfl rfl rfl rfl rfl rfl rfl rfl rfl, (by first | rfl | kernel_rfl), ?_⟩) | (refine ⟨_, _, _, a_load_tok (gd_none rfl) rfl rfl rfl rfl rfl rfl rfl rfl rfl rfl rfl rfl rfl, (by first | rfl | kernel_rfl), ?_⟩) | (refine ⟨_, _, _, a_load_bp (gd_none rfl) rfl rfl rfl rfl rfl rfl rfl rfl rfl rfl rfl rfl, (by first | rfl | kernel_rfl), ?_⟩) | (refine ⟨_, _, _, a_load_ad (gd_none rfl) rfl rfl rfl rfl rfl rfl rfl rfl rfl, (by first | rfl | kernel_rfl), ?_⟩) | (refine ⟨_, _, _, a_load_ptr (gd_none rfl) rfl rfl rfl rfl rfl rfl rfl rfl rfl, (by first | rfl | kernel_rfl), ?_⟩) | (refine ⟨_, _, _, a_load_fld (gd_none rfl) rfl rfl rfl rfl rfl rfl rfl rfl rfl rfl rfl rfl rfl, (by first | rfl | kernel_rfl), ?_⟩) | (refine ⟨_, _, _, a_load_fullv (gd_none rfl) rfl rfl rfl rfl rfl rfl rfl rfl rfl, (by first | rfl | kernel_rfl), ?_⟩))
  (refine ⟨_, _, _, a_build (gd_none rfl) rfl rfl rfl rfl rfl rfl rfl rfl rfl rfl rfl, (by first | rfl | kernel_rfl), ?_⟩)
  (refine ⟨_, _, _, a_bslice (gd_none rfl) rfl rfl rfl rfl rfl rfl rfl rfl rfl rfl rfl rfl rfl, (by first | rfl | kernel_rfl), ?_⟩)
  (refine ⟨_, _, _, a_appF 300043 (gd_none rfl) rfl rfl rfl rfl rfl rfl rfl rfl rfl rfl rfl rfl rfl (by first | assumption | exact szAll_spec rfl | exact Tm.size_all _ | exact Bd.size_all _ | exact ints_size _) (by first | assumption | exact szAll_spec rfl | exact Tm.size_all _ | exact Bd.size_all _ | exact ints_size _) (by first | omega | (simp only [List.length_map, List.length_append, List.length_cons, List.length_nil] <;> omega) | (simp <;> omega)), (by first | rfl | kernel_rfl), ?_⟩)
  (refine ⟨_, _, _, a_nilchk (gd_none rfl) rfl rfl rfl rfl rfl, (by first | rfl | kernel_rfl), ?_⟩)
  (first | (refine ⟨_, _, _, a_field_bp (gd_none rfl) rfl rfl rfl rfl rfl rfl rfl rfl rfl, (by first | rfl | kernel_rfl), ?_⟩) | (refine ⟨_, _, _, a_field_ad (gd_none rfl) rfl rfl rfl rfl rfl rfl rfl rfl rfl rfl rfl, (by first | rfl | kernel_rfl), ?_⟩) | (refine ⟨_, _, _, a_fieldM (gd_none rfl) rfl rfl rfl rfl rfl rfl rfl rfl rfl, (by first | rfl | kernel_rfl), ?_⟩))
  (first | (refine ⟨_, _, _, a_store_all (gd_none rfl) rfl rfl rfl rfl rfl rfl rfl rfl rfl rfl, (by first | rfl | kernel_rfl), ?_⟩) | (refine ⟨_, _, _, a_store (gd_none rfl) rfl rfl rfl rfl rfl rfl rfl rfl rfl rfl, (by first | rfl | kernel_rfl), ?_⟩) | (refine ⟨_, _, _, a_store_fld (gd_none rfl) rfl rfl rfl rfl rfl rfl rfl rfl rfl rfl rfl rfl, (by first | rfl | kernel_rfl), ?_⟩))
  refine ⟨by kernel_rfl, ?_⟩
  show AWp _ _ _ _ _ _ _
  refine awp_seq (awp_region ?_)
  (refine ⟨_, _, _, a_assign (gd_none rfl) rfl rfl rfl rfl rfl, (by first | rfl | kernel_rfl), ?_⟩)
  show AWp _ _ _ _ _ _ _
  refine awp_ret ⟨.inr rfl, _, (wk_sub (s' := [(6, .val (.b true)), (450001, .obj), (35500100, .sl 300043 0 (L ++ [(⟨v, t⟩ : Bd)]).length 3), (35500101, .val (.sc (.map none))), (300043, .mrow 60 3 ((L ++ [(⟨v, t⟩ : Bd)]).map Bd.cv))]) ⟨rfl, rfl, ?_, rfl, ?_, trivial⟩).trans (wk_ren 300043 300001 rfl rfl (by kernel_rfl) (by kernel_rfl)), rfl, rfl, rfl, rfl, rfl, trivial⟩
  · rw [List.length_append, ← List.length_map (f := Bd.cv)]; rfl
  · rw [List.map_append]; rfl
-- 
theorem mBindB_abs (L : List Bd) (v : Int) (t : Tm) (hl : L.length ≤ 64) (hf : findB L v = none) : AFunO Try.prog 62 (bsB L) [.bp 350001 0 [], .val (.i v), .val t.cw] (.val (.b true)) (bsB (L ++ [⟨v, t⟩])) := by
  have hget := mGetB_abs L v hl
  rw [hf] at hget
  have hsz := Bd.size_all L
  refine afunO_of Try.func62 Try.ntmps62 rfl rfl rfl rfl rfl rfl ?_
  intro w U hU
  refine awp_seq (awp_region ?_)
  (refine ⟨_, _, _, a_box (gd_none rfl) rfl rfl rfl rfl rfl, (by first | rfl | kernel_rfl), ?_⟩)
  (refine ⟨_, _, _, a_assign (gd_none rfl) rfl rfl rfl rfl rfl, (by first | rfl | kernel_rfl), ?_⟩)
  show AWp _ _ _ _ _ _ _
  refine awp_seq (awp_seq (awp_region ?_))
  (refine ⟨_, _, _, a_move (gd_none rfl) rfl rfl rfl rfl rfl, (by first | rfl | kernel_rfl), ?_⟩)
  (refine ⟨_, _, _, a_move (gd_none rfl) rfl rfl rfl rfl rfl, (by first | rfl | kernel_rfl), ?_⟩)
  (refine ⟨_, _, _, a_callO (gd_none rfl) rfl rfl rfl rfl rfl (hget) (by repeat (first | exact trivial | refine ⟨rfl, ?_⟩)) (by first | rfl | kernel_rfl) (by first | rfl | kernel_rfl) (by first | rfl | kernel_rfl) (by first | rfl | kernel_rfl) (hnb_of (by first | rfl | kernel_rfl)), (by first | rfl | kernel_rfl), ?_⟩)
  (refine ⟨_, _, _, a_move (gd_none rfl) rfl rfl rfl rfl rfl, (by first | rfl | kernel_rfl), ?_⟩)
  (refine ⟨_, _, _, a_extract (gd_none rfl) rfl rfl rfl rfl rfl rfl, (by first | rfl | kernel_rfl), ?_⟩)
  (refine ⟨_, _, _, a_extract (gd_none rfl) rfl rfl rfl rfl rfl rfl, (by first | rfl | kernel_rfl), ?_⟩)
  (refine ⟨_, _, _, a_alloc (gd_none rfl) rfl rfl rfl rfl rfl rfl rfl rfl rfl rfl, (by first | rfl | kernel_rfl), ?_⟩)
  (first | (refine ⟨_, _, _, a_store_all (gd_none rfl) rfl rfl rfl rfl rfl rfl rfl rfl rfl rfl, (by first | rfl | kernel_rfl), ?_⟩) | (refine ⟨_, _, _, a_store (gd_none rfl) rfl rfl rfl rfl rfl rfl rfl rfl rfl rfl, (by first | rfl | kernel_rfl), ?_⟩) | (refine ⟨_, _, _, a_store_fld (gd_none rfl) rfl rfl rfl rfl rfl rfl rfl rfl rfl rfl rfl rfl, (by first | rfl | kernel_rfl), ?_⟩))
  (refine ⟨_, _, _, a_assign (gd_none rfl) rfl rfl rfl rfl rfl, (by first | rfl | kernel_rfl), ?_⟩)
  show AWp _ _ _ _ _ _ _
  refine awp_seq (awp_region ?_)
  (refine ⟨_, _, _, a_move (gd_none rfl) rfl rfl rfl rfl rfl, (by first | rfl | kernel_rfl), ?_⟩)
  show AWp _ _ _ _ _ _ _
  refine awp_cond rfl (fun hc => by cases hc) (fun hc => ?_)
  refine awp_skip ?_
  show AWp _ _ _ _ _ _ _
  refine awp_seq (awp_seq (awp_region ?_))
  (refine ⟨_, _, _, a_move (gd_none rfl) rfl rfl rfl rfl rfl, (by first | rfl | kernel_rfl), ?_⟩)
  (refine ⟨_, _, _, a_nilchk (gd_none rfl) rfl rfl rfl rfl rfl, (by first | rfl | kernel_rfl), ?_⟩)
  (first | (refine ⟨_, _, _, a_field_bp (gd_none rfl) rfl rfl rfl rfl rfl rfl rfl rfl rfl, (by first | rfl | kernel_rfl), ?_⟩) | (refine ⟨_, _, _, a_field_ad (gd_none rfl) rfl rfl rfl rfl rfl rfl rfl rfl rfl rfl rfl, (by first | rfl | kernel_rfl), ?_⟩) | (refine ⟨_, _, _, a_fieldM (gd_none rfl) rfl rfl rfl rfl rfl rfl rfl rfl rfl, (by first | rfl | kernel_rfl), ?_⟩))
  (first | (refine ⟨_, _, _, a_load_all (gd_none rfl) rfl rfl rfl rfl rfl rfl rfl rfl rfl rfl rfl rfl, (by first | rfl | kernel_rfl), ?_⟩) | (refine ⟨_, _, _, a_load_tok (gd_none rfl) rfl rfl rfl rfl rfl rfl rfl rfl rfl rfl rfl rfl rfl, (by first | rfl | kernel_rfl), ?_⟩) | (refine ⟨_, _, _, a_load_bp (gd_none rfl) rfl rfl rfl rfl rfl rfl rfl rfl rfl rfl rfl rfl, (by first | rfl | kernel_rfl), ?_⟩) | (refine ⟨_, _, _, a_load_ad (gd_none rfl) rfl rfl rfl rfl rfl rfl rfl rfl rfl, (by first | rfl | kernel_rfl), ?_⟩) | (refine ⟨_, _, _, a_load_ptr (gd_none rfl) rfl rfl rfl rfl rfl rfl rfl rfl rfl, (by first | rfl | kernel_rfl), ?_⟩) | (refine ⟨_, _, _, a_load_fld (gd_none rfl) rfl rfl rfl rfl rfl rfl rfl rfl rfl rfl rfl rfl rfl, (by first | rfl | kernel_rfl), ?_⟩) | (refine ⟨_, _, _, a_load_fullv (gd_none rfl) rfl rfl rfl rfl rfl rfl rfl rfl rfl, (by first | rfl | kernel_rfl), ?_⟩))
  (refine ⟨_, _, _, a_mnot (gd_none rfl) rfl rfl rfl rfl rfl rfl, (by first | rfl | kernel_rfl), ?_⟩)
  show AWp _ _ _ _ _ _ _
  refine awp_cond rfl (fun hc => by cases hc) (fun hc => ?_)
  refine awp_skip ?_
  show AWp _ _ _ _ _ _ _
  refine awp_seq (awp_draw (by kernel_rfl) (by kernel_rfl) ?_)
  (refine ⟨_, _, _, a_move (gd_none rfl) rfl rfl rfl rfl rfl, (by first | rfl | kernel_rfl), ?_⟩)
  (refine ⟨_, _, _, a_move (gd_none rfl) rfl rfl rfl rfl rfl, (by first | rfl | kernel_rfl), ?_⟩)
  (refine ⟨_, _, _, a_nilchk (gd_none rfl) rfl rfl rfl rfl rfl, (by first | rfl | kernel_rfl), ?_⟩)
  (first | (refine ⟨_, _, _, a_field_bp (gd_none rfl) rfl rfl rfl rfl rfl rfl rfl rfl rfl, (by first | rfl | kernel_rfl), ?_⟩) | (refine ⟨_, _, _, a_field_ad (gd_none rfl) rfl rfl rfl rfl rfl rfl rfl rfl rfl rfl rfl, (by first | rfl | kernel_rfl), ?_⟩) | (refine ⟨_, _, _, a_fieldM (gd_none rfl) rfl rfl rfl rfl rfl rfl rfl rfl rfl, (by first | rfl | kernel_rfl), ?_⟩))
  (first | (refine ⟨_, _, _, a_load_all (gd_none rfl) rfl rfl rfl rfl rfl rfl rfl rfl rfl rfl rfl rfl, (by first | rfl | kernel_rfl), ?_⟩) | (refine ⟨_, _, _, a_load_tok (gd_none rfl) rfl rfl rfl rfl rfl rfl rfl rfl rfl rfl rfl rfl rfl, (by first | rfl | kernel_rfl), ?_⟩) | (refine ⟨_, _, _, a_load_bp (gd_none rfl) rfl rfl rfl rfl rfl rfl rfl rfl rfl rfl rfl rfl, (by first | rfl | kernel_rfl), ?_⟩) | (refine ⟨_, _, _, a_load_ad (gd_none rfl) rfl rfl rfl rfl rfl rfl rfl rfl rfl, (by first | rfl | kernel_rfl), ?_⟩) | (refine ⟨_, _, _, a_load_ptr (gd_none rfl) rfl rfl rfl rfl rfl rfl rfl rfl rfl, (by first | rfl | kernel_rfl), ?_⟩) | (refine ⟨_, _, _, a_load_fld (gd_none rfl) rfl rfl rfl rfl rfl rfl rfl rfl rfl rfl rfl rfl rfl, (by first | rfl | kernel_rfl), ?_⟩) | (refine ⟨_, _, _, a_load_fullv (gd_none rfl) rfl rfl rfl rfl rfl rfl rfl rfl rfl, (by first | rfl | kernel_rfl), ?_⟩))
  (refine ⟨_, _, _, a_move (gd_none rfl) rfl rfl rfl rfl rfl, (by first | rfl | kernel_rfl), ?_⟩)
  (first | (refine ⟨_, _, _, a_load_all (gd_none rfl) rfl rfl rfl rfl rfl rfl rfl rfl rfl rfl rfl rfl, (by first | rfl | kernel_rfl), ?_⟩) | (refine ⟨_, _, _, a_load_tok (gd_none rfl) rfl rfl rfl rfl rfl rfl rfl rfl rfl rfl rfl rfl rfl, (by first | rfl | kernel_rfl), ?_⟩) | (refine ⟨_, _, _, a_load_bp (gd_none rfl) rfl rfl rfl rfl rfl rfl rfl rfl rfl rfl rfl rfl, (by first | rfl | kernel_rfl), ?_⟩) | (refine ⟨_, _, _, a_load_ad (gd_none rfl) rfl rfl rfl rfl rfl rfl rfl rfl rfl, (by first | rfl | kernel_rfl), ?_⟩) | (refine ⟨_, _, _, a_load_ptr (gd_none rfl) rfl rfl rfl rfl rfl rfl rfl rfl rfl, (by first | rfl | kernel_rfl), ?_⟩) | (refine ⟨_, _, _, a_load_fld (gd_none rfl) rfl rfl rfl rfl rfl rfl rfl rfl rfl rfl rfl rfl rfl, (by first | rfl | kernel_rfl), ?_⟩) | (refine ⟨_, _, _, a_load_fullv (gd_none rfl) rfl rfl rfl rfl rfl rfl rfl rfl rfl, (by first | rfl | kernel_rfl), ?_⟩))
  (refine ⟨_, _, _, a_build (gd_none rfl) rfl rfl rfl rfl rfl rfl rfl rfl rfl rfl rfl, (by first | rfl | kernel_rfl), ?_⟩)
  (refine ⟨_, _, _, a_bslice (gd_none rfl) rfl rfl rfl rfl rfl rfl rfl rfl rfl rfl rfl rfl rfl, (by first | rfl | kernel_rfl), ?_⟩)
  (refine ⟨_, _, _, a_appM 300043 (gd_none rfl) rfl rfl rfl rfl rfl rfl rfl rfl rfl rfl rfl rfl rfl (by first | rfl | omega | (simp only [List.length_set, List.length_map, List.length_append, List.length_cons, List.length_nil] <;> omega) | (simp <;> omega)) (by first | assumption | exact szAll_spec rfl | exact Tm.size_all _ | exact Bd.size_all _ | exact ints_size _) (by first | omega | (simp only [List.length_map, List.length_append, List.length_cons, List.length_nil] <;> omega) | (simp <;> omega)), (by first | rfl | kernel_rfl), ?_⟩)
  (refine ⟨_, _, _, a_nilchk (gd_none rfl) rfl rfl rfl rfl rfl, (by first | rfl | kernel_rfl), ?_⟩)
  (first | (refine ⟨_, _, _, a_field_bp (gd_none rfl) rfl rfl rfl rfl rfl rfl rfl rfl rfl, (by first | rfl | kernel_rfl), ?_⟩) | (refine ⟨_, _, _, a_field_ad (gd_none rfl) rfl rfl rfl rfl rfl rfl rfl rfl rfl rfl rfl, (by first | rfl | kernel_rfl), ?_⟩) | (refine ⟨_, _, _, a_fieldM (gd_none rfl) rfl rfl rfl rfl rfl rfl rfl rfl rfl, (by first | rfl | kernel_rfl), ?_⟩))
  (first | (refine ⟨_, _, _, a_store_all (gd_none rfl) rfl rfl rfl rfl rfl rfl rfl rfl rfl rfl, (by first | rfl | kernel_rfl), ?_⟩) | (refine ⟨_, _, _, a_store (gd_none rfl) rfl rfl rfl rfl rfl rfl rfl rfl rfl rfl, (by first | rfl | kernel_rfl), ?_⟩) | (refine ⟨_, _, _, a_store_fld (gd_none rfl) rfl rfl rfl rfl rfl rfl rfl rfl rfl rfl rfl rfl, (by first | rfl | kernel_rfl), ?_⟩))
  refine ⟨by kernel_rfl, ?_⟩
  show AWp _ _ _ _ _ _ _
  refine awp_seq (awp_region ?_)
  (refine ⟨_, _, _, a_assign (gd_none rfl) rfl rfl rfl rfl rfl, (by first | rfl | kernel_rfl), ?_⟩)
  show AWp _ _ _ _ _ _ _
  refine awp_ret ⟨.inr rfl, _, (wk_sub (s' := [(6, .val (.b true)), (450001, .obj), (35500100, .sl 300043 0 (L ++ [(⟨v, t⟩ : Bd)]).length 3), (35500101, .val (.sc (.map none))), (300043, .mrow 60 3 ((L ++ [(⟨v, t⟩ : Bd)]).map Bd.cv))]) ⟨rfl, rfl, ?_, rfl, ?_, trivial⟩).trans (wk_ren 300043 300001 rfl rfl (by kernel_rfl) (by kernel_rfl)), rfl, rfl, rfl, rfl, rfl, trivial⟩
  · rw [List.length_append, ← List.length_map (f := Bd.cv)]; rfl
  · rw [List.map_append]; rfl
theorem mBind_abs (m : Nat) (L : List Bd) (v : Int) (t : Tm) (hm : m ≤ L.length) (hl : L.length ≤ 64) (hL : ∀ b ∈ L, b.t.rng) (ht : t.rng) : AFunO Try.prog 62 (bst m L) [.bp 350001 0 [], .val (.i v), .val t.cw] (.val (.b (bindM L v t).1)) (bst m (bindM L v t).2) := by
  unfold bindM
  cases hf : findB L v with
  | some u =>
    have hu : u.rng := by
      rcases idx_find L v 0 with ⟨h1, _⟩ | ⟨k, b, h1, h2, _⟩
      · rw [hf] at h1; cases h1
      · rw [hf] at h2; cases h2; exact hL b (List.mem_of_getElem? h1)
    exact mBindS_abs m L v t u hl hf hu ht
  | none =>
    show AFunO _ _ _ _ (.val (.b true)) (bst m (L ++ [⟨v, t⟩]))
    rw [bst_B (m := m) (L := L ++ [(⟨v, t⟩ : Bd)]) (by rw [List.length_append, List.length_singleton]; omega)]
    by_cases h : L.length ≤ m
    · rw [bst_A h]; exact mBindA_abs L v t hl hf
    · rw [bst_B h]; exact mBindB_abs L v t hl hf
end Go.Proofs.Ytgmllfjidhbjjab


namespace Go.Proofs.Ytgmllfjidhbjjab
open Go.RowKit
set_option linter.unusedVariables false
set_option linter.unusedSimpArgs false
set_option maxRecDepth 100000

def rngL (L : List Bd) : Prop := ∀ b ∈ L, b.t.rng
theorem rngL.bind {L : List Bd} {v : Int} {t : Tm} (h : rngL L) (ht : t.rng) : rngL (bindM L v t).2 := by
  unfold bindM
  split
  · exact h
  · intro b hb
    rcases List.mem_append.1 hb with hb | hb
    · exact h b hb
    · rw [List.mem_singleton] at hb; rw [hb]; exact ht
theorem rngL.mts : ∀ {ps ts : List Tm} {L : List Bd}, (∀ p ∈ ps, ∀ t L, t.rng → rngL L → rngL (mt p t L).2) → (∀ t ∈ ts, t.rng) → rngL L → rngL (mts ps ts L).2
  | [], _, _, _, _, h => h
  | _ :: _, [], _, _, _, h => h
  | p :: ps, t :: ts, L, ih, ht, h => by
    rw [mts_cons]
    have h1 := ih p (by simp) t L (ht t (by simp)) h
    cases h2 : (mt p t L).1 with
    | true => rw [pairM_t h2]; exact rngL.mts (fun q hq => ih q (List.mem_cons_of_mem _ hq)) (fun q hq => ht q (List.mem_cons_of_mem _ hq)) h1
    | false => rw [pairM_f h2]; exact h1
theorem rngL.mt (p : Tm) : ∀ t L, t.rng → rngL L → rngL (mt p t L).2 := by
  induction p using Tm.ind with
  | h f l ih =>
    intro t L ht h
    by_cases hf : f < 0
    · rw [mt_var _ _ hf]; exact h.bind ht
    · by_cases h2 : f ≠ t.f ∨ l.length ≠ t.l.length
      · rw [mt_ne _ hf h2]; exact h
      · rw [mt_sym _ hf (by show f = _; omega) (by show l.length = _; omega)]
        exact rngL.mts ih (fun s hs => ((Tm.rng_iff _).1 ht).2 s hs) h

-- 
theorem mMatch_abs (m : Nat) : ∀ p : Tm, p.rng → p.ok → ∀ (t : Tm) (L : List Bd), t.rng → m ≤ L.length → L.length + p.vs.length ≤ 65 → rngL L → AFunO Try.prog 38 (bst m L) [.bp 350001 0 [], .val p.cw, .val t.cw] (.val (.b (mt p t L).1)) (bst m (mt p t L).2) := by
  intro p
  induction p using Tm.ind with
  | h f l ih =>
  intro hr hok t L ht hm hl hL
  have hok := (Tm.ok_iff _).1 hok
  have hr := (Tm.rng_iff _).1 hr
  have htr := (Tm.rng_iff _).1 ht
  simp only at hok hr
  have hsz := Tm.size_all l
  have hsz2 := Tm.size_all t.l
  refine afunO_of Try.func38 Try.ntmps38 rfl rfl rfl rfl rfl rfl ?_
  intro w U hU
  refine awp_seq (awp_region ?_)
  (refine ⟨_, _, _, a_box (gd_none rfl) rfl rfl rfl rfl rfl, (by first | rfl | kernel_rfl), ?_⟩)
  (refine ⟨_, _, _, a_box (gd_none rfl) rfl rfl rfl rfl rfl, (by first | rfl | kernel_rfl), ?_⟩)
  (refine ⟨_, _, _, a_assign (gd_none rfl) rfl rfl rfl rfl rfl, (by first | rfl | kernel_rfl), ?_⟩)
  show AWp _ _ _ _ _ _ _
  refine awp_seq (awp_seq (awp_region ?_))
  (first | (refine ⟨_, _, _, a_load_all (gd_none rfl) rfl rfl rfl rfl rfl rfl rfl rfl rfl rfl rfl rfl, (by first | rfl | kernel_rfl), ?_⟩) | (refine ⟨_, _, _, a_load_tok (gd_none rfl) rfl rfl rfl rfl rfl rfl rfl rfl rfl rfl rfl rfl rfl, (by first | rfl | kernel_rfl), ?_⟩) | (refine ⟨_, _, _, a_load_bp (gd_none rfl) rfl rfl rfl rfl rfl rfl rfl rfl rfl rfl rfl rfl, (by first | rfl | kernel_rfl), ?_⟩) | (refine ⟨_, _, _, a_load_ad (gd_none rfl) rfl rfl rfl rfl rfl rfl rfl rfl rfl, (by first | rfl | kernel_rfl), ?_⟩) | (refine ⟨_, _, _, a_load_ptr (gd_none rfl) rfl rfl rfl rfl rfl rfl rfl rfl rfl, (by first | rfl | kernel_rfl), ?_⟩) | (refine ⟨_, _, _, a_load_fld (gd_none rfl) rfl rfl rfl rfl rfl rfl rfl rfl rfl rfl rfl rfl rfl, (by first | rfl | kernel_rfl), ?_⟩) | (refine ⟨_, _, _, a_load_fullv (gd_none rfl) rfl rfl rfl rfl rfl rfl rfl rfl rfl, (by first | rfl | kernel_rfl), ?_⟩))
  (refine ⟨_, _, _, a_call (gd_none rfl) rfl rfl rfl rfl rfl (mIsVar_abs w ⟨f, l⟩), (by first | rfl | kernel_rfl), ?_⟩)
  show AWp _ _ _ _ _ _ _
  refine awp_cond rfl (fun hc => ?_) (fun hc => ?_)
  · have hf : f < 0 := by simpa using hc
    rw [Tm.vs_var hf] at hl
    rw [mt_var _ _ hf]
    refine awp_seq (awp_draw (by kernel_rfl) (by kernel_rfl) ?_)
    (refine ⟨_, _, _, a_move (gd_none rfl) rfl rfl rfl rfl rfl, (by first | rfl | kernel_rfl), ?_⟩)
    (first | (refine ⟨_, _, _, a_load_all (gd_none rfl) rfl rfl rfl rfl rfl rfl rfl rfl rfl rfl rfl rfl, (by first | rfl | kernel_rfl), ?_⟩) | (refine ⟨_, _, _, a_load_tok (gd_none rfl) rfl rfl rfl rfl rfl rfl rfl rfl rfl rfl rfl rfl rfl, (by first | rfl | kernel_rfl), ?_⟩) | (refine ⟨_, _, _, a_load_bp (gd_none rfl) rfl rfl rfl rfl rfl rfl rfl rfl rfl rfl rfl rfl, (by first | rfl | kernel_rfl), ?_⟩) | (refine ⟨_, _, _, a_load_ad (gd_none rfl) rfl rfl rfl rfl rfl rfl rfl rfl rfl, (by first | rfl | kernel_rfl), ?_⟩) | (refine ⟨_, _, _, a_load_ptr (gd_none rfl) rfl rfl rfl rfl rfl rfl rfl rfl rfl, (by first | rfl | kernel_rfl), ?_⟩) | (refine ⟨_, _, _, a_load_fld (gd_none rfl) rfl rfl rfl rfl rfl rfl rfl rfl rfl rfl rfl rfl rfl, (by first | rfl | kernel_rfl), ?_⟩) | (refine ⟨_, _, _, a_load_fullv (gd_none rfl) rfl rfl rfl rfl rfl rfl rfl rfl rfl, (by first | rfl | kernel_rfl), ?_⟩))
    (refine ⟨_, _, _, a_call (gd_none rfl) rfl rfl rfl rfl rfl (mNumber_abs w ⟨f, l⟩ hr.1.1 hf), (by first | rfl | kernel_rfl), ?_⟩)
    (first | (refine ⟨_, _, _, a_load_all (gd_none rfl) rfl rfl rfl rfl rfl rfl rfl rfl rfl rfl rfl rfl, (by first | rfl | kernel_rfl), ?_⟩) | (refine ⟨_, _, _, a_load_tok (gd_none rfl) rfl rfl rfl rfl rfl rfl rfl rfl rfl rfl rfl rfl rfl, (by first | rfl | kernel_rfl), ?_⟩) | (refine ⟨_, _, _, a_load_bp (gd_none rfl) rfl rfl rfl rfl rfl rfl rfl rfl rfl rfl rfl rfl, (by first | rfl | kernel_rfl), ?_⟩) | (refine ⟨_, _, _, a_load_ad (gd_none rfl) rfl rfl rfl rfl rfl rfl rfl rfl rfl, (by first | rfl | kernel_rfl), ?_⟩) | (refine ⟨_, _, _, a_load_ptr (gd_none rfl) rfl rfl rfl rfl rfl rfl rfl rfl rfl, (by first | rfl | kernel_rfl), ?_⟩) | (refine ⟨_, _, _, a_load_fld (gd_none rfl) rfl rfl rfl rfl rfl rfl rfl rfl rfl rfl rfl rfl rfl, (by first | rfl | kernel_rfl), ?_⟩) | (refine ⟨_, _, _, a_load_fullv (gd_none rfl) rfl rfl rfl rfl rfl rfl rfl rfl rfl, (by first | rfl | kernel_rfl), ?_⟩))
    (refine ⟨_, _, _, a_callO (gd_none rfl) rfl rfl rfl rfl rfl (mBind_abs m L (-1 - f) t hm (by simpa using hl) hL ht) (by repeat (first | exact trivial | refine ⟨rfl, ?_⟩)) (bst_lend _ _) (bst_leave _ _) (by first | rfl | kernel_rfl) (by first | rfl | kernel_rfl) (hnb_of (by first | rfl | kernel_rfl)), (by first | rfl | kernel_rfl), ?_⟩)
    (refine ⟨_, _, _, a_assign (gd_none rfl) rfl rfl rfl rfl rfl, (by first | rfl | kernel_rfl), ?_⟩)
    refine ⟨by kernel_rfl, ?_⟩
    show AWp _ _ _ _ _ _ _
    exact awp_ret ⟨.inr rfl, _, Wk.refl _, rfl, rfl, rfl, rfl, rfl, trivial⟩
  have hf : ¬ f < 0 := by simpa using hc
  refine awp_skip ?_
  show AWp _ _ _ _ _ _ _
  by_cases hft : f = t.f
  case neg =>
    have g : decide (f ≠ t.f) = true := by simpa using hft
    rw [mt_ne _ hf (.inl hft)]
    refine awp_seq (awp_seq (awp_region ?_))
    (first | (refine ⟨_, _, _, a_field_bp (gd_none rfl) rfl rfl rfl rfl rfl rfl rfl rfl rfl, (by first | rfl | kernel_rfl), ?_⟩) | (refine ⟨_, _, _, a_field_ad (gd_none rfl) rfl rfl rfl rfl rfl rfl rfl rfl rfl rfl rfl, (by first | rfl | kernel_rfl), ?_⟩) | (refine ⟨_, _, _, a_fieldM (gd_none rfl) rfl rfl rfl rfl rfl rfl rfl rfl rfl, (by first | rfl | kernel_rfl), ?_⟩))
    (first | (refine ⟨_, _, _, a_load_all (gd_none rfl) rfl rfl rfl rfl rfl rfl rfl rfl rfl rfl rfl rfl, (by first | rfl | kernel_rfl), ?_⟩) | (refine ⟨_, _, _, a_load_tok (gd_none rfl) rfl rfl rfl rfl rfl rfl rfl rfl rfl rfl rfl rfl rfl, (by first | rfl | kernel_rfl), ?_⟩) | (refine ⟨_, _, _, a_load_bp (gd_none rfl) rfl rfl rfl rfl rfl rfl rfl rfl rfl rfl rfl rfl, (by first | rfl | kernel_rfl), ?_⟩) | (refine ⟨_, _, _, a_load_ad (gd_none rfl) rfl rfl rfl rfl rfl rfl rfl rfl rfl, (by first | rfl | kernel_rfl), ?_⟩) | (refine ⟨_, _, _, a_load_ptr (gd_none rfl) rfl rfl rfl rfl rfl rfl rfl rfl rfl, (by first | rfl | kernel_rfl), ?_⟩) | (refine ⟨_, _, _, a_load_fld (gd_none rfl) rfl rfl rfl rfl rfl rfl rfl rfl rfl rfl rfl rfl rfl, (by first | rfl | kernel_rfl), ?_⟩) | (refine ⟨_, _, _, a_load_fullv (gd_none rfl) rfl rfl rfl rfl rfl rfl rfl rfl rfl, (by first | rfl | kernel_rfl), ?_⟩))
    (first | (refine ⟨_, _, _, a_field_bp (gd_none rfl) rfl rfl rfl rfl rfl rfl rfl rfl rfl, (by first | rfl | kernel_rfl), ?_⟩) | (refine ⟨_, _, _, a_field_ad (gd_none rfl) rfl rfl rfl rfl rfl rfl rfl rfl rfl rfl rfl, (by first | rfl | kernel_rfl), ?_⟩) | (refine ⟨_, _, _, a_fieldM (gd_none rfl) rfl rfl rfl rfl rfl rfl rfl rfl rfl, (by first | rfl | kernel_rfl), ?_⟩))
    (first | (refine ⟨_, _, _, a_load_all (gd_none rfl) rfl rfl rfl rfl rfl rfl rfl rfl rfl rfl rfl rfl, (by first | rfl | kernel_rfl), ?_⟩) | (refine ⟨_, _, _, a_load_tok (gd_none rfl) rfl rfl rfl rfl rfl rfl rfl rfl rfl rfl rfl rfl rfl, (by first | rfl | kernel_rfl), ?_⟩) | (refine ⟨_, _, _, a_load_bp (gd_none rfl) rfl rfl rfl rfl rfl rfl rfl rfl rfl rfl rfl rfl, (by first | rfl | kernel_rfl), ?_⟩) | (refine ⟨_, _, _, a_load_ad (gd_none rfl) rfl rfl rfl rfl rfl rfl rfl rfl rfl, (by first | rfl | kernel_rfl), ?_⟩) | (refine ⟨_, _, _, a_load_ptr (gd_none rfl) rfl rfl rfl rfl rfl rfl rfl rfl rfl, (by first | rfl | kernel_rfl), ?_⟩) | (refine ⟨_, _, _, a_load_fld (gd_none rfl) rfl rfl rfl rfl rfl rfl rfl rfl rfl rfl rfl rfl rfl, (by first | rfl | kernel_rfl), ?_⟩) | (refine ⟨_, _, _, a_load_fullv (gd_none rfl) rfl rfl rfl rfl rfl rfl rfl rfl rfl, (by first | rfl | kernel_rfl), ?_⟩))
    (first | (refine ⟨_, _, _, a_neq (gd_none rfl) rfl rfl rfl rfl rfl rfl, (by first | rfl | kernel_rfl), ?_⟩) | (refine ⟨_, _, _, a_bne (gd_none rfl) rfl rfl rfl rfl rfl rfl rfl, (by first | rfl | kernel_rfl), ?_⟩))
    (refine ⟨_, _, _, a_move (gd_none rfl) rfl rfl rfl rfl rfl, (by first | rfl | kernel_rfl), ?_⟩)
    (refine ⟨_, _, _, a_off (go_off rfl rfl rfl rfl (by first | rfl | assumption | (simp; done) | (simp [*]; done))) rfl rfl rfl, rfl, ?_⟩)
    (refine ⟨_, _, _, a_off (go_off rfl rfl rfl rfl (by first | rfl | assumption | (simp; done) | (simp [*]; done))) rfl rfl rfl, rfl, ?_⟩)
    (refine ⟨_, _, _, a_off (go_off rfl rfl rfl rfl (by first | rfl | assumption | (simp; done) | (simp [*]; done))) rfl rfl rfl, rfl, ?_⟩)
    (refine ⟨_, _, _, a_off (go_off rfl rfl rfl rfl (by first | rfl | assumption | (simp; done) | (simp [*]; done))) rfl rfl rfl, rfl, ?_⟩)
    (refine ⟨_, _, _, a_off (go_off rfl rfl rfl rfl (by first | rfl | assumption | (simp; done) | (simp [*]; done))) rfl rfl rfl, rfl, ?_⟩)
    (refine ⟨_, _, _, a_off (go_off rfl rfl rfl rfl (by first | rfl | assumption | (simp; done) | (simp [*]; done))) rfl rfl rfl, rfl, ?_⟩)
    (refine ⟨_, _, _, a_off (go_off rfl rfl rfl rfl (by first | rfl | assumption | (simp; done) | (simp [*]; done))) rfl rfl rfl, rfl, ?_⟩)
    (first | (refine ⟨_, _, _, a_pick_t (gd_none rfl) rfl rfl rfl rfl rfl ?hb rfl, rfl, ?_⟩; case hb => (first | rfl | assumption | (simp; done))) | (refine ⟨_, _, _, a_pick_f (gd_none rfl) rfl rfl rfl rfl rfl ?hb rfl, rfl, ?_⟩; case hb => (first | rfl | assumption | (simp; done))))
    show AWp _ _ _ _ _ _ _
    refine awp_cond rfl (fun hc => ?_) (fun hc => by cases hc)
    refine awp_seq (awp_region ?_)
    (refine ⟨_, _, _, a_assign (gd_none rfl) rfl rfl rfl rfl rfl, (by first | rfl | kernel_rfl), ?_⟩)
    show AWp _ _ _ _ _ _ _
    exact awp_ret ⟨.inr rfl, _, Wk.refl _, rfl, rfl, rfl, rfl, rfl, trivial⟩
  have g : decide (f ≠ t.f) = false := by simpa using hft
  refine awp_seq (awp_seq (awp_region ?_))
  (first | (refine ⟨_, _, _, a_field_bp (gd_none rfl) rfl rfl rfl rfl rfl rfl rfl rfl rfl, (by first | rfl | kernel_rfl), ?_⟩) | (refine ⟨_, _, _, a_field_ad (gd_none rfl) rfl rfl rfl rfl rfl rfl rfl rfl rfl rfl rfl, (by first | rfl | kernel_rfl), ?_⟩) | (refine ⟨_, _, _, a_fieldM (gd_none rfl) rfl rfl rfl rfl rfl rfl rfl rfl rfl, (by first | rfl | kernel_rfl), ?_⟩))
  (first | (refine ⟨_, _, _, a_load_all (gd_none rfl) rfl rfl rfl rfl rfl rfl rfl rfl rfl rfl rfl rfl, (by first | rfl | kernel_rfl), ?_⟩) | (refine ⟨_, _, _, a_load_tok (gd_none rfl) rfl rfl rfl rfl rfl rfl rfl rfl rfl rfl rfl rfl rfl, (by first | rfl | kernel_rfl), ?_⟩) | (refine ⟨_, _, _, a_load_bp (gd_none rfl) rfl rfl rfl rfl rfl rfl rfl rfl rfl rfl rfl rfl, (by first | rfl | kernel_rfl), ?_⟩) | (refine ⟨_, _, _, a_load_ad (gd_none rfl) rfl rfl rfl rfl rfl rfl rfl rfl rfl, (by first | rfl | kernel_rfl), ?_⟩) | (refine ⟨_, _, _, a_load_ptr (gd_none rfl) rfl rfl rfl rfl rfl rfl rfl rfl rfl, (by first | rfl | kernel_rfl), ?_⟩) | (refine ⟨_, _, _, a_load_fld (gd_none rfl) rfl rfl rfl rfl rfl rfl rfl rfl rfl rfl rfl rfl rfl, (by first | rfl | kernel_rfl), ?_⟩) | (refine ⟨_, _, _, a_load_fullv (gd_none rfl) rfl rfl rfl rfl rfl rfl rfl rfl rfl, (by first | rfl | kernel_rfl), ?_⟩))
  (first | (refine ⟨_, _, _, a_field_bp (gd_none rfl) rfl rfl rfl rfl rfl rfl rfl rfl rfl, (by first | rfl | kernel_rfl), ?_⟩) | (refine ⟨_, _, _, a_field_ad (gd_none rfl) rfl rfl rfl rfl rfl rfl rfl rfl rfl rfl rfl, (by first | rfl | kernel_rfl), ?_⟩) | (refine ⟨_, _, _, a_fieldM (gd_none rfl) rfl rfl rfl rfl rfl rfl rfl rfl rfl, (by first | rfl | kernel_rfl), ?_⟩))
  (first | (refine ⟨_, _, _, a_load_all (gd_none rfl) rfl rfl rfl rfl rfl rfl rfl rfl rfl rfl rfl rfl, (by first | rfl | kernel_rfl), ?_⟩) | (refine ⟨_, _, _, a_load_tok (gd_none rfl) rfl rfl rfl rfl rfl rfl rfl rfl rfl rfl rfl rfl rfl, (by first | rfl | kernel_rfl), ?_⟩) | (refine ⟨_, _, _, a_load_bp (gd_none rfl) rfl rfl rfl rfl rfl rfl rfl rfl rfl rfl rfl rfl, (by first | rfl | kernel_rfl), ?_⟩) | (refine ⟨_, _, _, a_load_ad (gd_none rfl) rfl rfl rfl rfl rfl rfl rfl rfl rfl, (by first | rfl | kernel_rfl), ?_⟩) | (refine ⟨_, _, _, a_load_ptr (gd_none rfl) rfl rfl rfl rfl rfl rfl rfl rfl rfl, (by first | rfl | kernel_rfl), ?_⟩) | (refine ⟨_, _, _, a_load_fld (gd_none rfl) rfl rfl rfl rfl rfl rfl rfl rfl rfl rfl rfl rfl rfl, (by first | rfl | kernel_rfl), ?_⟩) | (refine ⟨_, _, _, a_load_fullv (gd_none rfl) rfl rfl rfl rfl rfl rfl rfl rfl rfl, (by first | rfl | kernel_rfl), ?_⟩))
  (first | (refine ⟨_, _, _, a_neq (gd_none rfl) rfl rfl rfl rfl rfl rfl, (by first | rfl | kernel_rfl), ?_⟩) | (refine ⟨_, _, _, a_bne (gd_none rfl) rfl rfl rfl rfl rfl rfl rfl, (by first | rfl | kernel_rfl), ?_⟩))
  (refine ⟨_, _, _, a_move (gd_none rfl) rfl rfl rfl rfl rfl, (by first | rfl | kernel_rfl), ?_⟩)
  (first | (refine ⟨_, _, _, a_field_bp (gd_on rfl rfl rfl rfl (by first | rfl | assumption | (simp; done))) rfl rfl rfl rfl rfl rfl rfl rfl rfl, (by first | rfl | kernel_rfl), ?_⟩) | (refine ⟨_, _, _, a_field_ad (gd_on rfl rfl rfl rfl (by first | rfl | assumption | (simp; done))) rfl rfl rfl rfl rfl rfl rfl rfl rfl rfl rfl, (by first | rfl | kernel_rfl), ?_⟩) | (refine ⟨_, _, _, a_fieldM (gd_on rfl rfl rfl rfl (by first | rfl | assumption | (simp; done))) rfl rfl rfl rfl rfl rfl rfl rfl rfl, (by first | rfl | kernel_rfl), ?_⟩))
  (first | (refine ⟨_, _, _, a_load_all (gd_on rfl rfl rfl rfl (by first | rfl | assumption | (simp; done))) rfl rfl rfl rfl rfl rfl rfl rfl rfl rfl rfl rfl, (by first | rfl | kernel_rfl), ?_⟩) | (refine ⟨_, _, _, a_load_tok (gd_on rfl rfl rfl rfl (by first | rfl | assumption | (simp; done))) rfl rfl rfl rfl rfl rfl rfl rfl rfl rfl rfl rfl rfl, (by first | rfl | kernel_rfl), ?_⟩) | (refine ⟨_, _, _, a_load_bp (gd_on rfl rfl rfl rfl (by first | rfl | assumption | (simp; done))) rfl rfl rfl rfl rfl rfl rfl rfl rfl rfl rfl rfl, (by first | rfl | kernel_rfl), ?_⟩) | (refine ⟨_, _, _, a_load_ad (gd_on rfl rfl rfl rfl (by first | rfl | assumption | (simp; done))) rfl rfl rfl rfl rfl rfl rfl rfl rfl, (by first | rfl | kernel_rfl), ?_⟩) | (refine ⟨_, _, _, a_load_ptr (gd_on rfl rfl rfl rfl (by first | rfl | assumption | (simp; done))) rfl rfl rfl rfl rfl rfl rfl rfl rfl, (by first | rfl | kernel_rfl), ?_⟩) | (refine ⟨_, _, _, a_load_fld (gd_on rfl rfl rfl rfl (by first | rfl | assumption | (simp; done))) rfl rfl rfl rfl rfl rfl rfl rfl rfl rfl rfl rfl rfl, (by first | rfl | kernel_rfl), ?_⟩) | (refine ⟨_, _, _, a_load_fullv (gd_on rfl rfl rfl rfl (by first | rfl | assumption | (simp; done))) rfl rfl rfl rfl rfl rfl rfl rfl rfl, (by first | rfl | kernel_rfl), ?_⟩))
  (first | (refine ⟨_, _, _, a_len (gd_on rfl rfl rfl rfl (by first | rfl | assumption | (simp; done))) rfl rfl rfl rfl rfl rfl rfl, (by first | rfl | kernel_rfl), ?_⟩) | (refine ⟨_, _, _, a_lenM (gd_on rfl rfl rfl rfl (by first | rfl | assumption | (simp; done))) rfl rfl rfl rfl rfl rfl rfl, (by first | rfl | kernel_rfl), ?_⟩))
  (first | (refine ⟨_, _, _, a_field_bp (gd_on rfl rfl rfl rfl (by first | rfl | assumption | (simp; done))) rfl rfl rfl rfl rfl rfl rfl rfl rfl, (by first | rfl | kernel_rfl), ?_⟩) | (refine ⟨_, _, _, a_field_ad (gd_on rfl rfl rfl rfl (by first | rfl | assumption | (simp; done))) rfl rfl rfl rfl rfl rfl rfl rfl rfl rfl rfl, (by first | rfl | kernel_rfl), ?_⟩) | (refine ⟨_, _, _, a_fieldM (gd_on rfl rfl rfl rfl (by first | rfl | assumption | (simp; done))) rfl rfl rfl rfl rfl rfl rfl rfl rfl, (by first | rfl | kernel_rfl), ?_⟩))
  (first | (refine ⟨_, _, _, a_load_all (gd_on rfl rfl rfl rfl (by first | rfl | assumption | (simp; done))) rfl rfl rfl rfl rfl rfl rfl rfl rfl rfl rfl rfl, (by first | rfl | kernel_rfl), ?_⟩) | (refine ⟨_, _, _, a_load_tok (gd_on rfl rfl rfl rfl (by first | rfl | assumption | (simp; done))) rfl rfl rfl rfl rfl rfl rfl rfl rfl rfl rfl rfl rfl, (by first | rfl | kernel_rfl), ?_⟩) | (refine ⟨_, _, _, a_load_bp (gd_on rfl rfl rfl rfl (by first | rfl | assumption | (simp; done))) rfl rfl rfl rfl rfl rfl rfl rfl rfl rfl rfl rfl, (by first | rfl | kernel_rfl), ?_⟩) | (refine ⟨_, _, _, a_load_ad (gd_on rfl rfl rfl rfl (by first | rfl | assumption | (simp; done))) rfl rfl rfl rfl rfl rfl rfl rfl rfl, (by first | rfl | kernel_rfl), ?_⟩) | (refine ⟨_, _, _, a_load_ptr (gd_on rfl rfl rfl rfl (by first | rfl | assumption | (simp; done))) rfl rfl rfl rfl rfl rfl rfl rfl rfl, (by first | rfl | kernel_rfl), ?_⟩) | (refine ⟨_, _, _, a_load_fld (gd_on rfl rfl rfl rfl (by first | rfl | assumption | (simp; done))) rfl rfl rfl rfl rfl rfl rfl rfl rfl rfl rfl rfl rfl, (by first | rfl | kernel_rfl), ?_⟩) | (refine ⟨_, _, _, a_load_fullv (gd_on rfl rfl rfl rfl (by first | rfl | assumption | (simp; done))) rfl rfl rfl rfl rfl rfl rfl rfl rfl, (by first | rfl | kernel_rfl), ?_⟩))
  (first | (refine ⟨_, _, _, a_len (gd_on rfl rfl rfl rfl (by first | rfl | assumption | (simp; done))) rfl rfl rfl rfl rfl rfl rfl, (by first | rfl | kernel_rfl), ?_⟩) | (refine ⟨_, _, _, a_lenM (gd_on rfl rfl rfl rfl (by first | rfl | assumption | (simp; done))) rfl rfl rfl rfl rfl rfl rfl, (by first | rfl | kernel_rfl), ?_⟩))
  (first | (refine ⟨_, _, _, a_neq (gd_on rfl rfl rfl rfl (by first | rfl | assumption | (simp; done))) rfl rfl rfl rfl rfl rfl, (by first | rfl | kernel_rfl), ?_⟩) | (refine ⟨_, _, _, a_bne (gd_on rfl rfl rfl rfl (by first | rfl | assumption | (simp; done))) rfl rfl rfl rfl rfl rfl rfl, (by first | rfl | kernel_rfl), ?_⟩))
  (first | (refine ⟨_, _, _, a_pick_t (gd_none rfl) rfl rfl rfl rfl rfl ?hb rfl, rfl, ?_⟩; case hb => (first | rfl | assumption | (simp; done))) | (refine ⟨_, _, _, a_pick_f (gd_none rfl) rfl rfl rfl rfl rfl ?hb rfl, rfl, ?_⟩; case hb => (first | rfl | assumption | (simp; done))))
  show AWp _ _ _ _ _ _ _
  refine awp_cond rfl (fun hc => ?_) (fun hc => ?_)
  · have hll : l.length ≠ t.l.length := by
      intro e
      simp [e] at hc
    rw [mt_ne _ hf (.inr hll)]
    refine awp_seq (awp_region ?_)
    (refine ⟨_, _, _, a_assign (gd_none rfl) rfl rfl rfl rfl rfl, (by first | rfl | kernel_rfl), ?_⟩)
    show AWp _ _ _ _ _ _ _
    exact awp_ret ⟨.inr rfl, _, Wk.refl _, rfl, rfl, rfl, rfl, rfl, trivial⟩
  have hll : l.length = t.l.length := by
    have hc := of_decide_eq_false hc
    simp only [List.length_map, ne_eq, Decidable.not_not] at hc
    omega
  rw [mt_sym (p := ⟨f, l⟩) _ hf hft hll]
  rw [Tm.vs_sym (t := ⟨f, l⟩) hf] at hl
  refine awp_skip ?_
  show AWp _ _ _ _ _ _ _
  refine awp_seq (awp_seq (awp_region ?_))
  (first | (refine ⟨_, _, _, a_field_bp (gd_none rfl) rfl rfl rfl rfl rfl rfl rfl rfl rfl, (by first | rfl | kernel_rfl), ?_⟩) | (refine ⟨_, _, _, a_field_ad (gd_none rfl) rfl rfl rfl rfl rfl rfl rfl rfl rfl rfl rfl, (by first | rfl | kernel_rfl), ?_⟩) | (refine ⟨_, _, _, a_fieldM (gd_none rfl) rfl rfl rfl rfl rfl rfl rfl rfl rfl, (by first | rfl | kernel_rfl), ?_⟩))
  (first | (refine ⟨_, _, _, a_load_all (gd_none rfl) rfl rfl rfl rfl rfl rfl rfl rfl rfl rfl rfl rfl, (by first | rfl | kernel_rfl), ?_⟩) | (refine ⟨_, _, _, a_load_tok (gd_none rfl) rfl rfl rfl rfl rfl rfl rfl rfl rfl rfl rfl rfl rfl, (by first | rfl | kernel_rfl), ?_⟩) | (refine ⟨_, _, _, a_load_bp (gd_none rfl) rfl rfl rfl rfl rfl rfl rfl rfl rfl rfl rfl rfl, (by first | rfl | kernel_rfl), ?_⟩) | (refine ⟨_, _, _, a_load_ad (gd_none rfl) rfl rfl rfl rfl rfl rfl rfl rfl rfl, (by first | rfl | kernel_rfl), ?_⟩) | (refine ⟨_, _, _, a_load_ptr (gd_none rfl) rfl rfl rfl rfl rfl rfl rfl rfl rfl, (by first | rfl | kernel_rfl), ?_⟩) | (refine ⟨_, _, _, a_load_fld (gd_none rfl) rfl rfl rfl rfl rfl rfl rfl rfl rfl rfl rfl rfl rfl, (by first | rfl | kernel_rfl), ?_⟩) | (refine ⟨_, _, _, a_load_fullv (gd_none rfl) rfl rfl rfl rfl rfl rfl rfl rfl rfl, (by first | rfl | kernel_rfl), ?_⟩))
  (first | (refine ⟨_, _, _, a_len (gd_none rfl) rfl rfl rfl rfl rfl rfl rfl, (by first | rfl | kernel_rfl), ?_⟩) | (refine ⟨_, _, _, a_lenM (gd_none rfl) rfl rfl rfl rfl rfl rfl rfl, (by first | rfl | kernel_rfl), ?_⟩))
  (refine ⟨_, _, _, a_move (gd_none rfl) rfl rfl rfl rfl rfl, (by first | rfl | kernel_rfl), ?_⟩)
  show AWp _ _ _ _ _ _ _
  refine awp_block (awp_countI l.length (fun k => (mts (l.take k) (t.l.take k) L).1 = true) (fun k => (0, .bp 350001 0 []) :: (4, .bp 4 0 []) :: (100004, .bx (Tm.cw ⟨f, l⟩)) :: (5, .bp 5 0 []) :: (100005, .bx t.cw) :: (31, .val (.lst (l.map Tm.cv))) :: (32, .val (.i (l.map Tm.cv).length)) :: (33, .val (.i k)) :: bst m (mts (l.take k) (t.l.take k) L).2) (wk_sub ⟨rfl, rfl, rfl, rfl, rfl, rfl, rfl, rfl, rfl, rfl, rfl, rfl, trivial⟩) rfl ?_)
  intro k hk hI
  refine awp_seq (awp_region ?_)
  (refine ⟨_, _, _, a_lss (gd_none rfl) rfl rfl rfl rfl rfl rfl, (by first | rfl | kernel_rfl), ?_⟩)
  show AWp _ _ _ _ _ _ _
  refine awp_seq (awp_cond rfl (fun hlt => ?_) (fun hlt => ?_))
  · have hkl : k < l.length := by simpa using hlt
    obtain ⟨x, hx⟩ : ∃ x, l[k]? = some x := ⟨l[k], List.getElem?_eq_getElem hkl⟩
    obtain ⟨y, hy⟩ : ∃ y, t.l[k]? = some y := ⟨t.l[k]'(by omega), List.getElem?_eq_getElem (by omega)⟩
    have hx' := Tm.map_at hx
    have hy' := Tm.map_at hy
    have hxm := List.mem_of_getElem? hx
    have hym := List.mem_of_getElem? hy
    obtain ⟨Lk, hLk⟩ : ∃ Lk, Lk = (mts (l.take k) (t.l.take k) L).2 := ⟨_, rfl⟩
    have hgk := mts_grw' (l.take k) (t.l.take k) L
    have hrk : rngL Lk := by
      rw [hLk]
      exact rngL.mts (fun p _ => rngL.mt p) (fun s hs => htr.2 s (List.mem_of_mem_take hs)) hL
    have hbound : Lk.length + x.vs.length ≤ 65 := by
      have h1 := hgk.le.2
      rw [← hLk] at h1
      have h2 : (l.flatMap Tm.vs).length = ((l.take k).flatMap Tm.vs).length + ((l.drop k).flatMap Tm.vs).length := by
        conv => lhs; rw [← List.take_append_drop k l]
        rw [List.flatMap_append, List.length_append]
      have h3 : x.vs.length ≤ ((l.drop k).flatMap Tm.vs).length := flatMap_len_mem Tm.vs (List.mem_of_getElem? (i := 0) (by rw [List.getElem?_drop]; simpa using hx))
      have hl : L.length + (l.flatMap Tm.vs).length ≤ 65 := hl
      omega
    have hmk : m ≤ Lk.length := by have := hgk.le.1; rw [← hLk] at this; omega
    have hstep := mts_take hll hx hy L
    rw [pairM_t hI, ← hLk] at hstep
    rw [← hLk]
    refine awp_skip ?_
    show AWp _ _ _ _ _ _ _
    refine awp_seq (awp_block (awp_seq (awp_region ?_)))
    (refine ⟨_, _, _, a_move (gd_none rfl) rfl rfl rfl rfl rfl, (by first | rfl | kernel_rfl), ?_⟩)
    (refine ⟨_, _, _, a_index (j := k) (gd_none rfl) rfl rfl rfl rfl rfl rfl rfl rfl rfl (hx') rfl (hsz), (by first | rfl | kernel_rfl), ?_⟩)
    (first | (refine ⟨_, _, _, a_load_all (gd_none rfl) rfl rfl rfl rfl rfl rfl rfl rfl rfl rfl rfl rfl, (by first | rfl | kernel_rfl), ?_⟩) | (refine ⟨_, _, _, a_load_tok (gd_none rfl) rfl rfl rfl rfl rfl rfl rfl rfl rfl rfl rfl rfl rfl, (by first | rfl | kernel_rfl), ?_⟩) | (refine ⟨_, _, _, a_load_bp (gd_none rfl) rfl rfl rfl rfl rfl rfl rfl rfl rfl rfl rfl rfl, (by first | rfl | kernel_rfl), ?_⟩) | (refine ⟨_, _, _, a_load_ad (gd_none rfl) rfl rfl rfl rfl rfl rfl rfl rfl rfl, (by first | rfl | kernel_rfl), ?_⟩) | (refine ⟨_, _, _, a_load_ptr (gd_none rfl) rfl rfl rfl rfl rfl rfl rfl rfl rfl, (by first | rfl | kernel_rfl), ?_⟩) | (refine ⟨_, _, _, a_load_fld (gd_none rfl) rfl rfl rfl rfl rfl rfl rfl rfl rfl rfl rfl rfl rfl, (by first | rfl | kernel_rfl), ?_⟩) | (refine ⟨_, _, _, a_load_fullv (gd_none rfl) rfl rfl rfl rfl rfl rfl rfl rfl rfl, (by first | rfl | kernel_rfl), ?_⟩))
    (refine ⟨_, _, _, a_alloc (gd_none rfl) rfl rfl rfl rfl rfl rfl rfl rfl rfl rfl, (by first | rfl | kernel_rfl), ?_⟩)
    (refine ⟨_, _, _, a_assign (gd_none rfl) rfl rfl rfl rfl rfl, (by first | rfl | kernel_rfl), ?_⟩)
    (first | (refine ⟨_, _, _, a_store_all (gd_none rfl) rfl rfl rfl rfl rfl rfl rfl rfl rfl rfl, (by first | rfl | kernel_rfl), ?_⟩) | (refine ⟨_, _, _, a_store (gd_none rfl) rfl rfl rfl rfl rfl rfl rfl rfl rfl rfl, (by first | rfl | kernel_rfl), ?_⟩) | (refine ⟨_, _, _, a_store_fld (gd_none rfl) rfl rfl rfl rfl rfl rfl rfl rfl rfl rfl rfl rfl, (by first | rfl | kernel_rfl), ?_⟩))
    show AWp _ _ _ _ _ _ _
    refine awp_seq (awp_draw (by kernel_rfl) (by kernel_rfl) ?_)
    (refine ⟨_, _, _, a_move (gd_none rfl) rfl rfl rfl rfl rfl, (by first | rfl | kernel_rfl), ?_⟩)
    (first | (refine ⟨_, _, _, a_load_all (gd_none rfl) rfl rfl rfl rfl rfl rfl rfl rfl rfl rfl rfl rfl, (by first | rfl | kernel_rfl), ?_⟩) | (refine ⟨_, _, _, a_load_tok (gd_none rfl) rfl rfl rfl rfl rfl rfl rfl rfl rfl rfl rfl rfl rfl, (by first | rfl | kernel_rfl), ?_⟩) | (refine ⟨_, _, _, a_load_bp (gd_none rfl) rfl rfl rfl rfl rfl rfl rfl rfl rfl rfl rfl rfl, (by first | rfl | kernel_rfl), ?_⟩) | (refine ⟨_, _, _, a_load_ad (gd_none rfl) rfl rfl rfl rfl rfl rfl rfl rfl rfl, (by first | rfl | kernel_rfl), ?_⟩) | (refine ⟨_, _, _, a_load_ptr (gd_none rfl) rfl rfl rfl rfl rfl rfl rfl rfl rfl, (by first | rfl | kernel_rfl), ?_⟩) | (refine ⟨_, _, _, a_load_fld (gd_none rfl) rfl rfl rfl rfl rfl rfl rfl rfl rfl rfl rfl rfl rfl, (by first | rfl | kernel_rfl), ?_⟩) | (refine ⟨_, _, _, a_load_fullv (gd_none rfl) rfl rfl rfl rfl rfl rfl rfl rfl rfl, (by first | rfl | kernel_rfl), ?_⟩))
    (first | (refine ⟨_, _, _, a_field_bp (gd_none rfl) rfl rfl rfl rfl rfl rfl rfl rfl rfl, (by first | rfl | kernel_rfl), ?_⟩) | (refine ⟨_, _, _, a_field_ad (gd_none rfl) rfl rfl rfl rfl rfl rfl rfl rfl rfl rfl rfl, (by first | rfl | kernel_rfl), ?_⟩) | (refine ⟨_, _, _, a_fieldM (gd_none rfl) rfl rfl rfl rfl rfl rfl rfl rfl rfl, (by first | rfl | kernel_rfl), ?_⟩))
    (first | (refine ⟨_, _, _, a_load_all (gd_none rfl) rfl rfl rfl rfl rfl rfl rfl rfl rfl rfl rfl rfl, (by first | rfl | kernel_rfl), ?_⟩) | (refine ⟨_, _, _, a_load_tok (gd_none rfl) rfl rfl rfl rfl rfl rfl rfl rfl rfl rfl rfl rfl rfl, (by first | rfl | kernel_rfl), ?_⟩) | (refine ⟨_, _, _, a_load_bp (gd_none rfl) rfl rfl rfl rfl rfl rfl rfl rfl rfl rfl rfl rfl, (by first | rfl | kernel_rfl), ?_⟩) | (refine ⟨_, _, _, a_load_ad (gd_none rfl) rfl rfl rfl rfl rfl rfl rfl rfl rfl, (by first | rfl | kernel_rfl), ?_⟩) | (refine ⟨_, _, _, a_load_ptr (gd_none rfl) rfl rfl rfl rfl rfl rfl rfl rfl rfl, (by first | rfl | kernel_rfl), ?_⟩) | (refine ⟨_, _, _, a_load_fld (gd_none rfl) rfl rfl rfl rfl rfl rfl rfl rfl rfl rfl rfl rfl rfl, (by first | rfl | kernel_rfl), ?_⟩) | (refine ⟨_, _, _, a_load_fullv (gd_none rfl) rfl rfl rfl rfl rfl rfl rfl rfl rfl, (by first | rfl | kernel_rfl), ?_⟩))
    (refine ⟨_, _, _, a_move (gd_none rfl) rfl rfl rfl rfl rfl, (by first | rfl | kernel_rfl), ?_⟩)
    (refine ⟨_, _, _, a_index (j := k) (gd_none rfl) rfl rfl rfl rfl rfl rfl rfl rfl rfl (hy') rfl (hsz2), (by first | rfl | kernel_rfl), ?_⟩)
    (first | (refine ⟨_, _, _, a_load_all (gd_none rfl) rfl rfl rfl rfl rfl rfl rfl rfl rfl rfl rfl rfl, (by first | rfl | kernel_rfl), ?_⟩) | (refine ⟨_, _, _, a_load_tok (gd_none rfl) rfl rfl rfl rfl rfl rfl rfl rfl rfl rfl rfl rfl rfl, (by first | rfl | kernel_rfl), ?_⟩) | (refine ⟨_, _, _, a_load_bp (gd_none rfl) rfl rfl rfl rfl rfl rfl rfl rfl rfl rfl rfl rfl, (by first | rfl | kernel_rfl), ?_⟩) | (refine ⟨_, _, _, a_load_ad (gd_none rfl) rfl rfl rfl rfl rfl rfl rfl rfl rfl, (by first | rfl | kernel_rfl), ?_⟩) | (refine ⟨_, _, _, a_load_ptr (gd_none rfl) rfl rfl rfl rfl rfl rfl rfl rfl rfl, (by first | rfl | kernel_rfl), ?_⟩) | (refine ⟨_, _, _, a_load_fld (gd_none rfl) rfl rfl rfl rfl rfl rfl rfl rfl rfl rfl rfl rfl rfl, (by first | rfl | kernel_rfl), ?_⟩) | (refine ⟨_, _, _, a_load_fullv (gd_none rfl) rfl rfl rfl rfl rfl rfl rfl rfl rfl, (by first | rfl | kernel_rfl), ?_⟩))
    (refine ⟨_, _, _, a_callO (gd_none rfl) rfl rfl rfl rfl rfl (ih x hxm (hr.2 x hxm) (hok.2 x hxm) y Lk (htr.2 y hym) hmk hbound hrk) (by repeat (first | exact trivial | refine ⟨rfl, ?_⟩)) (bst_lend _ _) (bst_leave _ _) (by first | rfl | kernel_rfl) (by first | rfl | kernel_rfl) (hnb_of (by first | rfl | kernel_rfl)), (by first | rfl | kernel_rfl), ?_⟩)
    (refine ⟨_, _, _, a_not (gd_none rfl) rfl rfl rfl rfl rfl, (by first | rfl | kernel_rfl), ?_⟩)
    refine ⟨by kernel_rfl, ?_⟩
    show AWp _ _ _ _ _ _ _
    rw [← hstep]
    refine awp_cond rfl (fun hb => ?_) (fun hb => ?_)
    · have hb : (mts (l.take (k + 1)) (t.l.take (k + 1)) L).1 = false := by simpa using hb
      rw [mts_stop (k + 1) hb]
      refine awp_seq (awp_region ?_)
      (refine ⟨_, _, _, a_assign (gd_none rfl) rfl rfl rfl rfl rfl, (by first | rfl | kernel_rfl), ?_⟩)
      show AWp _ _ _ _ _ _ _
      rw [hb]
      exact awp_ret ⟨.inr rfl, _, Wk.refl _, rfl, rfl, rfl, rfl, rfl, trivial⟩
    · have hb : (mts (l.take (k + 1)) (t.l.take (k + 1)) L).1 = true := by simpa using hb
      refine awp_skip ?_
      show AWp _ _ _ _ _ _ _
      refine awp_region ?_
      (refine ⟨_, _, _, a_add (gd_none rfl) rfl rfl rfl rfl rfl rfl (by first | omega | (simp only [List.length_map, List.length_append, List.length_cons, List.length_nil] <;> omega) | (simp <;> omega)), (by first | rfl | kernel_rfl), ?_⟩)
      (refine ⟨_, _, _, a_move (gd_none rfl) rfl rfl rfl rfl rfl, (by first | rfl | kernel_rfl), ?_⟩)
      exact ⟨hkl, hb, wk_sub ⟨rfl, rfl, rfl, rfl, rfl, rfl, rfl, rfl, rfl, rfl, rfl, rfl, trivial⟩⟩
  · have hkl : k = l.length := by
      have : ¬ k < l.length := by simpa using hlt
      omega
    subst hkl
    rw [List.take_length, hll, List.take_length] at hI ⊢
    refine awp_exit ?_
    show AWp _ _ _ _ _ _ _
    refine awp_seq (awp_region ?_)
    (refine ⟨_, _, _, a_assign (gd_none rfl) rfl rfl rfl rfl rfl, (by first | rfl | kernel_rfl), ?_⟩)
    show AWp _ _ _ _ _ _ _
    rw [hI]
    exact awp_ret ⟨.inr rfl, _, Wk.refl _, rfl, rfl, rfl, rfl, rfl, trivial⟩
end Go.Proofs.Ytgmllfjidhbjjab


namespace Go.Proofs.Ytgmllfjidhbjjab
open Go.RowKit
set_option linter.unusedVariables false
set_option linter.unusedSimpArgs false
set_option maxRecDepth 100000

def clB (b : Bd) : Bd := ⟨b.v, b.t.strip⟩
noncomputable def zB : CV := .row [.i 0, .row [.i 0, .lst []]]
noncomputable def tlL (L : List Bd) (k : Nat) : List CV := ((L.take k).map clB).map Bd.cv ++ List.replicate (L.length - k) zB
theorem behind_st (L : List Bd) : AFunO Try.prog 37 [] [.val (.lst (L.map Bd.cv))] (.bp 350001 0 []) (bst L.length L) := by
  rw [bst_A (Nat.le_refl _)]; exact behind_abs L
theorem behind_nil : AFunO Try.prog 37 [] [⟨0, .lst [], 1, 0, []⟩] (.bp 350001 0 []) (bst 0 []) := by
  have h := behind_st []
  refine ⟨h.1, fun U w hv a0 vs hU hpS hargs => h.2 U w hv a0 vs hU hpS ?_⟩
  obtain ⟨u, us, e, hu, h2⟩ := hargs
  have hu : VRep (Us w U (fun _ _ => False)) w (.lst []) u := hu.1
  exact ⟨u, us, e, avrep_val hu, h2⟩
-- 
theorem mIs_abs (W : World) (p t : Tm) (hr : p.rng) (hok : p.ok) (ht : t.rng) (hv : p.vs.length ≤ 65) : AFun Try.prog W 22 [p.cw, t.cw] (.val (.b (mt p t []).1)) := by
  refine afun_of (rs := [.b (mt p t []).1]) Try.func22 Try.ntmps22 rfl rfl rfl rfl ?_
  intro w U hW
  refine awp_seq (awp_region ?_)
  (refine ⟨_, _, _, a_box (gd_none rfl) rfl rfl rfl rfl rfl, (by first | rfl | kernel_rfl), ?_⟩)
  (refine ⟨_, _, _, a_box (gd_none rfl) rfl rfl rfl rfl rfl, (by first | rfl | kernel_rfl), ?_⟩)
  (refine ⟨_, _, _, a_assign (gd_none rfl) rfl rfl rfl rfl rfl, (by first | rfl | kernel_rfl), ?_⟩)
  show AWp _ _ _ _ _ _ _
  refine awp_seq (awp_draw (by kernel_rfl) (by kernel_rfl) ?_)
  (refine ⟨_, _, _, a_callO (gd_none rfl) rfl rfl rfl rfl rfl (behind_nil) (by repeat (first | exact trivial | refine ⟨rfl, ?_⟩)) (by first | rfl | kernel_rfl) (bst_leave _ _) (by first | rfl | kernel_rfl) (by first | rfl | kernel_rfl) (fun k v h => by first | (rw [hW.1] at h; cases h) | (have h2 := hU k v h; cases h2)), (by first | rfl | kernel_rfl), ?_⟩)
  (first | (refine ⟨_, _, _, a_load_all (gd_none rfl) rfl rfl rfl rfl rfl rfl rfl rfl rfl rfl rfl rfl, (by first | rfl | kernel_rfl), ?_⟩) | (refine ⟨_, _, _, a_load_tok (gd_none rfl) rfl rfl rfl rfl rfl rfl rfl rfl rfl rfl rfl rfl rfl, (by first | rfl | kernel_rfl), ?_⟩) | (refine ⟨_, _, _, a_load_bp (gd_none rfl) rfl rfl rfl rfl rfl rfl rfl rfl rfl rfl rfl rfl, (by first | rfl | kernel_rfl), ?_⟩) | (refine ⟨_, _, _, a_load_ad (gd_none rfl) rfl rfl rfl rfl rfl rfl rfl rfl rfl, (by first | rfl | kernel_rfl), ?_⟩) | (refine ⟨_, _, _, a_load_ptr (gd_none rfl) rfl rfl rfl rfl rfl rfl rfl rfl rfl, (by first | rfl | kernel_rfl), ?_⟩) | (refine ⟨_, _, _, a_load_fld (gd_none rfl) rfl rfl rfl rfl rfl rfl rfl rfl rfl rfl rfl rfl rfl, (by first | rfl | kernel_rfl), ?_⟩) | (refine ⟨_, _, _, a_load_fullv (gd_none rfl) rfl rfl rfl rfl rfl rfl rfl rfl rfl, (by first | rfl | kernel_rfl), ?_⟩))
  (first | (refine ⟨_, _, _, a_load_all (gd_none rfl) rfl rfl rfl rfl rfl rfl rfl rfl rfl rfl rfl rfl, (by first | rfl | kernel_rfl), ?_⟩) | (refine ⟨_, _, _, a_load_tok (gd_none rfl) rfl rfl rfl rfl rfl rfl rfl rfl rfl rfl rfl rfl rfl, (by first | rfl | kernel_rfl), ?_⟩) | (refine ⟨_, _, _, a_load_bp (gd_none rfl) rfl rfl rfl rfl rfl rfl rfl rfl rfl rfl rfl rfl, (by first | rfl | kernel_rfl), ?_⟩) | (refine ⟨_, _, _, a_load_ad (gd_none rfl) rfl rfl rfl rfl rfl rfl rfl rfl rfl, (by first | rfl | kernel_rfl), ?_⟩) | (refine ⟨_, _, _, a_load_ptr (gd_none rfl) rfl rfl rfl rfl rfl rfl rfl rfl rfl, (by first | rfl | kernel_rfl), ?_⟩) | (refine ⟨_, _, _, a_load_fld (gd_none rfl) rfl rfl rfl rfl rfl rfl rfl rfl rfl rfl rfl rfl rfl, (by first | rfl | kernel_rfl), ?_⟩) | (refine ⟨_, _, _, a_load_fullv (gd_none rfl) rfl rfl rfl rfl rfl rfl rfl rfl rfl, (by first | rfl | kernel_rfl), ?_⟩))
  (refine ⟨_, _, _, a_callO (gd_none rfl) rfl rfl rfl rfl rfl (mMatch_abs 0 p hr hok t [] ht (Nat.le_refl _) (by simpa using hv) (fun b hb => by cases hb)) (by repeat (first | exact trivial | refine ⟨rfl, ?_⟩)) (bst_lend _ _) (bst_leave _ _) (by first | rfl | kernel_rfl) (by first | rfl | kernel_rfl) (hnb_of (by first | rfl | kernel_rfl)), (by first | rfl | kernel_rfl), ?_⟩)
  (refine ⟨_, _, _, a_assign (gd_none rfl) rfl rfl rfl rfl rfl, (by first | rfl | kernel_rfl), ?_⟩)
  refine ⟨by kernel_rfl, ?_⟩
  show AWp _ _ _ _ _ _ _
  exact awp_ret ⟨.inr rfl, rfl⟩
/-- What Match tells. -/
noncomputable def matchL (L : List Bd) (p t : Tm) : List Bd := if (mt p t L).1 = true then (mt p t L).2.map clB else []
end Go.Proofs.Ytgmllfjidhbjjab


namespace Go.Proofs.Ytgmllfjidhbjjab
open Go.RowKit
set_option linter.unusedVariables false
set_option linter.unusedSimpArgs false
set_option maxRecDepth 100000

-- 
theorem clInt400002_abs (pl : List Int) (hl : pl.length ≤ 1000000) : AFunO Try.prog 55 [(400002, .mrow 3 1 (pl.map CV.i))] [.sl 400002 0 pl.length 1] (.val (.lst (pl.map CV.i))) [(400002, .mrow 3 1 (pl.map CV.i))] := by
  have hlm : (pl.map CV.i).length = pl.length := List.length_map ..
  refine afunO_of Try.func55 Try.ntmps55 rfl rfl rfl rfl rfl rfl ?_
  intro w U hU
  refine awp_seq (awp_region ?_)
  (refine ⟨_, _, _, a_assign (gd_none rfl) rfl rfl rfl rfl rfl, (by first | rfl | kernel_rfl), ?_⟩)
  show AWp _ _ _ _ _ _ _
  refine AWp.handle 1 400002 rfl rfl rfl rfl fun ao cap hcap hao => ?_
  have hao' : ao = none → pl.length = 0 ∧ cap = 0 := fun e => by have := hao e; rw [hlm] at this; exact this
  refine awp_seq (awp_seq (awp_region ?_))
  (refine ⟨_, _, _, a_move (gd_none rfl) rfl rfl rfl rfl rfl, (by first | rfl | kernel_rfl), ?_⟩)
  (refine ⟨_, _, _, a_nilS 1 (gd_none rfl) rfl rfl rfl rfl rfl rfl rfl rfl (hao'), (by first | rfl | kernel_rfl), ?_⟩)
  show AWp _ _ _ _ _ _ _
  cases ao with
  | none =>
    have hpl : pl = [] := List.eq_nil_of_length_eq_zero (hao' rfl).1
    subst hpl
    refine awp_cond rfl (fun hc => ?_) (fun hc => by cases hc)
    refine awp_seq (awp_region ?_)
    (refine ⟨_, _, _, a_assign (gd_none rfl) rfl rfl rfl rfl rfl, (by first | rfl | kernel_rfl), ?_⟩)
    show AWp _ _ _ _ _ _ _
    exact awp_ret ⟨.inr rfl, _, Wk.refl _, rfl, rfl, trivial⟩
  | some ad =>
    refine awp_cond rfl (fun hc => by cases hc) (fun hc => awp_skip ?_)
    show AWp _ _ _ _ _ _ _
    refine awp_seq (awp_region ?_)
    (refine ⟨_, _, _, a_bslice0 (gd_none rfl) rfl rfl rfl rfl rfl rfl rfl rfl, (by first | rfl | kernel_rfl), ?_⟩)
    (refine ⟨_, _, _, a_move (gd_none rfl) rfl rfl rfl rfl rfl, (by first | rfl | kernel_rfl), ?_⟩)
    (refine ⟨_, _, _, a_app0S (gd_none rfl) rfl rfl rfl rfl rfl rfl rfl rfl rfl rfl rfl rfl rfl rfl rfl (by first | rfl | omega | (simp only [List.length_set, List.length_map, List.length_append, List.length_cons, List.length_nil] <;> omega) | (simp <;> omega)) (by first | omega | (simp only [List.length_map, List.length_append, List.length_cons, List.length_nil] <;> omega) | (simp <;> omega)), (by first | rfl | kernel_rfl), ?_⟩)
    (refine ⟨_, _, _, a_assign (gd_none rfl) rfl rfl rfl rfl rfl, (by first | rfl | kernel_rfl), ?_⟩)
    show AWp _ _ _ _ _ _ _
    exact awp_ret ⟨.inr rfl, _, Wk.refl _, rfl, rfl, trivial⟩
-- 
theorem clInt400003_abs (pl : List Int) (hl : pl.length ≤ 1000000) : AFunO Try.prog 55 [(400003, .mrow 3 1 (pl.map CV.i))] [.sl 400003 0 pl.length 1] (.val (.lst (pl.map CV.i))) [(400003, .mrow 3 1 (pl.map CV.i))] := by
  have hlm : (pl.map CV.i).length = pl.length := List.length_map ..
  refine afunO_of Try.func55 Try.ntmps55 rfl rfl rfl rfl rfl rfl ?_
  intro w U hU
  refine awp_seq (awp_region ?_)
  (refine ⟨_, _, _, a_assign (gd_none rfl) rfl rfl rfl rfl rfl, (by first | rfl | kernel_rfl), ?_⟩)
  show AWp _ _ _ _ _ _ _
  refine AWp.handle 1 400003 rfl rfl rfl rfl fun ao cap hcap hao => ?_
  have hao' : ao = none → pl.length = 0 ∧ cap = 0 := fun e => by have := hao e; rw [hlm] at this; exact this
  refine awp_seq (awp_seq (awp_region ?_))
  (refine ⟨_, _, _, a_move (gd_none rfl) rfl rfl rfl rfl rfl, (by first | rfl | kernel_rfl), ?_⟩)
  (refine ⟨_, _, _, a_nilS 1 (gd_none rfl) rfl rfl rfl rfl rfl rfl rfl rfl (hao'), (by first | rfl | kernel_rfl), ?_⟩)
  show AWp _ _ _ _ _ _ _
  cases ao with
  | none =>
    have hpl : pl = [] := List.eq_nil_of_length_eq_zero (hao' rfl).1
    subst hpl
    refine awp_cond rfl (fun hc => ?_) (fun hc => by cases hc)
    refine awp_seq (awp_region ?_)
    (refine ⟨_, _, _, a_assign (gd_none rfl) rfl rfl rfl rfl rfl, (by first | rfl | kernel_rfl), ?_⟩)
    show AWp _ _ _ _ _ _ _
    exact awp_ret ⟨.inr rfl, _, Wk.refl _, rfl, rfl, trivial⟩
  | some ad =>
    refine awp_cond rfl (fun hc => by cases hc) (fun hc => awp_skip ?_)
    show AWp _ _ _ _ _ _ _
    refine awp_seq (awp_region ?_)
    (refine ⟨_, _, _, a_bslice0 (gd_none rfl) rfl rfl rfl rfl rfl rfl rfl rfl, (by first | rfl | kernel_rfl), ?_⟩)
    (refine ⟨_, _, _, a_move (gd_none rfl) rfl rfl rfl rfl rfl, (by first | rfl | kernel_rfl), ?_⟩)
    (refine ⟨_, _, _, a_app0S (gd_none rfl) rfl rfl rfl rfl rfl rfl rfl rfl rfl rfl rfl rfl rfl rfl rfl (by first | rfl | omega | (simp only [List.length_set, List.length_map, List.length_append, List.length_cons, List.length_nil] <;> omega) | (simp <;> omega)) (by first | omega | (simp only [List.length_map, List.length_append, List.length_cons, List.length_nil] <;> omega) | (simp <;> omega)), (by first | rfl | kernel_rfl), ?_⟩)
    (refine ⟨_, _, _, a_assign (gd_none rfl) rfl rfl rfl rfl rfl, (by first | rfl | kernel_rfl), ?_⟩)
    show AWp _ _ _ _ _ _ _
    exact awp_ret ⟨.inr rfl, _, Wk.refl _, rfl, rfl, trivial⟩
/-- The places at which a pattern matches, below a place. -/
noncomputable def pm (p : Tm) (t : Tm) : List Int → List (List Int) :=
  Tm.rec (motive_1 := fun _ => List Int → List (List Int)) (motive_2 := fun _ => Nat → List Int → List (List Int))
    (fun f l ih pl => if f < 0 then [] else (if (mt p ⟨f, l⟩ []).1 = true then [pl] else []) ++ ih 0 pl)
    (fun _ _ => [])
    (fun _ _ ih1 ih2 i pl => ih1 (pl ++ [(i : Int)]) ++ ih2 (i + 1) pl) t
noncomputable def pmL (p : Tm) (l : List Tm) : Nat → List Int → List (List Int) :=
  Tm.rec_1 (motive_1 := fun _ => List Int → List (List Int)) (motive_2 := fun _ => Nat → List Int → List (List Int))
    (fun f l ih pl => if f < 0 then [] else (if (mt p ⟨f, l⟩ []).1 = true then [pl] else []) ++ ih 0 pl)
    (fun _ _ => [])
    (fun _ _ ih1 ih2 i pl => ih1 (pl ++ [(i : Int)]) ++ ih2 (i + 1) pl) l
theorem pm_eq (p t : Tm) (pl : List Int) : pm p t pl = if t.f < 0 then [] else (if (mt p t []).1 = true then [pl] else []) ++ pmL p t.l 0 pl := by cases t; rfl
theorem pmL_nil (p : Tm) (i : Nat) (pl : List Int) : pmL p [] i pl = [] := rfl
theorem pmL_cons (p t : Tm) (l : List Tm) (i : Nat) (pl : List Int) : pmL p (t :: l) i pl = pm p t (pl ++ [(i : Int)]) ++ pmL p l (i + 1) pl := rfl
theorem pmL_take {p t : Tm} : ∀ {l : List Tm} {k : Nat} (i : Nat) (pl : List Int), l[k]? = some t → pmL p (l.take (k + 1)) i pl = pmL p (l.take k) i pl ++ pm p t (pl ++ [((i + k : Nat) : Int)])
  | [], k, i, pl, h => by simp at h
  | x :: l, 0, i, pl, h => by simp at h; subst h; rw [List.take_succ_cons, pmL_cons, List.take_zero, List.take_zero, pmL_nil, pmL_nil]; simp
  | x :: l, k + 1, i, pl, h => by
    rw [List.take_succ_cons, List.take_succ_cons, pmL_cons, pmL_cons, pmL_take (i + 1) pl (by simpa using h), List.append_assoc, show i + 1 + k = i + (k + 1) by omega]
noncomputable abbrev plv (p : List Int) : CV := .lst (p.map CV.i)
theorem plv_size (l : List (List Int)) : ∀ c ∈ l.map plv, c.size = 1 := fun c hc => by
  obtain ⟨p, _, rfl⟩ := List.mem_map.1 hc
  rfl
end Go.Proofs.Ytgmllfjidhbjjab


namespace Go.Proofs.Ytgmllfjidhbjjab
open Go.RowKit
set_option linter.unusedVariables false
set_option linter.unusedSimpArgs false
set_option maxRecDepth 100000

theorem pmL_lenI {p : Tm} : ∀ (l : List Tm) (i : Nat) (pl : List Int), (∀ t ∈ l, ∀ pl, (pm p t pl).length ≤ t.flat.length) → (pmL p l i pl).length ≤ (l.flatMap Tm.flat).length
  | [], _, _, _ => by simp [pmL_nil]
  | t :: l, i, pl, h => by
    rw [pmL_cons, List.length_append, List.flatMap_cons, List.length_append]
    have h1 := h t (by simp) (pl ++ [(i : Int)])
    have h2 := pmL_lenI l (i + 1) pl fun s hs => h s (List.mem_cons_of_mem _ hs)
    omega
theorem pm_len (p t : Tm) : ∀ pl, (pm p t pl).length ≤ t.flat.length := by
  induction t using Tm.ind with
  | h f l ih =>
    intro pl
    rw [pm_eq]
    split
    · simp
    · rename_i hf
      have h1 := pmL_lenI l 0 pl ih
      rw [Tm.flat_eq, Tm.ps_of_sym (by show 0 ≤ f; have : ¬ f < 0 := hf; omega), List.length_cons, List.length_append]
      have : (if (mt p ⟨f, l⟩ []).1 = true then [pl] else []).length ≤ 1 := by split <;> simp
      show _ + (pmL p l 0 pl).length ≤ (l.flatMap Tm.flat).length + 1
      omega
theorem pmL_len (p : Tm) (l : List Tm) (i : Nat) (pl : List Int) : (pmL p l i pl).length ≤ (l.flatMap Tm.flat).length := pmL_lenI l i pl fun t _ => pm_len p t
theorem pm_sizes {f : Int} {l : List Tm} (hf : ¬ f < 0) {k : Nat} {x : Tm} (hx : l[k]? = some x) : 1 + ((l.take k).flatMap Tm.flat).length + x.size ≤ (Tm.mk f l).size := by
  have h1 : (Tm.mk f l).size = 1 + (l.flatMap Tm.flat).length := by rw [Tm.size_eq, Tm.ps_of_sym (by show 0 ≤ f; omega)]
  have h2 : (l.flatMap Tm.flat).length = ((l.take k).flatMap Tm.flat).length + ((l.drop k).flatMap Tm.flat).length := by
    conv => lhs; rw [← List.take_append_drop k l]
    rw [List.flatMap_append, List.length_append]
  have h3 : x.flat.length ≤ ((l.drop k).flatMap Tm.flat).length := flatMap_len_mem Tm.flat (List.mem_of_getElem? (i := 0) (by rw [List.getElem?_drop]; simpa using hx))
  have h4 : x.flat.length = x.size := rfl
  omega
theorem hUno9 {U : UX} {pre : List Nat} (hU : ∀ k v, U.f k = some v → hasN pre k = true) {n : Nat} (h : hasN pre n = false) : U.f n = none := by
  cases e : U.f n with
  | none => rfl
  | some v => rw [hU n v e] at h; cases h
-- 
set_option maxHeartbeats 8000000 in
theorem addParts_abs (p : Tm) (hpr : p.rng) (hpo : p.ok) (hpv : p.vs.length ≤ 65) : ∀ t : Tm, t.rng → t.ok → ∀ (Ls : List (List Int)) (pl : List Int), Ls.length + t.size ≤ 1000000 → pl.length + t.size ≤ 1000000 → AFunO Try.prog 34 [(300001, .mrow 29 1 ((Ls).map plv)), (400002, .mrow 3 1 ((pl).map CV.i))] [.sl 300001 0 (Ls).length 1, .sl 400002 0 (pl).length 1, .val p.cw, .val (t).cw] (.sl 300001 0 (Ls ++ pm p t pl).length 1) [(300001, .mrow 29 1 ((Ls ++ pm p t pl).map plv)), (400002, .mrow 3 1 ((pl).map CV.i))] ∧ AFunO Try.prog 34 [(300001, .mrow 29 1 ((Ls).map plv)), (400003, .mrow 3 1 ((pl).map CV.i))] [.sl 300001 0 (Ls).length 1, .sl 400003 0 (pl).length 1, .val p.cw, .val (t).cw] (.sl 300001 0 (Ls ++ pm p t pl).length 1) [(300001, .mrow 29 1 ((Ls ++ pm p t pl).map plv)), (400003, .mrow 3 1 ((pl).map CV.i))] := by
  intro t
  induction t using Tm.ind with
  | h f l ih =>
  intro hr hok Ls pl hb1 hb2
  have hr' := (Tm.rng_iff _).1 hr
  have hok' := (Tm.ok_iff _).1 hok
  simp only at hr' hok'
  have hsz := Tm.size_all l
  constructor
  · refine afunO_of Try.func34 Try.ntmps34 rfl rfl rfl rfl rfl rfl ?_
    intro w U hU
    have hfY : U.f 400003 = none := hUno9 hU (by kernel_rfl)
    refine awp_seq (awp_region ?_)
    (refine ⟨_, _, _, a_box (gd_none rfl) rfl rfl rfl rfl rfl, (by first | rfl | kernel_rfl), ?_⟩)
    (refine ⟨_, _, _, a_box (gd_none rfl) rfl rfl rfl rfl rfl, (by first | rfl | kernel_rfl), ?_⟩)
    (refine ⟨_, _, _, a_assign (gd_none rfl) rfl rfl rfl rfl rfl, (by first | rfl | kernel_rfl), ?_⟩)
    show AWp _ _ _ _ _ _ _
    refine awp_seq (awp_seq (awp_region ?_))
    (first | (refine ⟨_, _, _, a_load_all (gd_none rfl) rfl rfl rfl rfl rfl rfl rfl rfl rfl rfl rfl rfl, (by first | rfl | kernel_rfl), ?_⟩) | (refine ⟨_, _, _, a_load_tok (gd_none rfl) rfl rfl rfl rfl rfl rfl rfl rfl rfl rfl rfl rfl rfl, (by first | rfl | kernel_rfl), ?_⟩) | (refine ⟨_, _, _, a_load_bp (gd_none rfl) rfl rfl rfl rfl rfl rfl rfl rfl rfl rfl rfl rfl, (by first | rfl | kernel_rfl), ?_⟩) | (refine ⟨_, _, _, a_load_ad (gd_none rfl) rfl rfl rfl rfl rfl rfl rfl rfl rfl, (by first | rfl | kernel_rfl), ?_⟩) | (refine ⟨_, _, _, a_load_ptr (gd_none rfl) rfl rfl rfl rfl rfl rfl rfl rfl rfl, (by first | rfl | kernel_rfl), ?_⟩) | (refine ⟨_, _, _, a_load_fld (gd_none rfl) rfl rfl rfl rfl rfl rfl rfl rfl rfl rfl rfl rfl rfl, (by first | rfl | kernel_rfl), ?_⟩) | (refine ⟨_, _, _, a_load_fullv (gd_none rfl) rfl rfl rfl rfl rfl rfl rfl rfl rfl, (by first | rfl | kernel_rfl), ?_⟩))
    (refine ⟨_, _, _, a_call (gd_none rfl) rfl rfl rfl rfl rfl (mIsVar_abs w ⟨f, l⟩), (by first | rfl | kernel_rfl), ?_⟩)
    show AWp _ _ _ _ _ _ _
    refine awp_cond rfl (fun hc => ?_) (fun hc => ?_)
    · have hf : f < 0 := by simpa using hc
      rw [pm_eq, if_pos hf, List.append_nil]
      refine awp_seq (awp_region ?_)
      (refine ⟨_, _, _, a_move (gd_none rfl) rfl rfl rfl rfl rfl, (by first | rfl | kernel_rfl), ?_⟩)
      (refine ⟨_, _, _, a_assign (gd_none rfl) rfl rfl rfl rfl rfl, (by first | rfl | kernel_rfl), ?_⟩)
      show AWp _ _ _ _ _ _ _
      exact awp_ret ⟨.inr rfl, _, Wk.refl _, rfl, rfl, rfl, trivial⟩
    have hf : ¬ f < 0 := by simpa using hc
    rw [pm_eq, if_neg hf]
    refine awp_skip ?_
    show AWp _ _ _ _ _ _ _
    have his := mIs_abs w p ⟨f, l⟩ hpr hpo hr hpv
    obtain ⟨L0, hL0⟩ : ∃ L0, L0 = Ls ++ (if (mt p ⟨f, l⟩ []).1 = true then [pl] else []) := ⟨_, rfl⟩
    rw [← List.append_assoc, ← hL0]
    have hL0l : L0.length ≤ Ls.length + 1 := by rw [hL0]; split <;> simp
    refine awp_mid ((0, AV.sl 300001 0 (L0).length 1) :: (1, .sl 400002 0 pl.length 1) :: (6, .bp 6 0 []) :: (100006, .bx p.cw) :: (7, .bp 7 0 []) :: (100007, .bx (Tm.cw ⟨f, l⟩)) :: (300001, .mrow 29 1 ((L0).map plv)) :: (400002, .mrow 3 1 (pl.map CV.i)) :: []) ?_ ?_
    · refine awp_seq (awp_region ?_)
      (first | (refine ⟨_, _, _, a_load_all (gd_none rfl) rfl rfl rfl rfl rfl rfl rfl rfl rfl rfl rfl rfl, (by first | rfl | kernel_rfl), ?_⟩) | (refine ⟨_, _, _, a_load_tok (gd_none rfl) rfl rfl rfl rfl rfl rfl rfl rfl rfl rfl rfl rfl rfl, (by first | rfl | kernel_rfl), ?_⟩) | (refine ⟨_, _, _, a_load_bp (gd_none rfl) rfl rfl rfl rfl rfl rfl rfl rfl rfl rfl rfl rfl, (by first | rfl | kernel_rfl), ?_⟩) | (refine ⟨_, _, _, a_load_ad (gd_none rfl) rfl rfl rfl rfl rfl rfl rfl rfl rfl, (by first | rfl | kernel_rfl), ?_⟩) | (refine ⟨_, _, _, a_load_ptr (gd_none rfl) rfl rfl rfl rfl rfl rfl rfl rfl rfl, (by first | rfl | kernel_rfl), ?_⟩) | (refine ⟨_, _, _, a_load_fld (gd_none rfl) rfl rfl rfl rfl rfl rfl rfl rfl rfl rfl rfl rfl rfl, (by first | rfl | kernel_rfl), ?_⟩) | (refine ⟨_, _, _, a_load_fullv (gd_none rfl) rfl rfl rfl rfl rfl rfl rfl rfl rfl, (by first | rfl | kernel_rfl), ?_⟩))
      (first | (refine ⟨_, _, _, a_load_all (gd_none rfl) rfl rfl rfl rfl rfl rfl rfl rfl rfl rfl rfl rfl, (by first | rfl | kernel_rfl), ?_⟩) | (refine ⟨_, _, _, a_load_tok (gd_none rfl) rfl rfl rfl rfl rfl rfl rfl rfl rfl rfl rfl rfl rfl, (by first | rfl | kernel_rfl), ?_⟩) | (refine ⟨_, _, _, a_load_bp (gd_none rfl) rfl rfl rfl rfl rfl rfl rfl rfl rfl rfl rfl rfl, (by first | rfl | kernel_rfl), ?_⟩) | (refine ⟨_, _, _, a_load_ad (gd_none rfl) rfl rfl rfl rfl rfl rfl rfl rfl rfl, (by first | rfl | kernel_rfl), ?_⟩) | (refine ⟨_, _, _, a_load_ptr (gd_none rfl) rfl rfl rfl rfl rfl rfl rfl rfl rfl, (by first | rfl | kernel_rfl), ?_⟩) | (refine ⟨_, _, _, a_load_fld (gd_none rfl) rfl rfl rfl rfl rfl rfl rfl rfl rfl rfl rfl rfl rfl, (by first | rfl | kernel_rfl), ?_⟩) | (refine ⟨_, _, _, a_load_fullv (gd_none rfl) rfl rfl rfl rfl rfl rfl rfl rfl rfl, (by first | rfl | kernel_rfl), ?_⟩))
      (refine ⟨_, _, _, a_call (gd_none rfl) rfl rfl rfl rfl rfl (his), (by first | rfl | kernel_rfl), ?_⟩)
      show AWp _ _ _ _ _ _ _
      cases hm : (mt p ⟨f, l⟩ []).1 with
      | false =>
        rw [hm, if_neg (by simp), List.append_nil] at hL0
        rw [hL0]
        refine awp_cond rfl (fun hc => by cases hc) (fun hc => awp_skip ?_)
        exact wk_sub ⟨rfl, rfl, rfl, rfl, rfl, rfl, rfl, rfl, trivial⟩
      | true =>
        rw [hm, if_pos rfl] at hL0
        have hlp := plv_size Ls
        have hlm : (Ls.map plv).length = Ls.length := List.length_map ..
        refine awp_cond rfl (fun hc => ?_) (fun hc => by cases hc)
        refine awp_region ?_
        (refine ⟨_, _, _, a_move (gd_none rfl) rfl rfl rfl rfl rfl, (by first | rfl | kernel_rfl), ?_⟩)
        (refine ⟨_, _, _, a_move (gd_none rfl) rfl rfl rfl rfl rfl, (by first | rfl | kernel_rfl), ?_⟩)
        (refine ⟨_, _, _, a_callO (gd_none rfl) rfl rfl rfl rfl rfl (clInt400002_abs pl (by omega)) (by repeat (first | exact trivial | refine ⟨rfl, ?_⟩)) (by first | rfl | kernel_rfl) (by first | rfl | kernel_rfl) (by first | rfl | kernel_rfl) (by first | rfl | kernel_rfl) (hnb_of (by first | rfl | kernel_rfl)), (by first | rfl | kernel_rfl), ?_⟩)
        (refine ⟨_, _, _, a_bslice (gd_none rfl) rfl rfl rfl rfl rfl rfl rfl rfl rfl rfl rfl rfl rfl, (by first | rfl | kernel_rfl), ?_⟩)
        (refine ⟨_, _, _, a_appM 300021 (gd_none rfl) rfl rfl rfl rfl rfl rfl rfl rfl rfl rfl rfl rfl rfl (by first | rfl | omega | (simp only [List.length_set, List.length_map, List.length_append, List.length_cons, List.length_nil] <;> omega) | (simp <;> omega)) (by first | assumption | exact szAll_spec rfl | exact Tm.size_all _ | exact Bd.size_all _ | exact ints_size _) (by first | omega | (simp only [List.length_map, List.length_append, List.length_cons, List.length_nil] <;> omega) | (simp <;> omega)), (by first | rfl | kernel_rfl), ?_⟩)
        (refine ⟨_, _, _, a_assign (gd_none rfl) rfl rfl rfl rfl rfl, (by first | rfl | kernel_rfl), ?_⟩)
        refine (wk_sub (s' := (0, AV.sl 300021 0 L0.length 1) :: (1, .sl 400002 0 pl.length 1) :: (6, .bp 6 0 []) :: (100006, .bx p.cw) :: (7, .bp 7 0 []) :: (100007, .bx (Tm.cw ⟨f, l⟩)) :: (300021, .mrow 29 1 (L0.map plv)) :: (400002, .mrow 3 1 (pl.map CV.i)) :: []) ⟨?_, rfl, rfl, rfl, rfl, rfl, ?_, rfl, trivial⟩).trans (wk_ren 300021 300001 rfl rfl (by kernel_rfl) (by kernel_rfl))
        · rw [hL0, List.length_append, ← hlm]; rfl
        · rw [hL0, List.map_append]; rfl
    refine awp_seq (awp_seq (awp_region ?_))
    (first | (refine ⟨_, _, _, a_field_bp (gd_none rfl) rfl rfl rfl rfl rfl rfl rfl rfl rfl, (by first | rfl | kernel_rfl), ?_⟩) | (refine ⟨_, _, _, a_field_ad (gd_none rfl) rfl rfl rfl rfl rfl rfl rfl rfl rfl rfl rfl, (by first | rfl | kernel_rfl), ?_⟩) | (refine ⟨_, _, _, a_fieldM (gd_none rfl) rfl rfl rfl rfl rfl rfl rfl rfl rfl, (by first | rfl | kernel_rfl), ?_⟩))
    (first | (refine ⟨_, _, _, a_load_all (gd_none rfl) rfl rfl rfl rfl rfl rfl rfl rfl rfl rfl rfl rfl, (by first | rfl | kernel_rfl), ?_⟩) | (refine ⟨_, _, _, a_load_tok (gd_none rfl) rfl rfl rfl rfl rfl rfl rfl rfl rfl rfl rfl rfl rfl, (by first | rfl | kernel_rfl), ?_⟩) | (refine ⟨_, _, _, a_load_bp (gd_none rfl) rfl rfl rfl rfl rfl rfl rfl rfl rfl rfl rfl rfl, (by first | rfl | kernel_rfl), ?_⟩) | (refine ⟨_, _, _, a_load_ad (gd_none rfl) rfl rfl rfl rfl rfl rfl rfl rfl rfl, (by first | rfl | kernel_rfl), ?_⟩) | (refine ⟨_, _, _, a_load_ptr (gd_none rfl) rfl rfl rfl rfl rfl rfl rfl rfl rfl, (by first | rfl | kernel_rfl), ?_⟩) | (refine ⟨_, _, _, a_load_fld (gd_none rfl) rfl rfl rfl rfl rfl rfl rfl rfl rfl rfl rfl rfl rfl, (by first | rfl | kernel_rfl), ?_⟩) | (refine ⟨_, _, _, a_load_fullv (gd_none rfl) rfl rfl rfl rfl rfl rfl rfl rfl rfl, (by first | rfl | kernel_rfl), ?_⟩))
    (first | (refine ⟨_, _, _, a_len (gd_none rfl) rfl rfl rfl rfl rfl rfl rfl, (by first | rfl | kernel_rfl), ?_⟩) | (refine ⟨_, _, _, a_lenM (gd_none rfl) rfl rfl rfl rfl rfl rfl rfl, (by first | rfl | kernel_rfl), ?_⟩))
    (refine ⟨_, _, _, a_move (gd_none rfl) rfl rfl rfl rfl rfl, (by first | rfl | kernel_rfl), ?_⟩)
    show AWp _ _ _ _ _ _ _
    refine awp_block (awp_count l.length (fun k => (0, AV.sl 300001 0 (L0 ++ pmL p (l.take k) 0 pl).length 1) :: (1, .sl 400002 0 pl.length 1) :: (6, .bp 6 0 []) :: (100006, .bx p.cw) :: (7, .bp 7 0 []) :: (100007, .bx (Tm.cw ⟨f, l⟩)) :: (23, .val (.lst (l.map Tm.cv))) :: (24, .val (.i (l.map Tm.cv).length)) :: (25, .val (.i (k))) :: (300001, .mrow 29 1 ((L0 ++ pmL p (l.take k) 0 pl).map plv)) :: (400002, .mrow 3 1 (pl.map CV.i)) :: []) (wk_sub ⟨?_, rfl, rfl, rfl, rfl, rfl, rfl, rfl, rfl, ?_, rfl, trivial⟩) ?_)
    · rw [List.take_zero, pmL_nil, List.append_nil]; rfl
    · rw [List.take_zero, pmL_nil, List.append_nil]; rfl
    intro k hk
    refine awp_seq (awp_region ?_)
    (refine ⟨_, _, _, a_lss (gd_none rfl) rfl rfl rfl rfl rfl rfl, (by first | rfl | kernel_rfl), ?_⟩)
    show AWp _ _ _ _ _ _ _
    refine awp_seq (awp_cond rfl (fun hlt => ?_) (fun hlt => ?_))
    · have hkl : k < l.length := by simpa using hlt
      obtain ⟨x, hx⟩ : ∃ x, l[k]? = some x := ⟨l[k], List.getElem?_eq_getElem hkl⟩
      have hx' := Tm.map_at hx
      have hxm := List.mem_of_getElem? hx
      obtain ⟨Lk, hLk⟩ : ∃ Lk, Lk = L0 ++ pmL p (l.take k) 0 pl := ⟨_, rfl⟩
      have hstep : L0 ++ pmL p (l.take (k + 1)) 0 pl = Lk ++ pm p x (pl ++ [(k : Int)]) := by rw [pmL_take 0 pl hx, ← List.append_assoc, ← hLk, Nat.zero_add]
      have hszs := pm_sizes hf hx
      have hpk := pmL_len p (l.take k) 0 pl
      have hLkl : Lk.length ≤ L0.length + ((l.take k).flatMap Tm.flat).length := by rw [hLk, List.length_append]; omega
      have hcall := (ih x hxm (hr'.2 x hxm) (hok'.2 x hxm) Lk (pl ++ [(k : Int)]) (by omega) (by rw [List.length_append]; simp only [List.length_cons, List.length_nil]; omega)).2
      have hpe : (pl ++ [(k : Int)]).length = (pl.map CV.i).length + [CV.i (k : Int)].length := by simp
      rw [hpe, List.map_append] at hcall
      have hlm : (pl.map CV.i).length = pl.length := List.length_map ..
      rw [← hLk]
      refine awp_skip ?_
      show AWp _ _ _ _ _ _ _
      refine awp_seq (awp_block (awp_seq (awp_region ?_)))
      (refine ⟨_, _, _, a_move (gd_none rfl) rfl rfl rfl rfl rfl, (by first | rfl | kernel_rfl), ?_⟩)
      (refine ⟨_, _, _, a_index (j := k) (gd_none rfl) rfl rfl rfl rfl rfl rfl rfl rfl rfl (hx') rfl (hsz), (by first | rfl | kernel_rfl), ?_⟩)
      (first | (refine ⟨_, _, _, a_load_all (gd_none rfl) rfl rfl rfl rfl rfl rfl rfl rfl rfl rfl rfl rfl, (by first | rfl | kernel_rfl), ?_⟩) | (refine ⟨_, _, _, a_load_tok (gd_none rfl) rfl rfl rfl rfl rfl rfl rfl rfl rfl rfl rfl rfl rfl, (by first | rfl | kernel_rfl), ?_⟩) | (refine ⟨_, _, _, a_load_bp (gd_none rfl) rfl rfl rfl rfl rfl rfl rfl rfl rfl rfl rfl rfl, (by first | rfl | kernel_rfl), ?_⟩) | (refine ⟨_, _, _, a_load_ad (gd_none rfl) rfl rfl rfl rfl rfl rfl rfl rfl rfl, (by first | rfl | kernel_rfl), ?_⟩) | (refine ⟨_, _, _, a_load_ptr (gd_none rfl) rfl rfl rfl rfl rfl rfl rfl rfl rfl, (by first | rfl | kernel_rfl), ?_⟩) | (refine ⟨_, _, _, a_load_fld (gd_none rfl) rfl rfl rfl rfl rfl rfl rfl rfl rfl rfl rfl rfl rfl, (by first | rfl | kernel_rfl), ?_⟩) | (refine ⟨_, _, _, a_load_fullv (gd_none rfl) rfl rfl rfl rfl rfl rfl rfl rfl rfl, (by first | rfl | kernel_rfl), ?_⟩))
      (refine ⟨_, _, _, a_alloc (gd_none rfl) rfl rfl rfl rfl rfl rfl rfl rfl rfl rfl, (by first | rfl | kernel_rfl), ?_⟩)
      (refine ⟨_, _, _, a_assign (gd_none rfl) rfl rfl rfl rfl rfl, (by first | rfl | kernel_rfl), ?_⟩)
      (first | (refine ⟨_, _, _, a_store_all (gd_none rfl) rfl rfl rfl rfl rfl rfl rfl rfl rfl rfl, (by first | rfl | kernel_rfl), ?_⟩) | (refine ⟨_, _, _, a_store (gd_none rfl) rfl rfl rfl rfl rfl rfl rfl rfl rfl rfl, (by first | rfl | kernel_rfl), ?_⟩) | (refine ⟨_, _, _, a_store_fld (gd_none rfl) rfl rfl rfl rfl rfl rfl rfl rfl rfl rfl rfl rfl, (by first | rfl | kernel_rfl), ?_⟩))
      show AWp _ _ _ _ _ _ _
      refine AWp.handle 4 400002 rfl rfl rfl rfl fun ao cap hcap hao => ?_
      rcases Nat.lt_or_ge (pl.map CV.i).length cap with hroom | hroom
      · refine awp_draw (by kernel_rfl) (by kernel_rfl) ?_
        (refine ⟨_, _, _, a_move (gd_none rfl) rfl rfl rfl rfl rfl, (by first | rfl | kernel_rfl), ?_⟩)
        (refine ⟨_, _, _, a_move (gd_none rfl) rfl rfl rfl rfl rfl, (by first | rfl | kernel_rfl), ?_⟩)
        (refine ⟨_, _, _, a_move (gd_none rfl) rfl rfl rfl rfl rfl, (by first | rfl | kernel_rfl), ?_⟩)
        (refine ⟨_, _, _, a_bslice (gd_none rfl) rfl rfl rfl rfl rfl rfl rfl rfl rfl rfl rfl rfl rfl, (by first | rfl | kernel_rfl), ?_⟩)
        (refine ⟨_, _, _, a_appR 400003 4 5 (gd_none rfl) rfl rfl rfl rfl rfl rfl rfl rfl rfl rfl rfl rfl rfl (hfY) (by first | rfl | omega | (simp only [List.length_set, List.length_map, List.length_append, List.length_cons, List.length_nil] <;> omega) | (simp <;> omega)) (by first | assumption | exact szAll_spec rfl | exact Tm.size_all _ | exact Bd.size_all _ | exact ints_size _) (by simp) (hroom), (by first | rfl | kernel_rfl), ?_⟩)
        (first | (refine ⟨_, _, _, a_load_all (gd_none rfl) rfl rfl rfl rfl rfl rfl rfl rfl rfl rfl rfl rfl, (by first | rfl | kernel_rfl), ?_⟩) | (refine ⟨_, _, _, a_load_tok (gd_none rfl) rfl rfl rfl rfl rfl rfl rfl rfl rfl rfl rfl rfl rfl, (by first | rfl | kernel_rfl), ?_⟩) | (refine ⟨_, _, _, a_load_bp (gd_none rfl) rfl rfl rfl rfl rfl rfl rfl rfl rfl rfl rfl rfl, (by first | rfl | kernel_rfl), ?_⟩) | (refine ⟨_, _, _, a_load_ad (gd_none rfl) rfl rfl rfl rfl rfl rfl rfl rfl rfl, (by first | rfl | kernel_rfl), ?_⟩) | (refine ⟨_, _, _, a_load_ptr (gd_none rfl) rfl rfl rfl rfl rfl rfl rfl rfl rfl, (by first | rfl | kernel_rfl), ?_⟩) | (refine ⟨_, _, _, a_load_fld (gd_none rfl) rfl rfl rfl rfl rfl rfl rfl rfl rfl rfl rfl rfl rfl, (by first | rfl | kernel_rfl), ?_⟩) | (refine ⟨_, _, _, a_load_fullv (gd_none rfl) rfl rfl rfl rfl rfl rfl rfl rfl rfl, (by first | rfl | kernel_rfl), ?_⟩))
        (first | (refine ⟨_, _, _, a_load_all (gd_none rfl) rfl rfl rfl rfl rfl rfl rfl rfl rfl rfl rfl rfl, (by first | rfl | kernel_rfl), ?_⟩) | (refine ⟨_, _, _, a_load_tok (gd_none rfl) rfl rfl rfl rfl rfl rfl rfl rfl rfl rfl rfl rfl rfl, (by first | rfl | kernel_rfl), ?_⟩) | (refine ⟨_, _, _, a_load_bp (gd_none rfl) rfl rfl rfl rfl rfl rfl rfl rfl rfl rfl rfl rfl, (by first | rfl | kernel_rfl), ?_⟩) | (refine ⟨_, _, _, a_load_ad (gd_none rfl) rfl rfl rfl rfl rfl rfl rfl rfl rfl, (by first | rfl | kernel_rfl), ?_⟩) | (refine ⟨_, _, _, a_load_ptr (gd_none rfl) rfl rfl rfl rfl rfl rfl rfl rfl rfl, (by first | rfl | kernel_rfl), ?_⟩) | (refine ⟨_, _, _, a_load_fld (gd_none rfl) rfl rfl rfl rfl rfl rfl rfl rfl rfl rfl rfl rfl rfl, (by first | rfl | kernel_rfl), ?_⟩) | (refine ⟨_, _, _, a_load_fullv (gd_none rfl) rfl rfl rfl rfl rfl rfl rfl rfl rfl, (by first | rfl | kernel_rfl), ?_⟩))
        (refine ⟨_, _, _, a_callOD ([0, 30]) (gd_none rfl) rfl rfl rfl rfl rfl (hcall) (by repeat (first | exact trivial | refine ⟨rfl, ?_⟩)) (by first | rfl | kernel_rfl) (by first | rfl | kernel_rfl) (by first | rfl | kernel_rfl) (by first | rfl | kernel_rfl) (hnb_of (by first | rfl | kernel_rfl)) (by first | rfl | kernel_rfl) (by first | rfl | kernel_rfl) (by first | rfl | kernel_rfl), (by first | rfl | kernel_rfl), ?_⟩)
        (refine ⟨_, _, _, a_assign (gd_none rfl) rfl rfl rfl rfl rfl, (by first | rfl | kernel_rfl), ?_⟩)
        refine ⟨by kernel_rfl, ?_⟩
        show AWp _ _ _ _ _ _ _
        refine AWp.wk (wk_again 400002 400003 4 5 (pl.map CV.i).length rfl rfl rfl rfl rfl rfl rfl (by simp)) ?_
        refine awp_region ?_
        (refine ⟨_, _, _, a_add (gd_none rfl) rfl rfl rfl rfl rfl rfl (by first | omega | (simp only [List.length_map, List.length_append, List.length_cons, List.length_nil] <;> omega) | (simp <;> omega)), (by first | rfl | kernel_rfl), ?_⟩)
        (refine ⟨_, _, _, a_move (gd_none rfl) rfl rfl rfl rfl rfl, (by first | rfl | kernel_rfl), ?_⟩)
        refine ⟨hkl, ?_⟩
        show Wk _ _ _ _ ((0, AV.sl 300001 0 (L0 ++ pmL p (l.take (k + 1)) 0 pl).length 1) :: (1, .sl 400002 0 pl.length 1) :: (6, .bp 6 0 []) :: (100006, .bx p.cw) :: (7, .bp 7 0 []) :: (100007, .bx (Tm.cw ⟨f, l⟩)) :: (23, .val (.lst (l.map Tm.cv))) :: (24, .val (.i (l.map Tm.cv).length)) :: (25, .val (.i (((k + 1 : Nat) : Int)))) :: (300001, .mrow 29 1 ((L0 ++ pmL p (l.take (k + 1)) 0 pl).map plv)) :: (400002, .mrow 3 1 (pl.map CV.i)) :: [])
        rw [hstep]
        refine wk_sub ⟨rfl, rfl, rfl, rfl, rfl, rfl, rfl, rfl, rfl, rfl, ?_, trivial⟩
        show some (AV.mrow 3 1 ((pl.map CV.i ++ [CV.i (k : Int)]).take (pl.map CV.i).length)) = _
        rw [List.take_left' rfl]
      · have hce : cap = (pl.map CV.i).length := by omega
        subst hce
        refine awp_draw (by kernel_rfl) (by kernel_rfl) ?_
        (refine ⟨_, _, _, a_move (gd_none rfl) rfl rfl rfl rfl rfl, (by first | rfl | kernel_rfl), ?_⟩)
        (refine ⟨_, _, _, a_move (gd_none rfl) rfl rfl rfl rfl rfl, (by first | rfl | kernel_rfl), ?_⟩)
        (refine ⟨_, _, _, a_move (gd_none rfl) rfl rfl rfl rfl rfl, (by first | rfl | kernel_rfl), ?_⟩)
        (refine ⟨_, _, _, a_bslice (gd_none rfl) rfl rfl rfl rfl rfl rfl rfl rfl rfl rfl rfl rfl rfl, (by first | rfl | kernel_rfl), ?_⟩)
        (refine ⟨_, _, _, a_appX 400003 4 (gd_none rfl) rfl rfl rfl rfl rfl rfl rfl rfl rfl rfl rfl rfl rfl rfl (hfY) (by first | rfl | omega | (simp only [List.length_set, List.length_map, List.length_append, List.length_cons, List.length_nil] <;> omega) | (simp <;> omega)) (by first | assumption | exact szAll_spec rfl | exact Tm.size_all _ | exact Bd.size_all _ | exact ints_size _) (by simp) (by first | omega | (simp only [List.length_map, List.length_append, List.length_cons, List.length_nil] <;> omega) | (simp <;> omega)), (by first | rfl | kernel_rfl), ?_⟩)
        (first | (refine ⟨_, _, _, a_load_all (gd_none rfl) rfl rfl rfl rfl rfl rfl rfl rfl rfl rfl rfl rfl, (by first | rfl | kernel_rfl), ?_⟩) | (refine ⟨_, _, _, a_load_tok (gd_none rfl) rfl rfl rfl rfl rfl rfl rfl rfl rfl rfl rfl rfl rfl, (by first | rfl | kernel_rfl), ?_⟩) | (refine ⟨_, _, _, a_load_bp (gd_none rfl) rfl rfl rfl rfl rfl rfl rfl rfl rfl rfl rfl rfl, (by first | rfl | kernel_rfl), ?_⟩) | (refine ⟨_, _, _, a_load_ad (gd_none rfl) rfl rfl rfl rfl rfl rfl rfl rfl rfl, (by first | rfl | kernel_rfl), ?_⟩) | (refine ⟨_, _, _, a_load_ptr (gd_none rfl) rfl rfl rfl rfl rfl rfl rfl rfl rfl, (by first | rfl | kernel_rfl), ?_⟩) | (refine ⟨_, _, _, a_load_fld (gd_none rfl) rfl rfl rfl rfl rfl rfl rfl rfl rfl rfl rfl rfl rfl, (by first | rfl | kernel_rfl), ?_⟩) | (refine ⟨_, _, _, a_load_fullv (gd_none rfl) rfl rfl rfl rfl rfl rfl rfl rfl rfl, (by first | rfl | kernel_rfl), ?_⟩))
        (first | (refine ⟨_, _, _, a_load_all (gd_none rfl) rfl rfl rfl rfl rfl rfl rfl rfl rfl rfl rfl rfl, (by first | rfl | kernel_rfl), ?_⟩) | (refine ⟨_, _, _, a_load_tok (gd_none rfl) rfl rfl rfl rfl rfl rfl rfl rfl rfl rfl rfl rfl rfl, (by first | rfl | kernel_rfl), ?_⟩) | (refine ⟨_, _, _, a_load_bp (gd_none rfl) rfl rfl rfl rfl rfl rfl rfl rfl rfl rfl rfl rfl, (by first | rfl | kernel_rfl), ?_⟩) | (refine ⟨_, _, _, a_load_ad (gd_none rfl) rfl rfl rfl rfl rfl rfl rfl rfl rfl, (by first | rfl | kernel_rfl), ?_⟩) | (refine ⟨_, _, _, a_load_ptr (gd_none rfl) rfl rfl rfl rfl rfl rfl rfl rfl rfl, (by first | rfl | kernel_rfl), ?_⟩) | (refine ⟨_, _, _, a_load_fld (gd_none rfl) rfl rfl rfl rfl rfl rfl rfl rfl rfl rfl rfl rfl rfl, (by first | rfl | kernel_rfl), ?_⟩) | (refine ⟨_, _, _, a_load_fullv (gd_none rfl) rfl rfl rfl rfl rfl rfl rfl rfl rfl, (by first | rfl | kernel_rfl), ?_⟩))
        (refine ⟨_, _, _, a_callOD ([0, 30]) (gd_none rfl) rfl rfl rfl rfl rfl (hcall) (by repeat (first | exact trivial | refine ⟨rfl, ?_⟩)) (by first | rfl | kernel_rfl) (by first | rfl | kernel_rfl) (by first | rfl | kernel_rfl) (by first | rfl | kernel_rfl) (hnb_of (by first | rfl | kernel_rfl)) (by first | rfl | kernel_rfl) (by first | rfl | kernel_rfl) (by first | rfl | kernel_rfl), (by first | rfl | kernel_rfl), ?_⟩)
        (refine ⟨_, _, _, a_assign (gd_none rfl) rfl rfl rfl rfl rfl, (by first | rfl | kernel_rfl), ?_⟩)
        refine ⟨by kernel_rfl, ?_⟩
        show AWp _ _ _ _ _ _ _
        refine awp_region ?_
        (refine ⟨_, _, _, a_add (gd_none rfl) rfl rfl rfl rfl rfl rfl (by first | omega | (simp only [List.length_map, List.length_append, List.length_cons, List.length_nil] <;> omega) | (simp <;> omega)), (by first | rfl | kernel_rfl), ?_⟩)
        (refine ⟨_, _, _, a_move (gd_none rfl) rfl rfl rfl rfl rfl, (by first | rfl | kernel_rfl), ?_⟩)
        refine ⟨hkl, ?_⟩
        show Wk _ _ _ _ ((0, AV.sl 300001 0 (L0 ++ pmL p (l.take (k + 1)) 0 pl).length 1) :: (1, .sl 400002 0 pl.length 1) :: (6, .bp 6 0 []) :: (100006, .bx p.cw) :: (7, .bp 7 0 []) :: (100007, .bx (Tm.cw ⟨f, l⟩)) :: (23, .val (.lst (l.map Tm.cv))) :: (24, .val (.i (l.map Tm.cv).length)) :: (25, .val (.i (((k + 1 : Nat) : Int)))) :: (300001, .mrow 29 1 ((L0 ++ pmL p (l.take (k + 1)) 0 pl).map plv)) :: (400002, .mrow 3 1 (pl.map CV.i)) :: [])
        rw [hstep]
        exact wk_sub ⟨rfl, rfl, rfl, rfl, rfl, rfl, rfl, rfl, rfl, rfl, rfl, trivial⟩
    · have hkl : k = l.length := by
        have : ¬ k < l.length := by simpa using hlt
        omega
      subst hkl
      rw [List.take_length]
      refine awp_exit ?_
      show AWp _ _ _ _ _ _ _
      refine awp_seq (awp_region ?_)
      (refine ⟨_, _, _, a_move (gd_none rfl) rfl rfl rfl rfl rfl, (by first | rfl | kernel_rfl), ?_⟩)
      (refine ⟨_, _, _, a_assign (gd_none rfl) rfl rfl rfl rfl rfl, (by first | rfl | kernel_rfl), ?_⟩)
      show AWp _ _ _ _ _ _ _
      exact awp_ret ⟨.inr rfl, _, Wk.refl _, rfl, rfl, rfl, trivial⟩
  · refine afunO_of Try.func34 Try.ntmps34 rfl rfl rfl rfl rfl rfl ?_
    intro w U hU
    have hfY : U.f 400002 = none := hUno9 hU (by kernel_rfl)
    refine awp_seq (awp_region ?_)
    (refine ⟨_, _, _, a_box (gd_none rfl) rfl rfl rfl rfl rfl, (by first | rfl | kernel_rfl), ?_⟩)
    (refine ⟨_, _, _, a_box (gd_none rfl) rfl rfl rfl rfl rfl, (by first | rfl | kernel_rfl), ?_⟩)
    (refine ⟨_, _, _, a_assign (gd_none rfl) rfl rfl rfl rfl rfl, (by first | rfl | kernel_rfl), ?_⟩)
    show AWp _ _ _ _ _ _ _
    refine awp_seq (awp_seq (awp_region ?_))
    (first | (refine ⟨_, _, _, a_load_all (gd_none rfl) rfl rfl rfl rfl rfl rfl rfl rfl rfl rfl rfl rfl, (by first | rfl | kernel_rfl), ?_⟩) | (refine ⟨_, _, _, a_load_tok (gd_none rfl) rfl rfl rfl rfl rfl rfl rfl rfl rfl rfl rfl rfl rfl, (by first | rfl | kernel_rfl), ?_⟩) | (refine ⟨_, _, _, a_load_bp (gd_none rfl) rfl rfl rfl rfl rfl rfl rfl rfl rfl rfl rfl rfl, (by first | rfl | kernel_rfl), ?_⟩) | (refine ⟨_, _, _, a_load_ad (gd_none rfl) rfl rfl rfl rfl rfl rfl rfl rfl rfl, (by first | rfl | kernel_rfl), ?_⟩) | (refine ⟨_, _, _, a_load_ptr (gd_none rfl) rfl rfl rfl rfl rfl rfl rfl rfl rfl, (by first | rfl | kernel_rfl), ?_⟩) | (refine ⟨_, _, _, a_load_fld (gd_none rfl) rfl rfl rfl rfl rfl rfl rfl rfl rfl rfl rfl rfl rfl, (by first | rfl | kernel_rfl), ?_⟩) | (refine ⟨_, _, _, a_load_fullv (gd_none rfl) rfl rfl rfl rfl rfl rfl rfl rfl rfl, (by first | rfl | kernel_rfl), ?_⟩))
    (refine ⟨_, _, _, a_call (gd_none rfl) rfl rfl rfl rfl rfl (mIsVar_abs w ⟨f, l⟩), (by first | rfl | kernel_rfl), ?_⟩)
    show AWp _ _ _ _ _ _ _
    refine awp_cond rfl (fun hc => ?_) (fun hc => ?_)
    · have hf : f < 0 := by simpa using hc
      rw [pm_eq, if_pos hf, List.append_nil]
      refine awp_seq (awp_region ?_)
      (refine ⟨_, _, _, a_move (gd_none rfl) rfl rfl rfl rfl rfl, (by first | rfl | kernel_rfl), ?_⟩)
      (refine ⟨_, _, _, a_assign (gd_none rfl) rfl rfl rfl rfl rfl, (by first | rfl | kernel_rfl), ?_⟩)
      show AWp _ _ _ _ _ _ _
      exact awp_ret ⟨.inr rfl, _, Wk.refl _, rfl, rfl, rfl, trivial⟩
    have hf : ¬ f < 0 := by simpa using hc
    rw [pm_eq, if_neg hf]
    refine awp_skip ?_
    show AWp _ _ _ _ _ _ _
    have his := mIs_abs w p ⟨f, l⟩ hpr hpo hr hpv
    obtain ⟨L0, hL0⟩ : ∃ L0, L0 = Ls ++ (if (mt p ⟨f, l⟩ []).1 = true then [pl] else []) := ⟨_, rfl⟩
    rw [← List.append_assoc, ← hL0]
    have hL0l : L0.length ≤ Ls.length + 1 := by rw [hL0]; split <;> simp
    refine awp_mid ((0, AV.sl 300001 0 (L0).length 1) :: (1, .sl 400003 0 pl.length 1) :: (6, .bp 6 0 []) :: (100006, .bx p.cw) :: (7, .bp 7 0 []) :: (100007, .bx (Tm.cw ⟨f, l⟩)) :: (300001, .mrow 29 1 ((L0).map plv)) :: (400003, .mrow 3 1 (pl.map CV.i)) :: []) ?_ ?_
    · refine awp_seq (awp_region ?_)
      (first | (refine ⟨_, _, _, a_load_all (gd_none rfl) rfl rfl rfl rfl rfl rfl rfl rfl rfl rfl rfl rfl, (by first | rfl | kernel_rfl), ?_⟩) | (refine ⟨_, _, _, a_load_tok (gd_none rfl) rfl rfl rfl rfl rfl rfl rfl rfl rfl rfl rfl rfl rfl, (by first | rfl | kernel_rfl), ?_⟩) | (refine ⟨_, _, _, a_load_bp (gd_none rfl) rfl rfl rfl rfl rfl rfl rfl rfl rfl rfl rfl rfl, (by first | rfl | kernel_rfl), ?_⟩) | (refine ⟨_, _, _, a_load_ad (gd_none rfl) rfl rfl rfl rfl rfl rfl rfl rfl rfl, (by first | rfl | kernel_rfl), ?_⟩) | (refine ⟨_, _, _, a_load_ptr (gd_none rfl) rfl rfl rfl rfl rfl rfl rfl rfl rfl, (by first | rfl | kernel_rfl), ?_⟩) | (refine ⟨_, _, _, a_load_fld (gd_none rfl) rfl rfl rfl rfl rfl rfl rfl rfl rfl rfl rfl rfl rfl, (by first | rfl | kernel_rfl), ?_⟩) | (refine ⟨_, _, _, a_load_fullv (gd_none rfl) rfl rfl rfl rfl rfl rfl rfl rfl rfl, (by first | rfl | kernel_rfl), ?_⟩))
      (first | (refine ⟨_, _, _, a_load_all (gd_none rfl) rfl rfl rfl rfl rfl rfl rfl rfl rfl rfl rfl rfl, (by first | rfl | kernel_rfl), ?_⟩) | (refine ⟨_, _, _, a_load_tok (gd_none rfl) rfl rfl rfl rfl rfl rfl rfl rfl rfl rfl rfl rfl rfl, (by first | rfl | kernel_rfl), ?_⟩) | (refine ⟨_, _, _, a_load_bp (gd_none rfl) rfl rfl rfl rfl rfl rfl rfl rfl rfl rfl rfl rfl, (by first | rfl | kernel_rfl), ?_⟩) | (refine ⟨_, _, _, a_load_ad (gd_none rfl) rfl rfl rfl rfl rfl rfl rfl rfl rfl, (by first | rfl | kernel_rfl), ?_⟩) | (refine ⟨_, _, _, a_load_ptr (gd_none rfl) rfl rfl rfl rfl rfl rfl rfl rfl rfl, (by first | rfl | kernel_rfl), ?_⟩) | (refine ⟨_, _, _, a_load_fld (gd_none rfl) rfl rfl rfl rfl rfl rfl rfl rfl rfl rfl rfl rfl rfl, (by first | rfl | kernel_rfl), ?_⟩) | (refine ⟨_, _, _, a_load_fullv (gd_none rfl) rfl rfl rfl rfl rfl rfl rfl rfl rfl, (by first | rfl | kernel_rfl), ?_⟩))
      (refine ⟨_, _, _, a_call (gd_none rfl) rfl rfl rfl rfl rfl (his), (by first | rfl | kernel_rfl), ?_⟩)
      show AWp _ _ _ _ _ _ _
      cases hm : (mt p ⟨f, l⟩ []).1 with
      | false =>
        rw [hm, if_neg (by simp), List.append_nil] at hL0
        rw [hL0]
        refine awp_cond rfl (fun hc => by cases hc) (fun hc => awp_skip ?_)
        exact wk_sub ⟨rfl, rfl, rfl, rfl, rfl, rfl, rfl, rfl, trivial⟩
      | true =>
        rw [hm, if_pos rfl] at hL0
        have hlp := plv_size Ls
        have hlm : (Ls.map plv).length = Ls.length := List.length_map ..
        refine awp_cond rfl (fun hc => ?_) (fun hc => by cases hc)
        refine awp_region ?_
        (refine ⟨_, _, _, a_move (gd_none rfl) rfl rfl rfl rfl rfl, (by first | rfl | kernel_rfl), ?_⟩)
        (refine ⟨_, _, _, a_move (gd_none rfl) rfl rfl rfl rfl rfl, (by first | rfl | kernel_rfl), ?_⟩)
        (refine ⟨_, _, _, a_callO (gd_none rfl) rfl rfl rfl rfl rfl (clInt400003_abs pl (by omega)) (by repeat (first | exact trivial | refine ⟨rfl, ?_⟩)) (by first | rfl | kernel_rfl) (by first | rfl | kernel_rfl) (by first | rfl | kernel_rfl) (by first | rfl | kernel_rfl) (hnb_of (by first | rfl | kernel_rfl)), (by first | rfl | kernel_rfl), ?_⟩)
        (refine ⟨_, _, _, a_bslice (gd_none rfl) rfl rfl rfl rfl rfl rfl rfl rfl rfl rfl rfl rfl rfl, (by first | rfl | kernel_rfl), ?_⟩)
        (refine ⟨_, _, _, a_appM 300021 (gd_none rfl) rfl rfl rfl rfl rfl rfl rfl rfl rfl rfl rfl rfl rfl (by first | rfl | omega | (simp only [List.length_set, List.length_map, List.length_append, List.length_cons, List.length_nil] <;> omega) | (simp <;> omega)) (by first | assumption | exact szAll_spec rfl | exact Tm.size_all _ | exact Bd.size_all _ | exact ints_size _) (by first | omega | (simp only [List.length_map, List.length_append, List.length_cons, List.length_nil] <;> omega) | (simp <;> omega)), (by first | rfl | kernel_rfl), ?_⟩)
        (refine ⟨_, _, _, a_assign (gd_none rfl) rfl rfl rfl rfl rfl, (by first | rfl | kernel_rfl), ?_⟩)
        refine (wk_sub (s' := (0, AV.sl 300021 0 L0.length 1) :: (1, .sl 400003 0 pl.length 1) :: (6, .bp 6 0 []) :: (100006, .bx p.cw) :: (7, .bp 7 0 []) :: (100007, .bx (Tm.cw ⟨f, l⟩)) :: (300021, .mrow 29 1 (L0.map plv)) :: (400003, .mrow 3 1 (pl.map CV.i)) :: []) ⟨?_, rfl, rfl, rfl, rfl, rfl, ?_, rfl, trivial⟩).trans (wk_ren 300021 300001 rfl rfl (by kernel_rfl) (by kernel_rfl))
        · rw [hL0, List.length_append, ← hlm]; rfl
        · rw [hL0, List.map_append]; rfl
    refine awp_seq (awp_seq (awp_region ?_))
    (first | (refine ⟨_, _, _, a_field_bp (gd_none rfl) rfl rfl rfl rfl rfl rfl rfl rfl rfl, (by first | rfl | kernel_rfl), ?_⟩) | (refine ⟨_, _, _, a_field_ad (gd_none rfl) rfl rfl rfl rfl rfl rfl rfl rfl rfl rfl rfl, (by first | rfl | kernel_rfl), ?_⟩) | (refine ⟨_, _, _, a_fieldM (gd_none rfl) rfl rfl rfl rfl rfl rfl rfl rfl rfl, (by first | rfl | kernel_rfl), ?_⟩))
    (first | (refine ⟨_, _, _, a_load_all (gd_none rfl) rfl rfl rfl rfl rfl rfl rfl rfl rfl rfl rfl rfl, (by first | rfl | kernel_rfl), ?_⟩) | (refine ⟨_, _, _, a_load_tok (gd_none rfl) rfl rfl rfl rfl rfl rfl rfl rfl rfl rfl rfl rfl rfl, (by first | rfl | kernel_rfl), ?_⟩) | (refine ⟨_, _, _, a_load_bp (gd_none rfl) rfl rfl rfl rfl rfl rfl rfl rfl rfl rfl rfl rfl, (by first | rfl | kernel_rfl), ?_⟩) | (refine ⟨_, _, _, a_load_ad (gd_none rfl) rfl rfl rfl rfl rfl rfl rfl rfl rfl, (by first | rfl | kernel_rfl), ?_⟩) | (refine ⟨_, _, _, a_load_ptr (gd_none rfl) rfl rfl rfl rfl rfl rfl rfl rfl rfl, (by first | rfl | kernel_rfl), ?_⟩) | (refine ⟨_, _, _, a_load_fld (gd_none rfl) rfl rfl rfl rfl rfl rfl rfl rfl rfl rfl rfl rfl rfl, (by first | rfl | kernel_rfl), ?_⟩) | (refine ⟨_, _, _, a_load_fullv (gd_none rfl) rfl rfl rfl rfl rfl rfl rfl rfl rfl, (by first | rfl | kernel_rfl), ?_⟩))
    (first | (refine ⟨_, _, _, a_len (gd_none rfl) rfl rfl rfl rfl rfl rfl rfl, (by first | rfl | kernel_rfl), ?_⟩) | (refine ⟨_, _, _, a_lenM (gd_none rfl) rfl rfl rfl rfl rfl rfl rfl, (by first | rfl | kernel_rfl), ?_⟩))
    (refine ⟨_, _, _, a_move (gd_none rfl) rfl rfl rfl rfl rfl, (by first | rfl | kernel_rfl), ?_⟩)
    show AWp _ _ _ _ _ _ _
    refine awp_block (awp_count l.length (fun k => (0, AV.sl 300001 0 (L0 ++ pmL p (l.take k) 0 pl).length 1) :: (1, .sl 400003 0 pl.length 1) :: (6, .bp 6 0 []) :: (100006, .bx p.cw) :: (7, .bp 7 0 []) :: (100007, .bx (Tm.cw ⟨f, l⟩)) :: (23, .val (.lst (l.map Tm.cv))) :: (24, .val (.i (l.map Tm.cv).length)) :: (25, .val (.i (k))) :: (300001, .mrow 29 1 ((L0 ++ pmL p (l.take k) 0 pl).map plv)) :: (400003, .mrow 3 1 (pl.map CV.i)) :: []) (wk_sub ⟨?_, rfl, rfl, rfl, rfl, rfl, rfl, rfl, rfl, ?_, rfl, trivial⟩) ?_)
    · rw [List.take_zero, pmL_nil, List.append_nil]; rfl
    · rw [List.take_zero, pmL_nil, List.append_nil]; rfl
    intro k hk
    refine awp_seq (awp_region ?_)
    (refine ⟨_, _, _, a_lss (gd_none rfl) rfl rfl rfl rfl rfl rfl, (by first | rfl | kernel_rfl), ?_⟩)
    show AWp _ _ _ _ _ _ _
    refine awp_seq (awp_cond rfl (fun hlt => ?_) (fun hlt => ?_))
    · have hkl : k < l.length := by simpa using hlt
      obtain ⟨x, hx⟩ : ∃ x, l[k]? = some x := ⟨l[k], List.getElem?_eq_getElem hkl⟩
      have hx' := Tm.map_at hx
      have hxm := List.mem_of_getElem? hx
      obtain ⟨Lk, hLk⟩ : ∃ Lk, Lk = L0 ++ pmL p (l.take k) 0 pl := ⟨_, rfl⟩
      have hstep : L0 ++ pmL p (l.take (k + 1)) 0 pl = Lk ++ pm p x (pl ++ [(k : Int)]) := by rw [pmL_take 0 pl hx, ← List.append_assoc, ← hLk, Nat.zero_add]
      have hszs := pm_sizes hf hx
      have hpk := pmL_len p (l.take k) 0 pl
      have hLkl : Lk.length ≤ L0.length + ((l.take k).flatMap Tm.flat).length := by rw [hLk, List.length_append]; omega
      have hcall := (ih x hxm (hr'.2 x hxm) (hok'.2 x hxm) Lk (pl ++ [(k : Int)]) (by omega) (by rw [List.length_append]; simp only [List.length_cons, List.length_nil]; omega)).1
      have hpe : (pl ++ [(k : Int)]).length = (pl.map CV.i).length + [CV.i (k : Int)].length := by simp
      rw [hpe, List.map_append] at hcall
      have hlm : (pl.map CV.i).length = pl.length := List.length_map ..
      rw [← hLk]
      refine awp_skip ?_
      show AWp _ _ _ _ _ _ _
      refine awp_seq (awp_block (awp_seq (awp_region ?_)))
      (refine ⟨_, _, _, a_move (gd_none rfl) rfl rfl rfl rfl rfl, (by first | rfl | kernel_rfl), ?_⟩)
      (refine ⟨_, _, _, a_index (j := k) (gd_none rfl) rfl rfl rfl rfl rfl rfl rfl rfl rfl (hx') rfl (hsz), (by first | rfl | kernel_rfl), ?_⟩)
      (first | (refine ⟨_, _, _, a_load_all (gd_none rfl) rfl rfl rfl rfl rfl rfl rfl rfl rfl rfl rfl rfl, (by first | rfl | kernel_rfl), ?_⟩) | (refine ⟨_, _, _, a_load_tok (gd_none rfl) rfl rfl rfl rfl rfl rfl rfl rfl rfl rfl rfl rfl rfl, (by first | rfl | kernel_rfl), ?_⟩) | (refine ⟨_, _, _, a_load_bp (gd_none rfl) rfl rfl rfl rfl rfl rfl rfl rfl rfl rfl rfl rfl, (by first | rfl | kernel_rfl), ?_⟩) | (refine ⟨_, _, _, a_load_ad (gd_none rfl) rfl rfl rfl rfl rfl rfl rfl rfl rfl, (by first | rfl | kernel_rfl), ?_⟩) | (refine ⟨_, _, _, a_load_ptr (gd_none rfl) rfl rfl rfl rfl rfl rfl rfl rfl rfl, (by first | rfl | kernel_rfl), ?_⟩) | (refine ⟨_, _, _, a_load_fld (gd_none rfl) rfl rfl rfl rfl rfl rfl rfl rfl rfl rfl rfl rfl rfl, (by first | rfl | kernel_rfl), ?_⟩) | (refine ⟨_, _, _, a_load_fullv (gd_none rfl) rfl rfl rfl rfl rfl rfl rfl rfl rfl, (by first | rfl | kernel_rfl), ?_⟩))
      (refine ⟨_, _, _, a_alloc (gd_none rfl) rfl rfl rfl rfl rfl rfl rfl rfl rfl rfl, (by first | rfl | kernel_rfl), ?_⟩)
      (refine ⟨_, _, _, a_assign (gd_none rfl) rfl rfl rfl rfl rfl, (by first | rfl | kernel_rfl), ?_⟩)
      (first | (refine ⟨_, _, _, a_store_all (gd_none rfl) rfl rfl rfl rfl rfl rfl rfl rfl rfl rfl, (by first | rfl | kernel_rfl), ?_⟩) | (refine ⟨_, _, _, a_store (gd_none rfl) rfl rfl rfl rfl rfl rfl rfl rfl rfl rfl, (by first | rfl | kernel_rfl), ?_⟩) | (refine ⟨_, _, _, a_store_fld (gd_none rfl) rfl rfl rfl rfl rfl rfl rfl rfl rfl rfl rfl rfl, (by first | rfl | kernel_rfl), ?_⟩))
      show AWp _ _ _ _ _ _ _
      refine AWp.handle 4 400003 rfl rfl rfl rfl fun ao cap hcap hao => ?_
      rcases Nat.lt_or_ge (pl.map CV.i).length cap with hroom | hroom
      · refine awp_draw (by kernel_rfl) (by kernel_rfl) ?_
        (refine ⟨_, _, _, a_move (gd_none rfl) rfl rfl rfl rfl rfl, (by first | rfl | kernel_rfl), ?_⟩)
        (refine ⟨_, _, _, a_move (gd_none rfl) rfl rfl rfl rfl rfl, (by first | rfl | kernel_rfl), ?_⟩)
        (refine ⟨_, _, _, a_move (gd_none rfl) rfl rfl rfl rfl rfl, (by first | rfl | kernel_rfl), ?_⟩)
        (refine ⟨_, _, _, a_bslice (gd_none rfl) rfl rfl rfl rfl rfl rfl rfl rfl rfl rfl rfl rfl rfl, (by first | rfl | kernel_rfl), ?_⟩)
        (refine ⟨_, _, _, a_appR 400002 4 5 (gd_none rfl) rfl rfl rfl rfl rfl rfl rfl rfl rfl rfl rfl rfl rfl (hfY) (by first | rfl | omega | (simp only [List.length_set, List.length_map, List.length_append, List.length_cons, List.length_nil] <;> omega) | (simp <;> omega)) (by first | assumption | exact szAll_spec rfl | exact Tm.size_all _ | exact Bd.size_all _ | exact ints_size _) (by simp) (hroom), (by first | rfl | kernel_rfl), ?_⟩)
        (first | (refine ⟨_, _, _, a_load_all (gd_none rfl) rfl rfl rfl rfl rfl rfl rfl rfl rfl rfl rfl rfl, (by first | rfl | kernel_rfl), ?_⟩) | (refine ⟨_, _, _, a_load_tok (gd_none rfl) rfl rfl rfl rfl rfl rfl rfl rfl rfl rfl rfl rfl rfl, (by first | rfl | kernel_rfl), ?_⟩) | (refine ⟨_, _, _, a_load_bp (gd_none rfl) rfl rfl rfl rfl rfl rfl rfl rfl rfl rfl rfl rfl, (by first | rfl | kernel_rfl), ?_⟩) | (refine ⟨_, _, _, a_load_ad (gd_none rfl) rfl rfl rfl rfl rfl rfl rfl rfl rfl, (by first | rfl | kernel_rfl), ?_⟩) | (refine ⟨_, _, _, a_load_ptr (gd_none rfl) rfl rfl rfl rfl rfl rfl rfl rfl rfl, (by first | rfl | kernel_rfl), ?_⟩) | (refine ⟨_, _, _, a_load_fld (gd_none rfl) rfl rfl rfl rfl rfl rfl rfl rfl rfl rfl rfl rfl rfl, (by first | rfl | kernel_rfl), ?_⟩) | (refine ⟨_, _, _, a_load_fullv (gd_none rfl) rfl rfl rfl rfl rfl rfl rfl rfl rfl, (by first | rfl | kernel_rfl), ?_⟩))
        (first | (refine ⟨_, _, _, a_load_all (gd_none rfl) rfl rfl rfl rfl rfl rfl rfl rfl rfl rfl rfl rfl, (by first | rfl | kernel_rfl), ?_⟩) | (refine ⟨_, _, _, a_load_tok (gd_none rfl) rfl rfl rfl rfl rfl rfl rfl rfl rfl rfl rfl rfl rfl, (by first | rfl | kernel_rfl), ?_⟩) | (refine ⟨_, _, _, a_load_bp (gd_none rfl) rfl rfl rfl rfl rfl rfl rfl rfl rfl rfl rfl rfl, (by first | rfl | kernel_rfl), ?_⟩) | (refine ⟨_, _, _, a_load_ad (gd_none rfl) rfl rfl rfl rfl rfl rfl rfl rfl rfl, (by first | rfl | kernel_rfl), ?_⟩) | (refine ⟨_, _, _, a_load_ptr (gd_none rfl) rfl rfl rfl rfl rfl rfl rfl rfl rfl, (by first | rfl | kernel_rfl), ?_⟩) | (refine ⟨_, _, _, a_load_fld (gd_none rfl) rfl rfl rfl rfl rfl rfl rfl rfl rfl rfl rfl rfl rfl, (by first | rfl | kernel_rfl), ?_⟩) | (refine ⟨_, _, _, a_load_fullv (gd_none rfl) rfl rfl rfl rfl rfl rfl rfl rfl rfl, (by first | rfl | kernel_rfl), ?_⟩))
        (refine ⟨_, _, _, a_callOD ([0, 30]) (gd_none rfl) rfl rfl rfl rfl rfl (hcall) (by repeat (first | exact trivial | refine ⟨rfl, ?_⟩)) (by first | rfl | kernel_rfl) (by first | rfl | kernel_rfl) (by first | rfl | kernel_rfl) (by first | rfl | kernel_rfl) (hnb_of (by first | rfl | kernel_rfl)) (by first | rfl | kernel_rfl) (by first | rfl | kernel_rfl) (by first | rfl | kernel_rfl), (by first | rfl | kernel_rfl), ?_⟩)
        (refine ⟨_, _, _, a_assign (gd_none rfl) rfl rfl rfl rfl rfl, (by first | rfl | kernel_rfl), ?_⟩)
        refine ⟨by kernel_rfl, ?_⟩
        show AWp _ _ _ _ _ _ _
        refine AWp.wk (wk_again 400003 400002 4 5 (pl.map CV.i).length rfl rfl rfl rfl rfl rfl rfl (by simp)) ?_
        refine awp_region ?_
        (refine ⟨_, _, _, a_add (gd_none rfl) rfl rfl rfl rfl rfl rfl (by first | omega | (simp only [List.length_map, List.length_append, List.length_cons, List.length_nil] <;> omega) | (simp <;> omega)), (by first | rfl | kernel_rfl), ?_⟩)
        (refine ⟨_, _, _, a_move (gd_none rfl) rfl rfl rfl rfl rfl, (by first | rfl | kernel_rfl), ?_⟩)
        refine ⟨hkl, ?_⟩
        show Wk _ _ _ _ ((0, AV.sl 300001 0 (L0 ++ pmL p (l.take (k + 1)) 0 pl).length 1) :: (1, .sl 400003 0 pl.length 1) :: (6, .bp 6 0 []) :: (100006, .bx p.cw) :: (7, .bp 7 0 []) :: (100007, .bx (Tm.cw ⟨f, l⟩)) :: (23, .val (.lst (l.map Tm.cv))) :: (24, .val (.i (l.map Tm.cv).length)) :: (25, .val (.i (((k + 1 : Nat) : Int)))) :: (300001, .mrow 29 1 ((L0 ++ pmL p (l.take (k + 1)) 0 pl).map plv)) :: (400003, .mrow 3 1 (pl.map CV.i)) :: [])
        rw [hstep]
        refine wk_sub ⟨rfl, rfl, rfl, rfl, rfl, rfl, rfl, rfl, rfl, rfl, ?_, trivial⟩
        show some (AV.mrow 3 1 ((pl.map CV.i ++ [CV.i (k : Int)]).take (pl.map CV.i).length)) = _
        rw [List.take_left' rfl]
      · have hce : cap = (pl.map CV.i).length := by omega
        subst hce
        refine awp_draw (by kernel_rfl) (by kernel_rfl) ?_
        (refine ⟨_, _, _, a_move (gd_none rfl) rfl rfl rfl rfl rfl, (by first | rfl | kernel_rfl), ?_⟩)
        (refine ⟨_, _, _, a_move (gd_none rfl) rfl rfl rfl rfl rfl, (by first | rfl | kernel_rfl), ?_⟩)
        (refine ⟨_, _, _, a_move (gd_none rfl) rfl rfl rfl rfl rfl, (by first | rfl | kernel_rfl), ?_⟩)
        (refine ⟨_, _, _, a_bslice (gd_none rfl) rfl rfl rfl rfl rfl rfl rfl rfl rfl rfl rfl rfl rfl, (by first | rfl | kernel_rfl), ?_⟩)
        (refine ⟨_, _, _, a_appX 400002 4 (gd_none rfl) rfl rfl rfl rfl rfl rfl rfl rfl rfl rfl rfl rfl rfl rfl (hfY) (by first | rfl | omega | (simp only [List.length_set, List.length_map, List.length_append, List.length_cons, List.length_nil] <;> omega) | (simp <;> omega)) (by first | assumption | exact szAll_spec rfl | exact Tm.size_all _ | exact Bd.size_all _ | exact ints_size _) (by simp) (by first | omega | (simp only [List.length_map, List.length_append, List.length_cons, List.length_nil] <;> omega) | (simp <;> omega)), (by first | rfl | kernel_rfl), ?_⟩)
        (first | (refine ⟨_, _, _, a_load_all (gd_none rfl) rfl rfl rfl rfl rfl rfl rfl rfl rfl rfl rfl rfl, (by first | rfl | kernel_rfl), ?_⟩) | (refine ⟨_, _, _, a_load_tok (gd_none rfl) rfl rfl rfl rfl rfl rfl rfl rfl rfl rfl rfl rfl rfl, (by first | rfl | kernel_rfl), ?_⟩) | (refine ⟨_, _, _, a_load_bp (gd_none rfl) rfl rfl rfl rfl rfl rfl rfl rfl rfl rfl rfl rfl, (by first | rfl | kernel_rfl), ?_⟩) | (refine ⟨_, _, _, a_load_ad (gd_none rfl) rfl rfl rfl rfl rfl rfl rfl rfl rfl, (by first | rfl | kernel_rfl), ?_⟩) | (refine ⟨_, _, _, a_load_ptr (gd_none rfl) rfl rfl rfl rfl rfl rfl rfl rfl rfl, (by first | rfl | kernel_rfl), ?_⟩) | (refine ⟨_, _, _, a_load_fld (gd_none rfl) rfl rfl rfl rfl rfl rfl rfl rfl rfl rfl rfl rfl rfl, (by first | rfl | kernel_rfl), ?_⟩) | (refine ⟨_, _, _, a_load_fullv (gd_none rfl) rfl rfl rfl rfl rfl rfl rfl rfl rfl, (by first | rfl | kernel_rfl), ?_⟩))
        (first | (refine ⟨_, _, _, a_load_all (gd_none rfl) rfl rfl rfl rfl rfl rfl rfl rfl rfl rfl rfl rfl, (by first | rfl | kernel_rfl), ?_⟩) | (refine ⟨_, _, _, a_load_tok (gd_none rfl) rfl rfl rfl rfl rfl rfl rfl rfl rfl rfl rfl rfl rfl, (by first | rfl | kernel_rfl), ?_⟩) | (refine ⟨_, _, _, a_load_bp (gd_none rfl) rfl rfl rfl rfl rfl rfl rfl rfl rfl rfl rfl rfl, (by first | rfl | kernel_rfl), ?_⟩) | (refine ⟨_, _, _, a_load_ad (gd_none rfl) rfl rfl rfl rfl rfl rfl rfl rfl rfl, (by first | rfl | kernel_rfl), ?_⟩) | (refine ⟨_, _, _, a_load_ptr (gd_none rfl) rfl rfl rfl rfl rfl rfl rfl rfl rfl, (by first | rfl | kernel_rfl), ?_⟩) | (refine ⟨_, _, _, a_load_fld (gd_none rfl) rfl rfl rfl rfl rfl rfl rfl rfl rfl rfl rfl rfl rfl, (by first | rfl | kernel_rfl), ?_⟩) | (refine ⟨_, _, _, a_load_fullv (gd_none rfl) rfl rfl rfl rfl rfl rfl rfl rfl rfl, (by first | rfl | kernel_rfl), ?_⟩))
        (refine ⟨_, _, _, a_callOD ([0, 30]) (gd_none rfl) rfl rfl rfl rfl rfl (hcall) (by repeat (first | exact trivial | refine ⟨rfl, ?_⟩)) (by first | rfl | kernel_rfl) (by first | rfl | kernel_rfl) (by first | rfl | kernel_rfl) (by first | rfl | kernel_rfl) (hnb_of (by first | rfl | kernel_rfl)) (by first | rfl | kernel_rfl) (by first | rfl | kernel_rfl) (by first | rfl | kernel_rfl), (by first | rfl | kernel_rfl), ?_⟩)
        (refine ⟨_, _, _, a_assign (gd_none rfl) rfl rfl rfl rfl rfl, (by first | rfl | kernel_rfl), ?_⟩)
        refine ⟨by kernel_rfl, ?_⟩
        show AWp _ _ _ _ _ _ _
        refine awp_region ?_
        (refine ⟨_, _, _, a_add (gd_none rfl) rfl rfl rfl rfl rfl rfl (by first | omega | (simp only [List.length_map, List.length_append, List.length_cons, List.length_nil] <;> omega) | (simp <;> omega)), (by first | rfl | kernel_rfl), ?_⟩)
        (refine ⟨_, _, _, a_move (gd_none rfl) rfl rfl rfl rfl rfl, (by first | rfl | kernel_rfl), ?_⟩)
        refine ⟨hkl, ?_⟩
        show Wk _ _ _ _ ((0, AV.sl 300001 0 (L0 ++ pmL p (l.take (k + 1)) 0 pl).length 1) :: (1, .sl 400003 0 pl.length 1) :: (6, .bp 6 0 []) :: (100006, .bx p.cw) :: (7, .bp 7 0 []) :: (100007, .bx (Tm.cw ⟨f, l⟩)) :: (23, .val (.lst (l.map Tm.cv))) :: (24, .val (.i (l.map Tm.cv).length)) :: (25, .val (.i (((k + 1 : Nat) : Int)))) :: (300001, .mrow 29 1 ((L0 ++ pmL p (l.take (k + 1)) 0 pl).map plv)) :: (400003, .mrow 3 1 (pl.map CV.i)) :: [])
        rw [hstep]
        exact wk_sub ⟨rfl, rfl, rfl, rfl, rfl, rfl, rfl, rfl, rfl, rfl, rfl, trivial⟩
    · have hkl : k = l.length := by
        have : ¬ k < l.length := by simpa using hlt
        omega
      subst hkl
      rw [List.take_length]
      refine awp_exit ?_
      show AWp _ _ _ _ _ _ _
      refine awp_seq (awp_region ?_)
      (refine ⟨_, _, _, a_move (gd_none rfl) rfl rfl rfl rfl rfl, (by first | rfl | kernel_rfl), ?_⟩)
      (refine ⟨_, _, _, a_assign (gd_none rfl) rfl rfl rfl rfl rfl, (by first | rfl | kernel_rfl), ?_⟩)
      show AWp _ _ _ _ _ _ _
      exact awp_ret ⟨.inr rfl, _, Wk.refl _, rfl, rfl, rfl, trivial⟩
end Go.Proofs.Ytgmllfjidhbjjab


namespace Go.Proofs.Ytgmllfjidhbjjab
open Go.RowKit
set_option linter.unusedVariables false
set_option linter.unusedSimpArgs false
set_option maxRecDepth 100000

theorem nil_rep {U : Nat → Nat → Prop} {w : World} {hv : Nat → Value} {s : AS} {v : Value} (h : AVRep U w hv (LiveN s) ⟨0, .lst [], 1, 0, []⟩ v) : v = .slice none 0 0 := by
  obtain ⟨h1, h2⟩ : VRep U w (.lst []) v ∧ Tk hv (LiveN s) ⟨0, .lst [], 1, 0, []⟩ v.cells.toList := h
  obtain ⟨m, c, g1, g2⟩ := h2 (.inl rfl)
  simp only at g1
  rw [at_nil] at g1
  cases g1
  obtain ⟨ao, k, c, e1, _⟩ := vrep_lst.1 h1
  rw [e1] at g2 ⊢
  simpa [Value.cells, tokv] using g2
theorem addParts_nil (p t : Tm) (hpr : p.rng) (hpo : p.ok) (hpv : p.vs.length ≤ 65) (hr : t.rng) (hok : t.ok) (hs : t.size ≤ 1000000) : AFunO Try.prog 34 [] [⟨0, .lst [], 1, 0, []⟩, ⟨0, .lst [], 1, 0, []⟩, .val p.cw, .val t.cw] (.sl 300001 0 (pm p t []).length 1) [(300001, .mrow 29 1 ((pm p t []).map plv)), (400002, .mrow 3 1 [])] := by
  have h := (addParts_abs p hpr hpo hpv t hr hok [] [] (by simpa using hs) (by simpa using hs)).1
  rw [List.nil_append] at h
  refine ⟨h.1, fun U w hv a0 vs hU hpS hargs => ?_⟩
  obtain ⟨v1, us1, rfl, g1, v2, us2, rfl, g2, v3, us3, rfl, g3, v4, us4, rfl, g4, rfl⟩ := hargs
  have e1 := nil_rep g1
  have e2 := nil_rep g2
  subst e1
  subst e2
  have hno : ∀ k v, U.f k = some v → False := fun k v hk => by have := hU k v hk; cases this
  have hlk : ∀ {k av}, look [(300001, AV.mrow 29 1 (([] : List (List Int)).map plv)), (400002, AV.mrow 3 1 (([] : List Int).map CV.i))] k = some av → (k = 300001 ∧ av = AV.mrow 29 1 []) ∨ (k = 400002 ∧ av = AV.mrow 3 1 []) := fun {k av} hk => by
    rw [look_cons] at hk
    split at hk
    · rename_i e; cases hk; exact .inl ⟨e.symm, rfl⟩
    rw [look_cons] at hk
    split at hk
    · rename_i e; cases hk; exact .inr ⟨e.symm, rfl⟩
    · cases hk
  refine h.2 U w (fun _ => .slice none 0 0) ⟨#[], []⟩ _ (fun k v hk => (hno k v hk).elim) ⟨BelowX.refl _ _, rfl, rfl, fun d av k1 k2 => ?_, fun m o av k1 k2 k3 k4 => ?_, fun m o o' av av' k1 k2 k3 k4 k5 => ?_, fun k av k1 k2 => ?_, (fun k av g k1 k2 k3 k4 => by cases k4), (fun k k' av av' g k1 k2 k3 k4 k5 k6 k7 k8 => by cases k8), fun k v hk => (hno k v hk).elim, fun b o hd => hd.elim⟩ ?_
  · rcases hlk k1 with ⟨e, _⟩ | ⟨e, _⟩ <;> omega
  · rcases hlk k1 with ⟨e, _⟩ | ⟨e, _⟩ <;> (unfold fKey at e; omega)
  · rcases hlk k1 with ⟨e, _⟩ | ⟨e, _⟩ <;> (unfold fKey at e; omega)
  · rcases hlk k1 with ⟨e, rfl⟩ | ⟨e, rfl⟩
    · exact ⟨[], World.ownsRow_nil _ _ _ _, by decide, (fun c hc => by cases hc), rfl⟩
    · exact ⟨[], World.ownsRow_nil _ _ _ _, by decide, (fun c hc => by cases hc), rfl⟩
  · refine ⟨_, _, rfl, ⟨⟨by decide, by decide⟩, slV_all rfl (Nat.le_refl _) (.inl rfl)⟩, _, _, rfl, ⟨⟨by decide, by decide⟩, slV_all rfl (Nat.le_refl _) (.inl rfl)⟩, _, _, rfl, avrep_val g3.1, _, _, rfl, avrep_val g4.1, rfl⟩
-- 
theorem mParts_abs (W : World) (p t : Tm) (hpr : p.rng) (hpo : p.ok) (hpv : p.vs.length ≤ 65) (hr : t.rng) (hok : t.ok) (hs : t.size ≤ 1000000) : AFun Try.prog W 13 [p.cw, t.cw] (.val (.lst ((pm p t []).map plv))) := by
  have hlm : ((pm p t []).map plv).length = (pm p t []).length := List.length_map ..
  refine afun_of (rs := [.lst ((pm p t []).map plv)]) Try.func13 Try.ntmps13 rfl rfl rfl rfl ?_
  intro w U hW
  refine awp_seq (awp_region ?_)
  (refine ⟨_, _, _, a_box (gd_none rfl) rfl rfl rfl rfl rfl, (by first | rfl | kernel_rfl), ?_⟩)
  (refine ⟨_, _, _, a_box (gd_none rfl) rfl rfl rfl rfl rfl, (by first | rfl | kernel_rfl), ?_⟩)
  (refine ⟨_, _, _, a_assign (gd_none rfl) rfl rfl rfl rfl rfl, (by first | rfl | kernel_rfl), ?_⟩)
  show AWp _ _ _ _ _ _ _
  refine awp_seq (awp_region ?_)
  (first | (refine ⟨_, _, _, a_load_all (gd_none rfl) rfl rfl rfl rfl rfl rfl rfl rfl rfl rfl rfl rfl, (by first | rfl | kernel_rfl), ?_⟩) | (refine ⟨_, _, _, a_load_tok (gd_none rfl) rfl rfl rfl rfl rfl rfl rfl rfl rfl rfl rfl rfl rfl, (by first | rfl | kernel_rfl), ?_⟩) | (refine ⟨_, _, _, a_load_bp (gd_none rfl) rfl rfl rfl rfl rfl rfl rfl rfl rfl rfl rfl rfl, (by first | rfl | kernel_rfl), ?_⟩) | (refine ⟨_, _, _, a_load_ad (gd_none rfl) rfl rfl rfl rfl rfl rfl rfl rfl rfl, (by first | rfl | kernel_rfl), ?_⟩) | (refine ⟨_, _, _, a_load_ptr (gd_none rfl) rfl rfl rfl rfl rfl rfl rfl rfl rfl, (by first | rfl | kernel_rfl), ?_⟩) | (refine ⟨_, _, _, a_load_fld (gd_none rfl) rfl rfl rfl rfl rfl rfl rfl rfl rfl rfl rfl rfl rfl, (by first | rfl | kernel_rfl), ?_⟩) | (refine ⟨_, _, _, a_load_fullv (gd_none rfl) rfl rfl rfl rfl rfl rfl rfl rfl rfl, (by first | rfl | kernel_rfl), ?_⟩))
  (first | (refine ⟨_, _, _, a_load_all (gd_none rfl) rfl rfl rfl rfl rfl rfl rfl rfl rfl rfl rfl rfl, (by first | rfl | kernel_rfl), ?_⟩) | (refine ⟨_, _, _, a_load_tok (gd_none rfl) rfl rfl rfl rfl rfl rfl rfl rfl rfl rfl rfl rfl rfl, (by first | rfl | kernel_rfl), ?_⟩) | (refine ⟨_, _, _, a_load_bp (gd_none rfl) rfl rfl rfl rfl rfl rfl rfl rfl rfl rfl rfl rfl, (by first | rfl | kernel_rfl), ?_⟩) | (refine ⟨_, _, _, a_load_ad (gd_none rfl) rfl rfl rfl rfl rfl rfl rfl rfl rfl, (by first | rfl | kernel_rfl), ?_⟩) | (refine ⟨_, _, _, a_load_ptr (gd_none rfl) rfl rfl rfl rfl rfl rfl rfl rfl rfl, (by first | rfl | kernel_rfl), ?_⟩) | (refine ⟨_, _, _, a_load_fld (gd_none rfl) rfl rfl rfl rfl rfl rfl rfl rfl rfl rfl rfl rfl rfl, (by first | rfl | kernel_rfl), ?_⟩) | (refine ⟨_, _, _, a_load_fullv (gd_none rfl) rfl rfl rfl rfl rfl rfl rfl rfl rfl, (by first | rfl | kernel_rfl), ?_⟩))
  (refine ⟨_, _, _, a_callO (gd_none rfl) rfl rfl rfl rfl rfl (addParts_nil p t hpr hpo hpv hr hok hs) (by repeat (first | exact trivial | refine ⟨rfl, ?_⟩)) rfl rfl rfl rfl (fun k v h => by first | (rw [hW.1] at h; cases h) | (have h2 := hU k v h; cases h2)), (by first | rfl | kernel_rfl), ?_⟩)
  (refine ⟨_, _, _, a_assign (gd_none rfl) rfl rfl rfl rfl rfl, (by first | rfl | kernel_rfl), ?_⟩)
  show AWp _ _ _ _ _ _ _
  refine AWp.wk (wk_frz 4 300001 rfl rfl rfl (.inl hW.2) (by rw [hlm]; omega) (s' := []) trivial rfl) ?_
  rw [List.drop_zero, ← hlm, List.take_length]
  exact awp_ret (And.intro (.inr rfl) rfl)
end Go.Proofs.Ytgmllfjidhbjjab


namespace Go.Proofs.Ytgmllfjidhbjjab
open Go.RowKit
set_option linter.unusedVariables false
set_option linter.unusedSimpArgs false
set_option maxRecDepth 100000

-- 
theorem tIsVar_abs (W : World) (t : Tm) : AFun Try.prog W 42 [t.cw] (.val (.b (decide (t.f < 0)))) := by
  refine afun_of (rs := [.b (decide (t.f < 0))]) Try.func42 Try.ntmps42 rfl rfl rfl rfl ?_
  intro w U hW
  refine awp_seq (awp_region ?_)
  (refine ⟨_, _, _, a_box (gd_none rfl) rfl rfl rfl rfl rfl, (by first | rfl | kernel_rfl), ?_⟩)
  (refine ⟨_, _, _, a_assign (gd_none rfl) rfl rfl rfl rfl rfl, (by first | rfl | kernel_rfl), ?_⟩)
  show AWp _ _ _ _ _ _ _
  refine awp_seq (awp_region ?_)
  (first | (refine ⟨_, _, _, a_field_bp (gd_none rfl) rfl rfl rfl rfl rfl rfl rfl rfl rfl, (by first | rfl | kernel_rfl), ?_⟩) | (refine ⟨_, _, _, a_field_ad (gd_none rfl) rfl rfl rfl rfl rfl rfl rfl rfl rfl rfl rfl, (by first | rfl | kernel_rfl), ?_⟩) | (refine ⟨_, _, _, a_fieldM (gd_none rfl) rfl rfl rfl rfl rfl rfl rfl rfl rfl, (by first | rfl | kernel_rfl), ?_⟩))
  (first | (refine ⟨_, _, _, a_load_all (gd_none rfl) rfl rfl rfl rfl rfl rfl rfl rfl rfl rfl rfl rfl, (by first | rfl | kernel_rfl), ?_⟩) | (refine ⟨_, _, _, a_load_tok (gd_none rfl) rfl rfl rfl rfl rfl rfl rfl rfl rfl rfl rfl rfl rfl, (by first | rfl | kernel_rfl), ?_⟩) | (refine ⟨_, _, _, a_load_bp (gd_none rfl) rfl rfl rfl rfl rfl rfl rfl rfl rfl rfl rfl rfl, (by first | rfl | kernel_rfl), ?_⟩) | (refine ⟨_, _, _, a_load_ad (gd_none rfl) rfl rfl rfl rfl rfl rfl rfl rfl rfl, (by first | rfl | kernel_rfl), ?_⟩) | (refine ⟨_, _, _, a_load_ptr (gd_none rfl) rfl rfl rfl rfl rfl rfl rfl rfl rfl, (by first | rfl | kernel_rfl), ?_⟩) | (refine ⟨_, _, _, a_load_fld (gd_none rfl) rfl rfl rfl rfl rfl rfl rfl rfl rfl rfl rfl rfl rfl, (by first | rfl | kernel_rfl), ?_⟩) | (refine ⟨_, _, _, a_load_fullv (gd_none rfl) rfl rfl rfl rfl rfl rfl rfl rfl rfl, (by first | rfl | kernel_rfl), ?_⟩))
  (refine ⟨_, _, _, a_lss (gd_none rfl) rfl rfl rfl rfl rfl rfl, (by first | rfl | kernel_rfl), ?_⟩)
  (refine ⟨_, _, _, a_assign (gd_none rfl) rfl rfl rfl rfl rfl, (by first | rfl | kernel_rfl), ?_⟩)
  show AWp _ _ _ _ _ _ _
  exact awp_ret ⟨.inr rfl, rfl⟩
-- 
theorem parts_abs (W : World) (t : Tm) : AFun Try.prog W 65 [t.cw] (.val (.lst (t.ps.map Tm.cv))) := by
  refine afun_of (rs := [.lst (t.ps.map Tm.cv)]) Try.func65 Try.ntmps65 rfl rfl rfl rfl ?_
  intro w U hW
  refine awp_seq (awp_region ?_)
  (refine ⟨_, _, _, a_box (gd_none rfl) rfl rfl rfl rfl rfl, (by first | rfl | kernel_rfl), ?_⟩)
  (refine ⟨_, _, _, a_assign (gd_none rfl) rfl rfl rfl rfl rfl, (by first | rfl | kernel_rfl), ?_⟩)
  show AWp _ _ _ _ _ _ _
  refine awp_seq (awp_seq (awp_region ?_))
  (first | (refine ⟨_, _, _, a_load_all (gd_none rfl) rfl rfl rfl rfl rfl rfl rfl rfl rfl rfl rfl rfl, (by first | rfl | kernel_rfl), ?_⟩) | (refine ⟨_, _, _, a_load_tok (gd_none rfl) rfl rfl rfl rfl rfl rfl rfl rfl rfl rfl rfl rfl rfl, (by first | rfl | kernel_rfl), ?_⟩) | (refine ⟨_, _, _, a_load_bp (gd_none rfl) rfl rfl rfl rfl rfl rfl rfl rfl rfl rfl rfl rfl, (by first | rfl | kernel_rfl), ?_⟩) | (refine ⟨_, _, _, a_load_ad (gd_none rfl) rfl rfl rfl rfl rfl rfl rfl rfl rfl, (by first | rfl | kernel_rfl), ?_⟩) | (refine ⟨_, _, _, a_load_ptr (gd_none rfl) rfl rfl rfl rfl rfl rfl rfl rfl rfl, (by first | rfl | kernel_rfl), ?_⟩) | (refine ⟨_, _, _, a_load_fld (gd_none rfl) rfl rfl rfl rfl rfl rfl rfl rfl rfl rfl rfl rfl rfl, (by first | rfl | kernel_rfl), ?_⟩) | (refine ⟨_, _, _, a_load_fullv (gd_none rfl) rfl rfl rfl rfl rfl rfl rfl rfl rfl, (by first | rfl | kernel_rfl), ?_⟩))
  (refine ⟨_, _, _, a_call (gd_none rfl) rfl rfl rfl rfl rfl (tIsVar_abs w t), (by first | rfl | kernel_rfl), ?_⟩)
  show AWp _ _ _ _ _ _ _
  refine awp_cond rfl (fun hc => ?_) (fun hc => awp_skip ?_)
  · have hf : t.f < 0 := by simpa using hc
    rw [Tm.ps_of_var hf]
    refine awp_seq (awp_region ?_)
    (refine ⟨_, _, _, a_assign (gd_none rfl) rfl rfl rfl rfl rfl, (by first | rfl | kernel_rfl), ?_⟩)
    show AWp _ _ _ _ _ _ _
    exact awp_ret (And.intro (.inr rfl) rfl)
  · have hf : ¬ t.f < 0 := by simpa using hc
    rw [Tm.ps_of_sym (by omega)]
    show AWp _ _ _ _ _ _ _
    refine awp_seq (awp_region ?_)
    (first | (refine ⟨_, _, _, a_field_bp (gd_none rfl) rfl rfl rfl rfl rfl rfl rfl rfl rfl, (by first | rfl | kernel_rfl), ?_⟩) | (refine ⟨_, _, _, a_field_ad (gd_none rfl) rfl rfl rfl rfl rfl rfl rfl rfl rfl rfl rfl, (by first | rfl | kernel_rfl), ?_⟩) | (refine ⟨_, _, _, a_fieldM (gd_none rfl) rfl rfl rfl rfl rfl rfl rfl rfl rfl, (by first | rfl | kernel_rfl), ?_⟩))
    (first | (refine ⟨_, _, _, a_load_all (gd_none rfl) rfl rfl rfl rfl rfl rfl rfl rfl rfl rfl rfl rfl, (by first | rfl | kernel_rfl), ?_⟩) | (refine ⟨_, _, _, a_load_tok (gd_none rfl) rfl rfl rfl rfl rfl rfl rfl rfl rfl rfl rfl rfl rfl, (by first | rfl | kernel_rfl), ?_⟩) | (refine ⟨_, _, _, a_load_bp (gd_none rfl) rfl rfl rfl rfl rfl rfl rfl rfl rfl rfl rfl rfl, (by first | rfl | kernel_rfl), ?_⟩) | (refine ⟨_, _, _, a_load_ad (gd_none rfl) rfl rfl rfl rfl rfl rfl rfl rfl rfl, (by first | rfl | kernel_rfl), ?_⟩) | (refine ⟨_, _, _, a_load_ptr (gd_none rfl) rfl rfl rfl rfl rfl rfl rfl rfl rfl, (by first | rfl | kernel_rfl), ?_⟩) | (refine ⟨_, _, _, a_load_fld (gd_none rfl) rfl rfl rfl rfl rfl rfl rfl rfl rfl rfl rfl rfl rfl, (by first | rfl | kernel_rfl), ?_⟩) | (refine ⟨_, _, _, a_load_fullv (gd_none rfl) rfl rfl rfl rfl rfl rfl rfl rfl rfl, (by first | rfl | kernel_rfl), ?_⟩))
    (refine ⟨_, _, _, a_assign (gd_none rfl) rfl rfl rfl rfl rfl, (by first | rfl | kernel_rfl), ?_⟩)
    show AWp _ _ _ _ _ _ _
    exact awp_ret (And.intro (.inr rfl) rfl)
/-- The part of a number. -/
def Tm.pa (t : Tm) (n : Int) : Option Tm := if 0 ≤ n then t.ps[n.toNat]? else none
theorem Tm.pa_some (t : Tm) (n : Int) : (t.pa n).isSome = (decide (n ≥ 0) && decide (n < (t.ps.map Tm.cv).length)) := by
  unfold Tm.pa
  rw [List.length_map]
  by_cases h : 0 ≤ n
  · rw [if_pos h, show decide (n ≥ 0) = true by simpa using h, Bool.true_and]
    by_cases h2 : n < t.ps.length
    · rw [List.getElem?_eq_getElem (by omega)]; simp [h2]
    · rw [List.getElem?_eq_none (by omega)]; simp [h2]
  · rw [if_neg h, show decide (n ≥ 0) = false by simpa using h]; rfl
-- 
theorem hasPart_abs (W : World) (t : Tm) (n : Int) : AFun Try.prog W 51 [t.cw, .i n] (.val (.b (t.pa n).isSome)) := by
  rw [Tm.pa_some]
  refine afun_of (rs := [.b (decide (n ≥ 0) && decide (n < (t.ps.map Tm.cv).length))]) Try.func51 Try.ntmps51 rfl rfl rfl rfl ?_
  intro w U hW
  refine awp_seq (awp_region ?_)
  (refine ⟨_, _, _, a_box (gd_none rfl) rfl rfl rfl rfl rfl, (by first | rfl | kernel_rfl), ?_⟩)
  (refine ⟨_, _, _, a_assign (gd_none rfl) rfl rfl rfl rfl rfl, (by first | rfl | kernel_rfl), ?_⟩)
  show AWp _ _ _ _ _ _ _
  by_cases h : n ≥ 0
  · have hg : decide (n ≥ 0) = true := by simpa using h
    refine awp_seq (awp_region ?_)
    (refine ⟨_, _, _, a_move (gd_none rfl) rfl rfl rfl rfl rfl, (by first | rfl | kernel_rfl), ?_⟩)
    (refine ⟨_, _, _, a_geq (gd_none rfl) rfl rfl rfl rfl rfl rfl, (by first | rfl | kernel_rfl), ?_⟩)
    (refine ⟨_, _, _, a_move (gd_none rfl) rfl rfl rfl rfl rfl, (by first | rfl | kernel_rfl), ?_⟩)
    (refine ⟨_, _, _, a_move (gd_on rfl rfl rfl rfl (by first | rfl | assumption | (simp; done))) rfl rfl rfl rfl rfl, (by first | rfl | kernel_rfl), ?_⟩)
    (first | (refine ⟨_, _, _, a_load_all (gd_on rfl rfl rfl rfl (by first | rfl | assumption | (simp; done))) rfl rfl rfl rfl rfl rfl rfl rfl rfl rfl rfl rfl, (by first | rfl | kernel_rfl), ?_⟩) | (refine ⟨_, _, _, a_load_tok (gd_on rfl rfl rfl rfl (by first | rfl | assumption | (simp; done))) rfl rfl rfl rfl rfl rfl rfl rfl rfl rfl rfl rfl rfl, (by first | rfl | kernel_rfl), ?_⟩) | (refine ⟨_, _, _, a_load_bp (gd_on rfl rfl rfl rfl (by first | rfl | assumption | (simp; done))) rfl rfl rfl rfl rfl rfl rfl rfl rfl rfl rfl rfl, (by first | rfl | kernel_rfl), ?_⟩) | (refine ⟨_, _, _, a_load_ad (gd_on rfl rfl rfl rfl (by first | rfl | assumption | (simp; done))) rfl rfl rfl rfl rfl rfl rfl rfl rfl, (by first | rfl | kernel_rfl), ?_⟩) | (refine ⟨_, _, _, a_load_ptr (gd_on rfl rfl rfl rfl (by first | rfl | assumption | (simp; done))) rfl rfl rfl rfl rfl rfl rfl rfl rfl, (by first | rfl | kernel_rfl), ?_⟩) | (refine ⟨_, _, _, a_load_fld (gd_on rfl rfl rfl rfl (by first | rfl | assumption | (simp; done))) rfl rfl rfl rfl rfl rfl rfl rfl rfl rfl rfl rfl rfl, (by first | rfl | kernel_rfl), ?_⟩) | (refine ⟨_, _, _, a_load_fullv (gd_on rfl rfl rfl rfl (by first | rfl | assumption | (simp; done))) rfl rfl rfl rfl rfl rfl rfl rfl rfl, (by first | rfl | kernel_rfl), ?_⟩))
    (refine ⟨_, _, _, a_call (gd_on rfl rfl rfl rfl (by first | rfl | assumption | (simp; done))) rfl rfl rfl rfl rfl (parts_abs w t), (by first | rfl | kernel_rfl), ?_⟩)
    (first | (refine ⟨_, _, _, a_len (gd_on rfl rfl rfl rfl (by first | rfl | assumption | (simp; done))) rfl rfl rfl rfl rfl rfl rfl, (by first | rfl | kernel_rfl), ?_⟩) | (refine ⟨_, _, _, a_lenM (gd_on rfl rfl rfl rfl (by first | rfl | assumption | (simp; done))) rfl rfl rfl rfl rfl rfl rfl, (by first | rfl | kernel_rfl), ?_⟩))
    (refine ⟨_, _, _, a_lss (gd_on rfl rfl rfl rfl (by first | rfl | assumption | (simp; done))) rfl rfl rfl rfl rfl rfl, (by first | rfl | kernel_rfl), ?_⟩)
    (first | (refine ⟨_, _, _, a_pick_t (gd_none rfl) rfl rfl rfl rfl rfl ?hb rfl, rfl, ?_⟩; case hb => (first | rfl | assumption | (simp; done))) | (refine ⟨_, _, _, a_pick_f (gd_none rfl) rfl rfl rfl rfl rfl ?hb rfl, rfl, ?_⟩; case hb => (first | rfl | assumption | (simp; done))))
    (refine ⟨_, _, _, a_assign (gd_none rfl) rfl rfl rfl rfl rfl, (by first | rfl | kernel_rfl), ?_⟩)
    show AWp _ _ _ _ _ _ _
    refine awp_ret (And.intro (.inr rfl) ?_)
    rw [hg, Bool.true_and]
    rfl
  · have hg : decide (n ≥ 0) = false := by simpa using h
    refine awp_seq (awp_region ?_)
    (refine ⟨_, _, _, a_move (gd_none rfl) rfl rfl rfl rfl rfl, (by first | rfl | kernel_rfl), ?_⟩)
    (refine ⟨_, _, _, a_geq (gd_none rfl) rfl rfl rfl rfl rfl rfl, (by first | rfl | kernel_rfl), ?_⟩)
    (refine ⟨_, _, _, a_move (gd_none rfl) rfl rfl rfl rfl rfl, (by first | rfl | kernel_rfl), ?_⟩)
    (refine ⟨_, _, _, a_off (go_off rfl rfl rfl rfl (by first | rfl | assumption | (simp; done) | (simp [*]; done))) rfl rfl rfl, rfl, ?_⟩)
    (refine ⟨_, _, _, a_off (go_off rfl rfl rfl rfl (by first | rfl | assumption | (simp; done) | (simp [*]; done))) rfl rfl rfl, rfl, ?_⟩)
    (refine ⟨_, _, _, a_off (go_off rfl rfl rfl rfl (by first | rfl | assumption | (simp; done) | (simp [*]; done))) rfl rfl rfl, rfl, ?_⟩)
    (refine ⟨_, _, _, a_off (go_off rfl rfl rfl rfl (by first | rfl | assumption | (simp; done) | (simp [*]; done))) rfl rfl rfl, rfl, ?_⟩)
    (refine ⟨_, _, _, a_off (go_off rfl rfl rfl rfl (by first | rfl | assumption | (simp; done) | (simp [*]; done))) rfl rfl rfl, rfl, ?_⟩)
    (first | (refine ⟨_, _, _, a_pick_t (gd_none rfl) rfl rfl rfl rfl rfl ?hb rfl, rfl, ?_⟩; case hb => (first | rfl | assumption | (simp; done))) | (refine ⟨_, _, _, a_pick_f (gd_none rfl) rfl rfl rfl rfl rfl ?hb rfl, rfl, ?_⟩; case hb => (first | rfl | assumption | (simp; done))))
    (refine ⟨_, _, _, a_assign (gd_none rfl) rfl rfl rfl rfl rfl, (by first | rfl | kernel_rfl), ?_⟩)
    show AWp _ _ _ _ _ _ _
    refine awp_ret (And.intro (.inr rfl) ?_)
    rw [hg, Bool.false_and]
    rfl
-- 
set_option maxHeartbeats 1000000 in
theorem cloneAll_abs (W : World) (l : List Tm) (hl : l.length ≤ 1000000) (hr : ∀ t ∈ l, t.rng ∧ t.size ≤ 1000000000) : AFun Try.prog W 53 [.lst (l.map Tm.cv)] (.val (.lst ((l.map Tm.strip).map Tm.cv))) := by
  have hsz := Tm.size_all l
  refine afun_of (rs := [.lst ((l.map Tm.strip).map Tm.cv)]) Try.func53 Try.ntmps53 rfl rfl rfl rfl ?_
  intro w U hW
  refine awp_seq (awp_region ?_)
  (refine ⟨_, _, _, a_assign (gd_none rfl) rfl rfl rfl rfl rfl, (by first | rfl | kernel_rfl), ?_⟩)
  show AWp _ _ _ _ _ _ _
  refine awp_seq (awp_region ?_)
  (refine ⟨_, _, _, a_assign (gd_none rfl) rfl rfl rfl rfl rfl, (by first | rfl | kernel_rfl), ?_⟩)
  show AWp _ _ _ _ _ _ _
  refine awp_seq (awp_seq (awp_region ?_))
  (refine ⟨_, _, _, a_move (gd_none rfl) rfl rfl rfl rfl rfl, (by first | rfl | kernel_rfl), ?_⟩)
  (first | (refine ⟨_, _, _, a_len (gd_none rfl) rfl rfl rfl rfl rfl rfl rfl, (by first | rfl | kernel_rfl), ?_⟩) | (refine ⟨_, _, _, a_lenM (gd_none rfl) rfl rfl rfl rfl rfl rfl rfl, (by first | rfl | kernel_rfl), ?_⟩))
  (refine ⟨_, _, _, a_move (gd_none rfl) rfl rfl rfl rfl rfl, (by first | rfl | kernel_rfl), ?_⟩)
  show AWp _ _ _ _ _ _ _
  refine awp_block (awp_count l.length (fun k => [(3, .own (.lst (((l.take k).map Tm.strip).map Tm.cv)) 200016), (200016, .tok 38 2), (6, .val (.lst (l.map Tm.cv))), (7, .val (.i (l.map Tm.cv).length)), (8, .val (.i k))])
    ((wk_nil 3 200016 38 2 rfl rfl rfl rfl rfl rfl rfl).trans (wk_sub ⟨rfl, rfl, rfl, rfl, rfl, trivial⟩)) ?_)
  intro k hk
  have hsk := Tm.size_all ((l.take k).map Tm.strip)
  refine awp_seq (awp_region ?_)
  (refine ⟨_, _, _, a_lss (gd_none rfl) rfl rfl rfl rfl rfl rfl, (by first | rfl | kernel_rfl), ?_⟩)
  show AWp _ _ _ _ _ _ _
  refine awp_seq (awp_cond rfl (fun hc => awp_skip ?_) (fun hc => awp_exit ?_))
  · have hkl : k < l.length := by
      simp only [List.length_map, decide_eq_true_eq] at hc
      omega
    clear hc
    obtain ⟨t, ht⟩ : ∃ t, l[k]? = some t := ⟨l[k], List.getElem?_eq_getElem hkl⟩
    have ht' := Tm.map_at ht
    have htm := hr t (List.mem_of_getElem? ht)
    show AWp _ _ _ _ _ _ _
    refine awp_seq (awp_block (awp_seq (awp_region ?_)))
    (refine ⟨_, _, _, a_index (gd_none rfl) rfl rfl rfl rfl rfl rfl rfl rfl rfl (by assumption) rfl (by first | assumption | exact szAll_spec rfl | exact Tm.size_all _ | exact Bd.size_all _ | exact ints_size _), (by first | rfl | kernel_rfl), ?_⟩)
    (first | (refine ⟨_, _, _, a_load_all (gd_none rfl) rfl rfl rfl rfl rfl rfl rfl rfl rfl rfl rfl rfl, (by first | rfl | kernel_rfl), ?_⟩) | (refine ⟨_, _, _, a_load_tok (gd_none rfl) rfl rfl rfl rfl rfl rfl rfl rfl rfl rfl rfl rfl rfl, (by first | rfl | kernel_rfl), ?_⟩) | (refine ⟨_, _, _, a_load_bp (gd_none rfl) rfl rfl rfl rfl rfl rfl rfl rfl rfl rfl rfl rfl, (by first | rfl | kernel_rfl), ?_⟩) | (refine ⟨_, _, _, a_load_ad (gd_none rfl) rfl rfl rfl rfl rfl rfl rfl rfl rfl, (by first | rfl | kernel_rfl), ?_⟩) | (refine ⟨_, _, _, a_load_ptr (gd_none rfl) rfl rfl rfl rfl rfl rfl rfl rfl rfl, (by first | rfl | kernel_rfl), ?_⟩) | (refine ⟨_, _, _, a_load_fld (gd_none rfl) rfl rfl rfl rfl rfl rfl rfl rfl rfl rfl rfl rfl rfl, (by first | rfl | kernel_rfl), ?_⟩) | (refine ⟨_, _, _, a_load_fullv (gd_none rfl) rfl rfl rfl rfl rfl rfl rfl rfl rfl, (by first | rfl | kernel_rfl), ?_⟩))
    (refine ⟨_, _, _, a_alloc (gd_none rfl) rfl rfl rfl rfl rfl rfl rfl rfl rfl rfl, (by first | rfl | kernel_rfl), ?_⟩)
    (first | (refine ⟨_, _, _, a_store_all (gd_none rfl) rfl rfl rfl rfl rfl rfl rfl rfl rfl rfl, (by first | rfl | kernel_rfl), ?_⟩) | (refine ⟨_, _, _, a_store (gd_none rfl) rfl rfl rfl rfl rfl rfl rfl rfl rfl rfl, (by first | rfl | kernel_rfl), ?_⟩) | (refine ⟨_, _, _, a_store_fld (gd_none rfl) rfl rfl rfl rfl rfl rfl rfl rfl rfl rfl rfl rfl, (by first | rfl | kernel_rfl), ?_⟩))
    show AWp _ _ _ _ _ _ _
    refine awp_region ?_
    (refine ⟨_, _, _, a_move (gd_none rfl) rfl rfl rfl rfl rfl, (by first | rfl | kernel_rfl), ?_⟩)
    (first | (refine ⟨_, _, _, a_load_all (gd_none rfl) rfl rfl rfl rfl rfl rfl rfl rfl rfl rfl rfl rfl, (by first | rfl | kernel_rfl), ?_⟩) | (refine ⟨_, _, _, a_load_tok (gd_none rfl) rfl rfl rfl rfl rfl rfl rfl rfl rfl rfl rfl rfl rfl, (by first | rfl | kernel_rfl), ?_⟩) | (refine ⟨_, _, _, a_load_bp (gd_none rfl) rfl rfl rfl rfl rfl rfl rfl rfl rfl rfl rfl rfl, (by first | rfl | kernel_rfl), ?_⟩) | (refine ⟨_, _, _, a_load_ad (gd_none rfl) rfl rfl rfl rfl rfl rfl rfl rfl rfl, (by first | rfl | kernel_rfl), ?_⟩) | (refine ⟨_, _, _, a_load_ptr (gd_none rfl) rfl rfl rfl rfl rfl rfl rfl rfl rfl, (by first | rfl | kernel_rfl), ?_⟩) | (refine ⟨_, _, _, a_load_fld (gd_none rfl) rfl rfl rfl rfl rfl rfl rfl rfl rfl rfl rfl rfl rfl, (by first | rfl | kernel_rfl), ?_⟩) | (refine ⟨_, _, _, a_load_fullv (gd_none rfl) rfl rfl rfl rfl rfl rfl rfl rfl rfl, (by first | rfl | kernel_rfl), ?_⟩))
    (refine ⟨_, _, _, a_call (gd_none rfl) rfl rfl rfl rfl rfl (clone_abs w htm.1 htm.2), (by first | rfl | kernel_rfl), ?_⟩)
    (refine ⟨_, _, _, a_bslice (gd_none rfl) rfl rfl rfl rfl rfl rfl rfl rfl rfl rfl rfl rfl rfl, (by first | rfl | kernel_rfl), ?_⟩)
    (first | (refine ⟨_, _, _, a_app (gd_none rfl) rfl rfl rfl rfl rfl rfl rfl rfl rfl rfl rfl rfl rfl rfl rfl (by first | assumption | exact szAll_spec rfl | exact Tm.size_all _ | exact Bd.size_all _ | exact ints_size _) (by first | assumption | exact szAll_spec rfl | exact Tm.size_all _ | exact Bd.size_all _ | exact ints_size _) (by first | omega | (simp only [List.length_map, List.length_append, List.length_cons, List.length_nil] <;> omega) | (simp <;> omega)), (by first | rfl | kernel_rfl), ?_⟩) | (refine ⟨_, _, _, a_app_nil (gd_none rfl) rfl rfl rfl rfl rfl rfl rfl rfl rfl rfl rfl (by first | assumption | exact szAll_spec rfl | exact Tm.size_all _ | exact Bd.size_all _ | exact ints_size _) (by first | assumption | exact szAll_spec rfl | exact Tm.size_all _ | exact Bd.size_all _ | exact ints_size _) (by first | omega | (simp only [List.length_map, List.length_append, List.length_cons, List.length_nil] <;> omega) | (simp <;> omega)), (by first | rfl | kernel_rfl), ?_⟩))
    (refine ⟨_, _, _, a_assign (gd_none rfl) rfl rfl rfl rfl rfl, (by first | rfl | kernel_rfl), ?_⟩)
    show AWp _ _ _ _ _ _ _
    refine awp_region ?_
    (refine ⟨_, _, _, a_add (gd_none rfl) rfl rfl rfl rfl rfl rfl (by first | omega | (simp only [List.length_map, List.length_append, List.length_cons, List.length_nil] <;> omega) | (simp <;> omega)), (by first | rfl | kernel_rfl), ?_⟩)
    (refine ⟨_, _, _, a_move (gd_none rfl) rfl rfl rfl rfl rfl, (by first | rfl | kernel_rfl), ?_⟩)
    refine ⟨hkl, Wk.trans (wk_sub (s' := [(3, .own (.lst (((l.take (k + 1)).map Tm.strip).map Tm.cv)) 300016), (300016, .tok 38 2), (6, .val (.lst (l.map Tm.cv))), (7, .val (.i (l.map Tm.cv).length)), (8, .val (.i ((k + 1 : Nat) : Int)))]) ⟨?_, rfl, rfl, rfl, rfl, trivial⟩) (wk_ren 300016 200016 rfl rfl rfl rfl)⟩
    rw [List.take_add_one, ht, List.map_append, List.map_append]
    simp only [Option.toList_some, List.map_cons, List.map_nil, Tm.cv_eq]
    rfl
  · have hkl : k = l.length := by
      simp only [List.length_map, decide_eq_false_iff_not] at hc
      omega
    subst hkl
    rw [List.take_length]
    show AWp _ _ _ _ _ _ _
    refine awp_seq (awp_region ?_)
    (refine ⟨_, _, _, a_move (gd_none rfl) rfl rfl rfl rfl rfl, (by first | rfl | kernel_rfl), ?_⟩)
    (refine ⟨_, _, _, a_assign (gd_none rfl) rfl rfl rfl rfl rfl, (by first | rfl | kernel_rfl), ?_⟩)
    show AWp _ _ _ _ _ _ _
    exact awp_ret (And.intro (.inr rfl) rfl)

/-- Does q stand at p's head? -/
def undB (p q : List Int) : Bool := decide (q = p.take q.length)
/-- What stands at a place. -/
def atP : List Int → Tm → Option Tm
  | [], t => some t
  | k :: ks, t => (t.pa k).bind (atP ks)
theorem atP_append (p q : List Int) (t : Tm) : atP (p ++ q) t = (atP p t).bind (atP q) := by
  induction p generalizing t with
  | nil => rfl
  | cons k ks ih =>
    rw [List.cons_append, atP, atP]
    cases t.pa k with
    | none => rfl
    | some s => exact ih s
theorem pa_mem {t s : Tm} {n : Int} (h : t.pa n = some s) : s ∈ t.ps := by
  unfold Tm.pa at h
  split at h
  · exact List.mem_of_getElem? h
  · cases h
theorem pa_sym {t s : Tm} {n : Int} (h : t.pa n = some s) : ¬ t.f < 0 := by
  intro hf
  have := pa_mem h
  rw [Tm.ps_of_var hf] at this
  cases this
theorem pa_size {t s : Tm} {n : Int} (h : t.pa n = some s) : s.size ≤ t.size := by
  have hm := pa_mem h
  have h1 := Tm.size_eq t
  have := flatMap_len_mem Tm.flat hm
  have h2 : s.size = s.flat.length := rfl
  omega
theorem atP_ok : ∀ {p : List Int} {t s : Tm}, atP p t = some s → t.rng → s.rng ∧ s.size ≤ t.size
  | [], t, s, h, hr => by cases h; exact ⟨hr, Nat.le_refl _⟩
  | k :: ks, t, s, h, hr => by
    rw [atP] at h
    cases hp : t.pa k with
    | none => rw [hp] at h; cases h
    | some u =>
      rw [hp] at h
      have hu := ((Tm.rng_iff _).1 hr).2 u (Tm.ps_mem (pa_mem hp)).1
      have h2 := atP_ok (p := ks) h hu
      exact ⟨h2.1, Nat.le_trans h2.2 (pa_size hp)⟩
def stepP (p : List Int) (t : Tm) (k : Nat) : Tm := (atP (p.take k) t).getD ⟨0, []⟩
-- 
set_option maxHeartbeats 1000000 in
theorem at_abs (W : World) (t : Tm) (p : List Int) (hp : p.length ≤ 1000000) (hr : t.rng) (hs : t.size ≤ 1000000000) : AFun Try.prog W 29 [t.cw, .lst (p.map CV.i)] (.tup [(((atP p t).map Tm.strip).getD ⟨0, []⟩).cw, .b (atP p t).isSome]) := by
  have hsp := ints_size p
  refine afun_of (rs := [(((atP p t).map Tm.strip).getD ⟨0, []⟩).cw, .b (atP p t).isSome]) Try.func29 Try.ntmps29 rfl rfl rfl rfl ?_
  intro w U hW
  refine awp_seq (awp_region ?_)
  (refine ⟨_, _, _, a_box (gd_none rfl) rfl rfl rfl rfl rfl, (by first | rfl | kernel_rfl), ?_⟩)
  (refine ⟨_, _, _, a_alloc (gd_none rfl) rfl rfl rfl rfl rfl rfl rfl rfl rfl rfl, (by first | rfl | kernel_rfl), ?_⟩)
  (refine ⟨_, _, _, a_assign (gd_none rfl) rfl rfl rfl rfl rfl, (by first | rfl | kernel_rfl), ?_⟩)
  show AWp _ _ _ _ _ _ _
  refine awp_seq (awp_seq (awp_region ?_))
  (refine ⟨_, _, _, a_move (gd_none rfl) rfl rfl rfl rfl rfl, (by first | rfl | kernel_rfl), ?_⟩)
  (first | (refine ⟨_, _, _, a_len (gd_none rfl) rfl rfl rfl rfl rfl rfl rfl, (by first | rfl | kernel_rfl), ?_⟩) | (refine ⟨_, _, _, a_lenM (gd_none rfl) rfl rfl rfl rfl rfl rfl rfl, (by first | rfl | kernel_rfl), ?_⟩))
  (refine ⟨_, _, _, a_move (gd_none rfl) rfl rfl rfl rfl rfl, (by first | rfl | kernel_rfl), ?_⟩)
  show AWp _ _ _ _ _ _ _
  refine awp_block (awp_countI p.length (fun k => atP (p.take k) t = some (stepP p t k)) (fun k => [(2, .bp 2 0 []), (100002, .bx (stepP p t k).cw), (4, .bp 4 0 []), (100004, ⟨5, .row [.i 0, .lst []], 1, 0, [1]⟩), (8, .val (.lst (p.map CV.i))), (9, .val (.i (p.map CV.i).length)), (10, .val (.i k))]) (wk_sub ⟨rfl, rfl, rfl, rfl, rfl, rfl, rfl, trivial⟩) rfl ?_)
  intro k hk hI
  obtain ⟨s, hsd⟩ : ∃ s, s = stepP p t k := ⟨_, rfl⟩
  rw [← hsd] at hI ⊢
  refine awp_seq (awp_region ?_)
  (refine ⟨_, _, _, a_lss (gd_none rfl) rfl rfl rfl rfl rfl rfl, (by first | rfl | kernel_rfl), ?_⟩)
  show AWp _ _ _ _ _ _ _
  refine awp_seq (awp_cond rfl (fun hc => awp_skip ?_) (fun hc => awp_exit ?_))
  · have hkl : k < p.length := by
      simp only [List.length_map, decide_eq_true_eq] at hc
      omega
    clear hc
    obtain ⟨n, hn⟩ : ∃ x, p[k]? = some x := ⟨p[k], List.getElem?_eq_getElem hkl⟩
    have hn' := ints_at hn
    show AWp _ _ _ _ _ _ _
    refine awp_seq (awp_block (awp_seq (awp_region ?_)))
    (refine ⟨_, _, _, a_index (gd_none rfl) rfl rfl rfl rfl rfl rfl rfl rfl rfl (by assumption) rfl (by first | assumption | exact szAll_spec rfl | exact Tm.size_all _ | exact Bd.size_all _ | exact ints_size _), (by first | rfl | kernel_rfl), ?_⟩)
    (first | (refine ⟨_, _, _, a_load_all (gd_none rfl) rfl rfl rfl rfl rfl rfl rfl rfl rfl rfl rfl rfl, (by first | rfl | kernel_rfl), ?_⟩) | (refine ⟨_, _, _, a_load_tok (gd_none rfl) rfl rfl rfl rfl rfl rfl rfl rfl rfl rfl rfl rfl rfl, (by first | rfl | kernel_rfl), ?_⟩) | (refine ⟨_, _, _, a_load_bp (gd_none rfl) rfl rfl rfl rfl rfl rfl rfl rfl rfl rfl rfl rfl, (by first | rfl | kernel_rfl), ?_⟩) | (refine ⟨_, _, _, a_load_ad (gd_none rfl) rfl rfl rfl rfl rfl rfl rfl rfl rfl, (by first | rfl | kernel_rfl), ?_⟩) | (refine ⟨_, _, _, a_load_ptr (gd_none rfl) rfl rfl rfl rfl rfl rfl rfl rfl rfl, (by first | rfl | kernel_rfl), ?_⟩) | (refine ⟨_, _, _, a_load_fld (gd_none rfl) rfl rfl rfl rfl rfl rfl rfl rfl rfl rfl rfl rfl rfl, (by first | rfl | kernel_rfl), ?_⟩) | (refine ⟨_, _, _, a_load_fullv (gd_none rfl) rfl rfl rfl rfl rfl rfl rfl rfl rfl, (by first | rfl | kernel_rfl), ?_⟩))
    (refine ⟨_, _, _, a_assign (gd_none rfl) rfl rfl rfl rfl rfl, (by first | rfl | kernel_rfl), ?_⟩)
    show AWp _ _ _ _ _ _ _
    refine awp_seq (awp_seq (awp_region ?_))
    (first | (refine ⟨_, _, _, a_load_all (gd_none rfl) rfl rfl rfl rfl rfl rfl rfl rfl rfl rfl rfl rfl, (by first | rfl | kernel_rfl), ?_⟩) | (refine ⟨_, _, _, a_load_tok (gd_none rfl) rfl rfl rfl rfl rfl rfl rfl rfl rfl rfl rfl rfl rfl, (by first | rfl | kernel_rfl), ?_⟩) | (refine ⟨_, _, _, a_load_bp (gd_none rfl) rfl rfl rfl rfl rfl rfl rfl rfl rfl rfl rfl rfl, (by first | rfl | kernel_rfl), ?_⟩) | (refine ⟨_, _, _, a_load_ad (gd_none rfl) rfl rfl rfl rfl rfl rfl rfl rfl rfl, (by first | rfl | kernel_rfl), ?_⟩) | (refine ⟨_, _, _, a_load_ptr (gd_none rfl) rfl rfl rfl rfl rfl rfl rfl rfl rfl, (by first | rfl | kernel_rfl), ?_⟩) | (refine ⟨_, _, _, a_load_fld (gd_none rfl) rfl rfl rfl rfl rfl rfl rfl rfl rfl rfl rfl rfl rfl, (by first | rfl | kernel_rfl), ?_⟩) | (refine ⟨_, _, _, a_load_fullv (gd_none rfl) rfl rfl rfl rfl rfl rfl rfl rfl rfl, (by first | rfl | kernel_rfl), ?_⟩))
    (refine ⟨_, _, _, a_move (gd_none rfl) rfl rfl rfl rfl rfl, (by first | rfl | kernel_rfl), ?_⟩)
    (refine ⟨_, _, _, a_call (gd_none rfl) rfl rfl rfl rfl rfl (hasPart_abs w s n), (by first | rfl | kernel_rfl), ?_⟩)
    (refine ⟨_, _, _, a_not (gd_none rfl) rfl rfl rfl rfl rfl, (by first | rfl | kernel_rfl), ?_⟩)
    show AWp _ _ _ _ _ _ _
    refine awp_cond rfl (fun hc => ?_) (fun hc => awp_skip ?_)
    · have hno : s.pa n = none := by simpa using hc
      have e : atP p t = none := by
        rw [← List.take_append_drop k p, atP_append, hI, Option.bind_some, List.drop_eq_getElem_cons hkl, atP]
        have : p[k] = n := by rw [List.getElem?_eq_getElem hkl] at hn; exact Option.some.inj hn
        rw [this, hno]; rfl
      rw [e]
      refine awp_seq (awp_region ?_)
      (refine ⟨_, _, _, a_build (gd_none rfl) rfl rfl rfl rfl rfl rfl rfl rfl rfl rfl rfl, (by first | rfl | kernel_rfl), ?_⟩)
      (first | (refine ⟨_, _, _, a_store_all (gd_none rfl) rfl rfl rfl rfl rfl rfl rfl rfl rfl rfl, (by first | rfl | kernel_rfl), ?_⟩) | (refine ⟨_, _, _, a_store (gd_none rfl) rfl rfl rfl rfl rfl rfl rfl rfl rfl rfl, (by first | rfl | kernel_rfl), ?_⟩) | (refine ⟨_, _, _, a_store_fld (gd_none rfl) rfl rfl rfl rfl rfl rfl rfl rfl rfl rfl rfl rfl, (by first | rfl | kernel_rfl), ?_⟩))
      (refine ⟨_, _, _, a_assign (gd_none rfl) rfl rfl rfl rfl rfl, (by first | rfl | kernel_rfl), ?_⟩)
      show AWp _ _ _ _ _ _ _
      exact awp_ret (And.intro (.inr rfl) rfl)
    obtain ⟨u, hu⟩ : ∃ u, s.pa n = some u := Option.isSome_iff_exists.1 (by simpa using hc)
    clear hc
    have hn0 : 0 ≤ n := by
      unfold Tm.pa at hu
      split at hu
      · assumption
      · cases hu
    have hl : s.l[n.toNat]? = some u := by
      have := pa_sym hu
      unfold Tm.pa at hu
      rw [if_pos hn0, Tm.ps_of_sym (by omega)] at hu
      exact hu
    have hl' := Tm.map_at hl
    have hsz := Tm.size_all s.l
    obtain ⟨m, hm⟩ : ∃ m : Nat, n = m := ⟨n.toNat, by omega⟩
    subst hm
    rw [Int.toNat_natCast] at hl hl'
    show AWp _ _ _ _ _ _ _
    refine awp_region ?_
    (first | (refine ⟨_, _, _, a_field_bp (gd_none rfl) rfl rfl rfl rfl rfl rfl rfl rfl rfl, (by first | rfl | kernel_rfl), ?_⟩) | (refine ⟨_, _, _, a_field_ad (gd_none rfl) rfl rfl rfl rfl rfl rfl rfl rfl rfl rfl rfl, (by first | rfl | kernel_rfl), ?_⟩) | (refine ⟨_, _, _, a_fieldM (gd_none rfl) rfl rfl rfl rfl rfl rfl rfl rfl rfl, (by first | rfl | kernel_rfl), ?_⟩))
    (first | (refine ⟨_, _, _, a_load_all (gd_none rfl) rfl rfl rfl rfl rfl rfl rfl rfl rfl rfl rfl rfl, (by first | rfl | kernel_rfl), ?_⟩) | (refine ⟨_, _, _, a_load_tok (gd_none rfl) rfl rfl rfl rfl rfl rfl rfl rfl rfl rfl rfl rfl rfl, (by first | rfl | kernel_rfl), ?_⟩) | (refine ⟨_, _, _, a_load_bp (gd_none rfl) rfl rfl rfl rfl rfl rfl rfl rfl rfl rfl rfl rfl, (by first | rfl | kernel_rfl), ?_⟩) | (refine ⟨_, _, _, a_load_ad (gd_none rfl) rfl rfl rfl rfl rfl rfl rfl rfl rfl, (by first | rfl | kernel_rfl), ?_⟩) | (refine ⟨_, _, _, a_load_ptr (gd_none rfl) rfl rfl rfl rfl rfl rfl rfl rfl rfl, (by first | rfl | kernel_rfl), ?_⟩) | (refine ⟨_, _, _, a_load_fld (gd_none rfl) rfl rfl rfl rfl rfl rfl rfl rfl rfl rfl rfl rfl rfl, (by first | rfl | kernel_rfl), ?_⟩) | (refine ⟨_, _, _, a_load_fullv (gd_none rfl) rfl rfl rfl rfl rfl rfl rfl rfl rfl, (by first | rfl | kernel_rfl), ?_⟩))
    (refine ⟨_, _, _, a_move (gd_none rfl) rfl rfl rfl rfl rfl, (by first | rfl | kernel_rfl), ?_⟩)
    (refine ⟨_, _, _, a_index (gd_none rfl) rfl rfl rfl rfl rfl rfl rfl rfl rfl (by assumption) rfl (by first | assumption | exact szAll_spec rfl | exact Tm.size_all _ | exact Bd.size_all _ | exact ints_size _), (by first | rfl | kernel_rfl), ?_⟩)
    (first | (refine ⟨_, _, _, a_load_all (gd_none rfl) rfl rfl rfl rfl rfl rfl rfl rfl rfl rfl rfl rfl, (by first | rfl | kernel_rfl), ?_⟩) | (refine ⟨_, _, _, a_load_tok (gd_none rfl) rfl rfl rfl rfl rfl rfl rfl rfl rfl rfl rfl rfl rfl, (by first | rfl | kernel_rfl), ?_⟩) | (refine ⟨_, _, _, a_load_bp (gd_none rfl) rfl rfl rfl rfl rfl rfl rfl rfl rfl rfl rfl rfl, (by first | rfl | kernel_rfl), ?_⟩) | (refine ⟨_, _, _, a_load_ad (gd_none rfl) rfl rfl rfl rfl rfl rfl rfl rfl rfl, (by first | rfl | kernel_rfl), ?_⟩) | (refine ⟨_, _, _, a_load_ptr (gd_none rfl) rfl rfl rfl rfl rfl rfl rfl rfl rfl, (by first | rfl | kernel_rfl), ?_⟩) | (refine ⟨_, _, _, a_load_fld (gd_none rfl) rfl rfl rfl rfl rfl rfl rfl rfl rfl rfl rfl rfl rfl, (by first | rfl | kernel_rfl), ?_⟩) | (refine ⟨_, _, _, a_load_fullv (gd_none rfl) rfl rfl rfl rfl rfl rfl rfl rfl rfl, (by first | rfl | kernel_rfl), ?_⟩))
    (first | (refine ⟨_, _, _, a_store_all (gd_none rfl) rfl rfl rfl rfl rfl rfl rfl rfl rfl rfl, (by first | rfl | kernel_rfl), ?_⟩) | (refine ⟨_, _, _, a_store (gd_none rfl) rfl rfl rfl rfl rfl rfl rfl rfl rfl rfl, (by first | rfl | kernel_rfl), ?_⟩) | (refine ⟨_, _, _, a_store_fld (gd_none rfl) rfl rfl rfl rfl rfl rfl rfl rfl rfl rfl rfl rfl, (by first | rfl | kernel_rfl), ?_⟩))
    show AWp _ _ _ _ _ _ _
    refine awp_region ?_
    (refine ⟨_, _, _, a_add (gd_none rfl) rfl rfl rfl rfl rfl rfl (by first | omega | (simp only [List.length_map, List.length_append, List.length_cons, List.length_nil] <;> omega) | (simp <;> omega)), (by first | rfl | kernel_rfl), ?_⟩)
    (refine ⟨_, _, _, a_move (gd_none rfl) rfl rfl rfl rfl rfl, (by first | rfl | kernel_rfl), ?_⟩)
    have e : atP (p.take (k + 1)) t = some u := by
      rw [List.take_add_one, hn, atP_append, hI, Option.bind_some]
      show atP [(m : Int)] s = some u
      rw [atP, hu]; rfl
    refine ⟨hkl, (by show atP (p.take (k + 1)) t = some ((atP (p.take (k + 1)) t).getD ⟨0, []⟩); rw [e]; rfl), wk_sub ⟨rfl, ?_, rfl, rfl, rfl, rfl, rfl, trivial⟩⟩
    unfold stepP
    rw [e]
    rfl
  · have hkl : k = p.length := by
      simp only [List.length_map, decide_eq_false_iff_not] at hc
      omega
    subst hkl
    rw [List.take_length] at hI
    have hok := atP_ok hI hr
    rw [hI]
    show AWp _ _ _ _ _ _ _
    refine awp_seq (awp_region ?_)
    (first | (refine ⟨_, _, _, a_load_all (gd_none rfl) rfl rfl rfl rfl rfl rfl rfl rfl rfl rfl rfl rfl, (by first | rfl | kernel_rfl), ?_⟩) | (refine ⟨_, _, _, a_load_tok (gd_none rfl) rfl rfl rfl rfl rfl rfl rfl rfl rfl rfl rfl rfl rfl, (by first | rfl | kernel_rfl), ?_⟩) | (refine ⟨_, _, _, a_load_bp (gd_none rfl) rfl rfl rfl rfl rfl rfl rfl rfl rfl rfl rfl rfl, (by first | rfl | kernel_rfl), ?_⟩) | (refine ⟨_, _, _, a_load_ad (gd_none rfl) rfl rfl rfl rfl rfl rfl rfl rfl rfl, (by first | rfl | kernel_rfl), ?_⟩) | (refine ⟨_, _, _, a_load_ptr (gd_none rfl) rfl rfl rfl rfl rfl rfl rfl rfl rfl, (by first | rfl | kernel_rfl), ?_⟩) | (refine ⟨_, _, _, a_load_fld (gd_none rfl) rfl rfl rfl rfl rfl rfl rfl rfl rfl rfl rfl rfl rfl, (by first | rfl | kernel_rfl), ?_⟩) | (refine ⟨_, _, _, a_load_fullv (gd_none rfl) rfl rfl rfl rfl rfl rfl rfl rfl rfl, (by first | rfl | kernel_rfl), ?_⟩))
    (refine ⟨_, _, _, a_call (gd_none rfl) rfl rfl rfl rfl rfl (clone_abs w hok.1 (by omega)), (by first | rfl | kernel_rfl), ?_⟩)
    (first | (refine ⟨_, _, _, a_store_all (gd_none rfl) rfl rfl rfl rfl rfl rfl rfl rfl rfl rfl, (by first | rfl | kernel_rfl), ?_⟩) | (refine ⟨_, _, _, a_store (gd_none rfl) rfl rfl rfl rfl rfl rfl rfl rfl rfl rfl, (by first | rfl | kernel_rfl), ?_⟩) | (refine ⟨_, _, _, a_store_fld (gd_none rfl) rfl rfl rfl rfl rfl rfl rfl rfl rfl rfl rfl rfl, (by first | rfl | kernel_rfl), ?_⟩))
    (refine ⟨_, _, _, a_assign (gd_none rfl) rfl rfl rfl rfl rfl, (by first | rfl | kernel_rfl), ?_⟩)
    show AWp _ _ _ _ _ _ _
    exact awp_ret (And.intro (.inr rfl) rfl)
end Go.Proofs.Ytgmllfjidhbjjab


namespace Go.Proofs.Ytgmllfjidhbjjab
open Go.RowKit
set_option linter.unusedVariables false
set_option linter.unusedSimpArgs false
set_option maxRecDepth 100000

theorem cs_of_at {U : Nat → Nat → Prop} {w : World} {a : Option Addr} {xs : List Value} (h : At U w a xs) : Cs w a xs := by
  rcases h with h | ⟨b, off, ha, hc⟩
  · exact .inl h
  · by_cases hz : xs = []
    · exact .inl hz
    · refine .inr ⟨b, off, ha, ?_, fun i hi => (hc i hi).2⟩
      have hpos : 0 < xs.length := List.length_pos_iff.2 hz
      have := (hc 0 hpos).2
      rw [List.getElem?_eq_getElem hpos] at this
      exact World.block_lt_of_cell? w _ this
theorem ownsRow_at {w : World} {base : Nat} {e : TypeId} {size : Nat} {v : Value} {n : Nat} {xs : List Value} (h : w.ownsRow base e size v n xs) :
    ∃ a c, v = .slice a n c ∧ n ≤ c ∧ c ≤ maxLen ∧ (a = none → n = 0 ∧ c = 0) ∧ At (fun b _ => base ≤ b) w a xs := by
  have ho := h
  obtain ⟨h1, h2⟩ := h
  rcases h2 with ⟨rfl, rfl⟩ | ⟨g, cap, cur, rfl, hb, hh, hn, hm, hs, ht⟩
  · exact ⟨none, 0, rfl, by omega, by simp, fun _ => ⟨rfl, rfl⟩, .inl (List.eq_nil_of_length_eq_zero (by omega))⟩
  · refine ⟨_, cap, rfl, hn, hm, (fun h => by cases h), .inr ⟨g, 0, rfl, fun i hi => ⟨hb, ?_⟩⟩⟩
    rw [show 0 + i = i by omega]
    exact ho.cellAt i (by omega)
theorem sq_rows {U : Nat → Nat → Prop} {w : World} : ∀ {l : List (List Tm)} {ys : List Value}, Sq ((l.map fun x => CV.lst (x.map Tm.cv)).map fun c => Rep U w c) ys →
    ∃ (A : Nat → Option Addr) (L C : Nat → Nat) (R : Nat → List Value), ∀ r x, l[r]? = some x → ys[r]? = some (.slice (A r) (L r) (C r)) ∧ L r = x.length ∧ (A r = none → L r = 0 ∧ C r = 0) ∧ At U w (A r) (R r) ∧ Sq ((x.map Tm.cv).map fun c => Rep U w c) (R r)
  | [], ys, h => ⟨fun _ => none, fun _ => 0, fun _ => 0, fun _ => [], fun r x hx => by simp at hx⟩
  | x :: l, ys, h => by
    obtain ⟨y1, y2, rfl, h1, h2⟩ := h
    obtain ⟨a, n, c, rfl, g1, g2, g3, g4, zs, g5, g6⟩ := rep_lst.1 h1
    obtain ⟨A, L, C, R, hR⟩ := sq_rows (l := l) h2
    refine ⟨fun r => match r with | 0 => a | r + 1 => A r, fun r => match r with | 0 => n | r + 1 => L r, fun r => match r with | 0 => c | r + 1 => C r, fun r => match r with | 0 => zs | r + 1 => R r, fun r y hy => ?_⟩
    cases r with
    | zero =>
      simp at hy
      subst hy
      exact ⟨rfl, by rw [g1, List.length_map], g4, g5, g6⟩
    | succ r =>
      simp at hy
      exact hR r y hy
theorem sq_joined {U : Nat → Nat → Prop} {w : World} {l : List (List Tm)} {L : Nat → Nat} {R : Nat → List Value} (h : ∀ r x, l[r]? = some x → L r = x.length ∧ Sq ((x.map Tm.cv).map fun c => Rep U w c) (R r)) :
    ∀ k, k ≤ l.length → Sq (((l.take k).flatten.map Tm.cv).map fun c => Rep U w c) (joinV R k) ∧ lenJ L k = (l.take k).flatten.length := by
  intro k
  induction k with
  | zero => intro _; exact ⟨rfl, rfl⟩
  | succ k ih =>
    intro hk
    obtain ⟨h1, h2⟩ := ih (by omega)
    obtain ⟨x, hx⟩ : ∃ x, l[k]? = some x := ⟨l[k], List.getElem?_eq_getElem (by omega)⟩
    obtain ⟨h3, h4⟩ := h k x hx
    rw [List.take_add_one, hx, List.flatten_append, joinV, lenJ, List.map_append, List.map_append, List.length_append, h2, h3]
    simp only [Option.toList_some, List.flatten_cons, List.flatten_nil, List.append_nil]
    exact ⟨sq_append h1 h4, trivial⟩
theorem concat_abs (W : World) (l : List (List Tm)) (hl : l.length ≤ 1000) (hs : l.flatten.length ≤ 1099511627776) : AFun Try.prog W 52 [.lst (l.map fun x => CV.lst (x.map Tm.cv))] (.val (.lst (l.flatten.map Tm.cv))) := by
  refine ⟨ent_of Try.func52 rfl rfl, .inl rfl, rfl, ?_⟩
  rintro U w vs hW ⟨u1, us1, rfl, h1, h3⟩
  have h3 : us1 = [] := h3
  subst h3
  obtain ⟨a, n, c, rfl, g1, g2, g3, g4, ys, g5, g6⟩ := vrep_lst.1 h1
  rw [List.length_map] at g1
  subst g1
  obtain ⟨A, L, C, R, hR⟩ := sq_rows g6
  obtain ⟨hj, hn⟩ := sq_joined (fun r x hx => ⟨(hR r x hx).2.1, (hR r x hx).2.2.2.2⟩) l.length (Nat.le_refl _)
  rw [List.take_length] at hj hn
  have hrw : Rw 2 w a l.length A L C R := by
    refine ⟨fun r hr => ?_, ?_⟩
    · obtain ⟨k1, k2, k3, k4, k5⟩ := hR r _ (List.getElem?_eq_getElem hr)
      refine ⟨k3, cs_of_at k4, ?_, rep_one_of k5⟩
      rw [sq_len (n := fun _ => 2) (fun c hc xs hx => by
        obtain ⟨t, _, rfl⟩ := List.mem_map.1 hc
        rw [hx.len]
        exact Tm.size_cv t) k5, k2]
      rw [List.map_const', List.sum_replicate_nat]
      simp
    · by_cases hz : l.length = 0
      · exact .inl hz
      · refine .inr ?_
        have hc := cs_of_at g5
        have hy0 := (hR 0 _ (List.getElem?_eq_getElem (by omega : 0 < l.length))).1
        rcases hc with hc | ⟨b, off, ha, hb, hc⟩
        · rw [hc] at hy0; simp at hy0
        · refine ⟨b, off, ha, hb, fun r hr => ?_⟩
          have hy := (hR r _ (List.getElem?_eq_getElem hr)).1
          have hlt : r < ys.length := by
            rcases Nat.lt_or_ge r ys.length with h | h
            · exact h
            · rw [List.getElem?_eq_none h] at hy; cases hy
          rw [hc r hlt, hy]
  refine (concatT_any a l.length c A L C R w hrw hl (by rw [hn]; exact hs)).mono ?_
  rintro e w' ⟨v, rfl, ho, hb⟩
  obtain ⟨a', c', rfl, k1, k2, k3, k4⟩ := ownsRow_at ho
  refine ⟨_, rfl, vrep_lst.2 ⟨a', _, c', rfl, by rw [hn, List.length_map], k1, k2, k3, _, k4.keep fun b o v h1 h2 => ⟨.inr h1, h2⟩, hj.keep fun b o v h1 h2 => ⟨.inl h1, ?_⟩⟩, hb⟩
  rw [hb.cell (World.block_lt_of_cell? w _ h2)]
  exact h2

theorem sq_prs {w : World} {V : Nat → Prop} : ∀ {xs : List Pr}, (∀ x ∈ xs, x.ok V w) → Sq (((xs.map Pr.p).map fun p => CV.lst (p.map CV.i)).map fun c => Rep (fun b _ => V b) w c) (xs.map Pr.v)
  | [], _ => rfl
  | x :: xs, h => by
    obtain ⟨h1, h2, h3, h4, h5⟩ := h x (by simp)
    exact ⟨[x.v], xs.map Pr.v, rfl, rep_lst.2 ⟨x.a, x.n, x.c, rfl, by rw [List.length_map]; exact h1, h2, h3, h4, _, at_of_cu h5, sq_ints _⟩, sq_prs fun y hy => h y (List.mem_cons_of_mem _ hy)⟩
theorem places_abs (W : World) {t : Tm} (hr : t.rng) (hs : t.size ≤ 100000000) : AFun Try.prog W 27 [t.cw] (.val (.lst (t.places.map fun p => CV.lst (p.map CV.i)))) := by
  refine ⟨ent_of Try.func27 rfl rfl, .inl rfl, rfl, ?_⟩
  rintro U w vs hW ⟨u1, us1, rfl, h1, h3⟩
  have h3 : us1 = [] := h3
  subst h3
  obtain ⟨a, n, c, rfl, h4⟩ := tat_of_vrep hr h1
  refine (places_any h4 hs).mono ?_
  rintro e w' ⟨a', c', rfl, ⟨xs, ho, hp, hx⟩, hb⟩
  rw [Tm.places_len] at ho
  obtain ⟨a2, c2, e2, k1, k2, k3, k4⟩ := ownsRow_at ho
  injection e2 with q1 q2 q3
  subst q1 q3
  refine ⟨_, rfl, vrep_lst.2 ⟨_, _, _, rfl, by rw [List.length_map, Tm.places_len], k1, k2, k3, _, k4.keep fun b o v h1 h2 => ⟨.inr h1, h2⟩, ?_⟩, hb⟩
  rw [← hp]
  exact (sq_prs hx).keep fun b o v h1 h2 => ⟨.inr h1.1, h2⟩
end Go.Proofs.Ytgmllfjidhbjjab


namespace Go.Proofs.Ytgmllfjidhbjjab
open Go.RowKit
set_option linter.unusedVariables false
set_option linter.unusedSimpArgs false
set_option maxRecDepth 100000

/-- Another term at a place. -/
def putP (u : Tm) : List Int → Tm → Option Tm
  | [], t => some u.strip
  | k :: ks, t => (t.pa k).bind fun s => (putP u ks s).map fun v => ⟨t.f, (t.l.take k.toNat).map Tm.strip ++ v :: (t.l.drop (k.toNat + 1)).map Tm.strip⟩
-- 
set_option maxHeartbeats 2000000 in
theorem put_abs (W : World) (u : Tm) (hu : u.rng) (hus : u.size ≤ 1000000000) : ∀ (p : List Int) (t : Tm), p.length ≤ 1000000 → t.rng → t.size ≤ 100000 → AFun Try.prog W 28 [t.cw, .lst (p.map CV.i), u.cw] (.tup [((putP u p t).getD ⟨0, []⟩).cw, .b (putP u p t).isSome]) := by
  intro p
  induction p with
  | nil =>
    intro t _ _ _
    refine afun_of (rs := [((putP u [] t).getD ⟨0, []⟩).cw, .b (putP u [] t).isSome]) Try.func28 Try.ntmps28 rfl rfl rfl rfl ?_
    intro w U hW
    refine awp_seq (awp_region ?_)
    (refine ⟨_, _, _, a_box (gd_none rfl) rfl rfl rfl rfl rfl, (by first | rfl | kernel_rfl), ?_⟩)
    (refine ⟨_, _, _, a_box (gd_none rfl) rfl rfl rfl rfl rfl, (by first | rfl | kernel_rfl), ?_⟩)
    (refine ⟨_, _, _, a_alloc (gd_none rfl) rfl rfl rfl rfl rfl rfl rfl rfl rfl rfl, (by first | rfl | kernel_rfl), ?_⟩)
    (refine ⟨_, _, _, a_assign (gd_none rfl) rfl rfl rfl rfl rfl, (by first | rfl | kernel_rfl), ?_⟩)
    show AWp _ _ _ _ _ _ _
    refine awp_seq (awp_seq (awp_region ?_))
    (refine ⟨_, _, _, a_move (gd_none rfl) rfl rfl rfl rfl rfl, (by first | rfl | kernel_rfl), ?_⟩)
    (first | (refine ⟨_, _, _, a_len (gd_none rfl) rfl rfl rfl rfl rfl rfl rfl, (by first | rfl | kernel_rfl), ?_⟩) | (refine ⟨_, _, _, a_lenM (gd_none rfl) rfl rfl rfl rfl rfl rfl rfl, (by first | rfl | kernel_rfl), ?_⟩))
    (first | (refine ⟨_, _, _, a_eql (gd_none rfl) rfl rfl rfl rfl rfl rfl, (by first | rfl | kernel_rfl), ?_⟩) | (refine ⟨_, _, _, a_beq (gd_none rfl) rfl rfl rfl rfl rfl rfl rfl, (by first | rfl | kernel_rfl), ?_⟩))
    show AWp _ _ _ _ _ _ _
    refine awp_cond rfl (fun hc => ?_) (fun hc => by cases hc)
    refine awp_seq (awp_region ?_)
    (first | (refine ⟨_, _, _, a_load_all (gd_none rfl) rfl rfl rfl rfl rfl rfl rfl rfl rfl rfl rfl rfl, (by first | rfl | kernel_rfl), ?_⟩) | (refine ⟨_, _, _, a_load_tok (gd_none rfl) rfl rfl rfl rfl rfl rfl rfl rfl rfl rfl rfl rfl rfl, (by first | rfl | kernel_rfl), ?_⟩) | (refine ⟨_, _, _, a_load_bp (gd_none rfl) rfl rfl rfl rfl rfl rfl rfl rfl rfl rfl rfl rfl, (by first | rfl | kernel_rfl), ?_⟩) | (refine ⟨_, _, _, a_load_ad (gd_none rfl) rfl rfl rfl rfl rfl rfl rfl rfl rfl, (by first | rfl | kernel_rfl), ?_⟩) | (refine ⟨_, _, _, a_load_ptr (gd_none rfl) rfl rfl rfl rfl rfl rfl rfl rfl rfl, (by first | rfl | kernel_rfl), ?_⟩) | (refine ⟨_, _, _, a_load_fld (gd_none rfl) rfl rfl rfl rfl rfl rfl rfl rfl rfl rfl rfl rfl rfl, (by first | rfl | kernel_rfl), ?_⟩) | (refine ⟨_, _, _, a_load_fullv (gd_none rfl) rfl rfl rfl rfl rfl rfl rfl rfl rfl, (by first | rfl | kernel_rfl), ?_⟩))
    (refine ⟨_, _, _, a_call (gd_none rfl) rfl rfl rfl rfl rfl (clone_abs w hu hus), (by first | rfl | kernel_rfl), ?_⟩)
    (first | (refine ⟨_, _, _, a_store_all (gd_none rfl) rfl rfl rfl rfl rfl rfl rfl rfl rfl rfl, (by first | rfl | kernel_rfl), ?_⟩) | (refine ⟨_, _, _, a_store (gd_none rfl) rfl rfl rfl rfl rfl rfl rfl rfl rfl rfl, (by first | rfl | kernel_rfl), ?_⟩) | (refine ⟨_, _, _, a_store_fld (gd_none rfl) rfl rfl rfl rfl rfl rfl rfl rfl rfl rfl rfl rfl, (by first | rfl | kernel_rfl), ?_⟩))
    (refine ⟨_, _, _, a_assign (gd_none rfl) rfl rfl rfl rfl rfl, (by first | rfl | kernel_rfl), ?_⟩)
    show AWp _ _ _ _ _ _ _
    exact awp_ret (And.intro (.inr rfl) rfl)
  | cons n p ih =>
    intro t hp hr hts
    rw [List.length_cons] at hp
    have hsp := ints_size (n :: p)
    refine afun_of (rs := [((putP u (n :: p) t).getD ⟨0, []⟩).cw, .b (putP u (n :: p) t).isSome]) Try.func28 Try.ntmps28 rfl rfl rfl rfl ?_
    intro w U hW
    refine awp_seq (awp_region ?_)
    (refine ⟨_, _, _, a_box (gd_none rfl) rfl rfl rfl rfl rfl, (by first | rfl | kernel_rfl), ?_⟩)
    (refine ⟨_, _, _, a_box (gd_none rfl) rfl rfl rfl rfl rfl, (by first | rfl | kernel_rfl), ?_⟩)
    (refine ⟨_, _, _, a_alloc (gd_none rfl) rfl rfl rfl rfl rfl rfl rfl rfl rfl rfl, (by first | rfl | kernel_rfl), ?_⟩)
    (refine ⟨_, _, _, a_assign (gd_none rfl) rfl rfl rfl rfl rfl, (by first | rfl | kernel_rfl), ?_⟩)
    show AWp _ _ _ _ _ _ _
    refine awp_seq (awp_seq (awp_region ?_))
    (refine ⟨_, _, _, a_move (gd_none rfl) rfl rfl rfl rfl rfl, (by first | rfl | kernel_rfl), ?_⟩)
    (first | (refine ⟨_, _, _, a_len (gd_none rfl) rfl rfl rfl rfl rfl rfl rfl, (by first | rfl | kernel_rfl), ?_⟩) | (refine ⟨_, _, _, a_lenM (gd_none rfl) rfl rfl rfl rfl rfl rfl rfl, (by first | rfl | kernel_rfl), ?_⟩))
    (first | (refine ⟨_, _, _, a_eql (gd_none rfl) rfl rfl rfl rfl rfl rfl, (by first | rfl | kernel_rfl), ?_⟩) | (refine ⟨_, _, _, a_beq (gd_none rfl) rfl rfl rfl rfl rfl rfl rfl, (by first | rfl | kernel_rfl), ?_⟩))
    show AWp _ _ _ _ _ _ _
    refine awp_cond rfl (fun hc => ?_) (fun hc => awp_skip ?_)
    · simp at hc
      omega
    clear hc
    show AWp _ _ _ _ _ _ _
    refine awp_seq (awp_region ?_)
    (refine ⟨_, _, _, a_move (gd_none rfl) rfl rfl rfl rfl rfl, (by first | rfl | kernel_rfl), ?_⟩)
    (refine ⟨_, _, _, a_index (j := 0) (gd_none rfl) rfl rfl rfl rfl rfl rfl rfl rfl rfl (rfl) rfl (hsp), (by first | rfl | kernel_rfl), ?_⟩)
    (first | (refine ⟨_, _, _, a_load_all (gd_none rfl) rfl rfl rfl rfl rfl rfl rfl rfl rfl rfl rfl rfl, (by first | rfl | kernel_rfl), ?_⟩) | (refine ⟨_, _, _, a_load_tok (gd_none rfl) rfl rfl rfl rfl rfl rfl rfl rfl rfl rfl rfl rfl rfl, (by first | rfl | kernel_rfl), ?_⟩) | (refine ⟨_, _, _, a_load_bp (gd_none rfl) rfl rfl rfl rfl rfl rfl rfl rfl rfl rfl rfl rfl, (by first | rfl | kernel_rfl), ?_⟩) | (refine ⟨_, _, _, a_load_ad (gd_none rfl) rfl rfl rfl rfl rfl rfl rfl rfl rfl, (by first | rfl | kernel_rfl), ?_⟩) | (refine ⟨_, _, _, a_load_ptr (gd_none rfl) rfl rfl rfl rfl rfl rfl rfl rfl rfl, (by first | rfl | kernel_rfl), ?_⟩) | (refine ⟨_, _, _, a_load_fld (gd_none rfl) rfl rfl rfl rfl rfl rfl rfl rfl rfl rfl rfl rfl rfl, (by first | rfl | kernel_rfl), ?_⟩) | (refine ⟨_, _, _, a_load_fullv (gd_none rfl) rfl rfl rfl rfl rfl rfl rfl rfl rfl, (by first | rfl | kernel_rfl), ?_⟩))
    (refine ⟨_, _, _, a_assign (gd_none rfl) rfl rfl rfl rfl rfl, (by first | rfl | kernel_rfl), ?_⟩)
    show AWp _ _ _ _ _ _ _
    refine awp_seq (awp_seq (awp_region ?_))
    (first | (refine ⟨_, _, _, a_load_all (gd_none rfl) rfl rfl rfl rfl rfl rfl rfl rfl rfl rfl rfl rfl, (by first | rfl | kernel_rfl), ?_⟩) | (refine ⟨_, _, _, a_load_tok (gd_none rfl) rfl rfl rfl rfl rfl rfl rfl rfl rfl rfl rfl rfl rfl, (by first | rfl | kernel_rfl), ?_⟩) | (refine ⟨_, _, _, a_load_bp (gd_none rfl) rfl rfl rfl rfl rfl rfl rfl rfl rfl rfl rfl rfl, (by first | rfl | kernel_rfl), ?_⟩) | (refine ⟨_, _, _, a_load_ad (gd_none rfl) rfl rfl rfl rfl rfl rfl rfl rfl rfl, (by first | rfl | kernel_rfl), ?_⟩) | (refine ⟨_, _, _, a_load_ptr (gd_none rfl) rfl rfl rfl rfl rfl rfl rfl rfl rfl, (by first | rfl | kernel_rfl), ?_⟩) | (refine ⟨_, _, _, a_load_fld (gd_none rfl) rfl rfl rfl rfl rfl rfl rfl rfl rfl rfl rfl rfl rfl, (by first | rfl | kernel_rfl), ?_⟩) | (refine ⟨_, _, _, a_load_fullv (gd_none rfl) rfl rfl rfl rfl rfl rfl rfl rfl rfl, (by first | rfl | kernel_rfl), ?_⟩))
    (refine ⟨_, _, _, a_move (gd_none rfl) rfl rfl rfl rfl rfl, (by first | rfl | kernel_rfl), ?_⟩)
    (refine ⟨_, _, _, a_call (gd_none rfl) rfl rfl rfl rfl rfl (hasPart_abs w t n), (by first | rfl | kernel_rfl), ?_⟩)
    (refine ⟨_, _, _, a_not (gd_none rfl) rfl rfl rfl rfl rfl, (by first | rfl | kernel_rfl), ?_⟩)
    show AWp _ _ _ _ _ _ _
    refine awp_cond rfl (fun hc => ?_) (fun hc => awp_skip ?_)
    · have hno : t.pa n = none := by simpa using hc
      have e : putP u (n :: p) t = none := by rw [putP, hno]; rfl
      rw [e]
      refine awp_seq (awp_region ?_)
      (refine ⟨_, _, _, a_build (gd_none rfl) rfl rfl rfl rfl rfl rfl rfl rfl rfl rfl rfl, (by first | rfl | kernel_rfl), ?_⟩)
      (first | (refine ⟨_, _, _, a_store_all (gd_none rfl) rfl rfl rfl rfl rfl rfl rfl rfl rfl rfl, (by first | rfl | kernel_rfl), ?_⟩) | (refine ⟨_, _, _, a_store (gd_none rfl) rfl rfl rfl rfl rfl rfl rfl rfl rfl rfl, (by first | rfl | kernel_rfl), ?_⟩) | (refine ⟨_, _, _, a_store_fld (gd_none rfl) rfl rfl rfl rfl rfl rfl rfl rfl rfl rfl rfl rfl, (by first | rfl | kernel_rfl), ?_⟩))
      (refine ⟨_, _, _, a_assign (gd_none rfl) rfl rfl rfl rfl rfl, (by first | rfl | kernel_rfl), ?_⟩)
      show AWp _ _ _ _ _ _ _
      exact awp_ret (And.intro (.inr rfl) rfl)
    obtain ⟨s, hs⟩ : ∃ s, t.pa n = some s := Option.isSome_iff_exists.1 (by simpa using hc)
    clear hc
    have hn0 : 0 ≤ n := by
      unfold Tm.pa at hs
      split at hs
      · assumption
      · cases hs
    have hsym := pa_sym hs
    have hl : t.l[n.toNat]? = some s := by
      have hs := hs
      unfold Tm.pa at hs
      rw [if_pos hn0, Tm.ps_of_sym (by omega)] at hs
      exact hs
    have hl' := Tm.map_at hl
    have hsz := Tm.size_all t.l
    obtain ⟨m, hm⟩ : ∃ m : Nat, n = m := ⟨n.toNat, by omega⟩
    subst hm
    rw [Int.toNat_natCast] at hl hl'
    have hml : m < t.l.length := by
      rcases Nat.lt_or_ge m t.l.length with h | h
      · exact h
      · rw [List.getElem?_eq_none h] at hl; cases hl
    have hml' : m < (t.l.map Tm.cv).length := by rw [List.length_map]; exact hml
    have hrs := ((Tm.rng_iff _).1 hr).2
    have hparts : ∀ x ∈ t.l, x.rng ∧ x.size ≤ 100000 := fun x hx => ⟨hrs x hx, by
      have h1 := Tm.size_eq t
      rw [Tm.ps_of_sym (by omega)] at h1
      have := flatMap_len_mem Tm.flat hx
      have h2 : x.size = x.flat.length := rfl
      omega⟩
    have hlen : t.l.length ≤ 100000 := by
      have h1 := Tm.size_eq t
      rw [Tm.ps_of_sym (by omega)] at h1
      have : ∀ l : List Tm, l.length ≤ (l.flatMap Tm.flat).length := by
        intro l
        induction l with
        | nil => exact Nat.le_refl _
        | cons x l ih =>
          rw [List.flatMap_cons, List.length_append, List.length_cons]
          have : 0 < x.flat.length := by rw [Tm.flat_eq]; simp
          omega
      have := this t.l
      omega
    have hsb := hparts s (List.mem_of_getElem? hl)
    have h1l : 1 ≤ (List.map CV.i ((m : Int) :: p)).length := by simp
    show AWp _ _ _ _ _ _ _
    have hP := (ih s (by omega) hsb.1 hsb.2).up hW
    refine awp_seq (awp_draw (by kernel_rfl) (by kernel_rfl) ?_)
    (first | (refine ⟨_, _, _, a_field_bp (gd_none rfl) rfl rfl rfl rfl rfl rfl rfl rfl rfl, (by first | rfl | kernel_rfl), ?_⟩) | (refine ⟨_, _, _, a_field_ad (gd_none rfl) rfl rfl rfl rfl rfl rfl rfl rfl rfl rfl rfl, (by first | rfl | kernel_rfl), ?_⟩) | (refine ⟨_, _, _, a_fieldM (gd_none rfl) rfl rfl rfl rfl rfl rfl rfl rfl rfl, (by first | rfl | kernel_rfl), ?_⟩))
    (first | (refine ⟨_, _, _, a_load_all (gd_none rfl) rfl rfl rfl rfl rfl rfl rfl rfl rfl rfl rfl rfl, (by first | rfl | kernel_rfl), ?_⟩) | (refine ⟨_, _, _, a_load_tok (gd_none rfl) rfl rfl rfl rfl rfl rfl rfl rfl rfl rfl rfl rfl rfl, (by first | rfl | kernel_rfl), ?_⟩) | (refine ⟨_, _, _, a_load_bp (gd_none rfl) rfl rfl rfl rfl rfl rfl rfl rfl rfl rfl rfl rfl, (by first | rfl | kernel_rfl), ?_⟩) | (refine ⟨_, _, _, a_load_ad (gd_none rfl) rfl rfl rfl rfl rfl rfl rfl rfl rfl, (by first | rfl | kernel_rfl), ?_⟩) | (refine ⟨_, _, _, a_load_ptr (gd_none rfl) rfl rfl rfl rfl rfl rfl rfl rfl rfl, (by first | rfl | kernel_rfl), ?_⟩) | (refine ⟨_, _, _, a_load_fld (gd_none rfl) rfl rfl rfl rfl rfl rfl rfl rfl rfl rfl rfl rfl rfl, (by first | rfl | kernel_rfl), ?_⟩) | (refine ⟨_, _, _, a_load_fullv (gd_none rfl) rfl rfl rfl rfl rfl rfl rfl rfl rfl, (by first | rfl | kernel_rfl), ?_⟩))
    (refine ⟨_, _, _, a_move (gd_none rfl) rfl rfl rfl rfl rfl, (by first | rfl | kernel_rfl), ?_⟩)
    (refine ⟨_, _, _, a_index (gd_none rfl) rfl rfl rfl rfl rfl rfl rfl rfl rfl (by assumption) rfl (by first | assumption | exact szAll_spec rfl | exact Tm.size_all _ | exact Bd.size_all _ | exact ints_size _), (by first | rfl | kernel_rfl), ?_⟩)
    (first | (refine ⟨_, _, _, a_load_all (gd_none rfl) rfl rfl rfl rfl rfl rfl rfl rfl rfl rfl rfl rfl, (by first | rfl | kernel_rfl), ?_⟩) | (refine ⟨_, _, _, a_load_tok (gd_none rfl) rfl rfl rfl rfl rfl rfl rfl rfl rfl rfl rfl rfl rfl, (by first | rfl | kernel_rfl), ?_⟩) | (refine ⟨_, _, _, a_load_bp (gd_none rfl) rfl rfl rfl rfl rfl rfl rfl rfl rfl rfl rfl rfl, (by first | rfl | kernel_rfl), ?_⟩) | (refine ⟨_, _, _, a_load_ad (gd_none rfl) rfl rfl rfl rfl rfl rfl rfl rfl rfl, (by first | rfl | kernel_rfl), ?_⟩) | (refine ⟨_, _, _, a_load_ptr (gd_none rfl) rfl rfl rfl rfl rfl rfl rfl rfl rfl, (by first | rfl | kernel_rfl), ?_⟩) | (refine ⟨_, _, _, a_load_fld (gd_none rfl) rfl rfl rfl rfl rfl rfl rfl rfl rfl rfl rfl rfl rfl, (by first | rfl | kernel_rfl), ?_⟩) | (refine ⟨_, _, _, a_load_fullv (gd_none rfl) rfl rfl rfl rfl rfl rfl rfl rfl rfl, (by first | rfl | kernel_rfl), ?_⟩))
    (refine ⟨_, _, _, a_move (gd_none rfl) rfl rfl rfl rfl rfl, (by first | rfl | kernel_rfl), ?_⟩)
    (refine ⟨_, _, _, a_from (gd_none rfl) rfl rfl rfl rfl rfl rfl rfl rfl rfl (by omega) (by first | assumption | exact szAll_spec rfl | exact Tm.size_all _ | exact Bd.size_all _ | exact ints_size _), (by first | rfl | kernel_rfl), ?_⟩)
    (first | (refine ⟨_, _, _, a_load_all (gd_none rfl) rfl rfl rfl rfl rfl rfl rfl rfl rfl rfl rfl rfl, (by first | rfl | kernel_rfl), ?_⟩) | (refine ⟨_, _, _, a_load_tok (gd_none rfl) rfl rfl rfl rfl rfl rfl rfl rfl rfl rfl rfl rfl rfl, (by first | rfl | kernel_rfl), ?_⟩) | (refine ⟨_, _, _, a_load_bp (gd_none rfl) rfl rfl rfl rfl rfl rfl rfl rfl rfl rfl rfl rfl, (by first | rfl | kernel_rfl), ?_⟩) | (refine ⟨_, _, _, a_load_ad (gd_none rfl) rfl rfl rfl rfl rfl rfl rfl rfl rfl, (by first | rfl | kernel_rfl), ?_⟩) | (refine ⟨_, _, _, a_load_ptr (gd_none rfl) rfl rfl rfl rfl rfl rfl rfl rfl rfl, (by first | rfl | kernel_rfl), ?_⟩) | (refine ⟨_, _, _, a_load_fld (gd_none rfl) rfl rfl rfl rfl rfl rfl rfl rfl rfl rfl rfl rfl rfl, (by first | rfl | kernel_rfl), ?_⟩) | (refine ⟨_, _, _, a_load_fullv (gd_none rfl) rfl rfl rfl rfl rfl rfl rfl rfl rfl, (by first | rfl | kernel_rfl), ?_⟩))
    (refine ⟨_, _, _, a_call (gd_none rfl) rfl rfl rfl rfl rfl (hP), (by first | rfl | kernel_rfl), ?_⟩)
    (refine ⟨_, _, _, a_move (gd_none rfl) rfl rfl rfl rfl rfl, (by first | rfl | kernel_rfl), ?_⟩)
    (refine ⟨_, _, _, a_extract (gd_none rfl) rfl rfl rfl rfl rfl rfl, (by first | rfl | kernel_rfl), ?_⟩)
    (refine ⟨_, _, _, a_extract (gd_none rfl) rfl rfl rfl rfl rfl rfl, (by first | rfl | kernel_rfl), ?_⟩)
    (refine ⟨_, _, _, a_alloc (gd_none rfl) rfl rfl rfl rfl rfl rfl rfl rfl rfl rfl, (by first | rfl | kernel_rfl), ?_⟩)
    (first | (refine ⟨_, _, _, a_store_all (gd_none rfl) rfl rfl rfl rfl rfl rfl rfl rfl rfl rfl, (by first | rfl | kernel_rfl), ?_⟩) | (refine ⟨_, _, _, a_store (gd_none rfl) rfl rfl rfl rfl rfl rfl rfl rfl rfl rfl, (by first | rfl | kernel_rfl), ?_⟩) | (refine ⟨_, _, _, a_store_fld (gd_none rfl) rfl rfl rfl rfl rfl rfl rfl rfl rfl rfl rfl rfl, (by first | rfl | kernel_rfl), ?_⟩))
    (refine ⟨_, _, _, a_assign (gd_none rfl) rfl rfl rfl rfl rfl, (by first | rfl | kernel_rfl), ?_⟩)
    refine ⟨by kernel_rfl, ?_⟩
    show AWp _ _ _ _ _ _ _
    refine awp_seq (awp_seq (awp_region ?_))
    (refine ⟨_, _, _, a_move (gd_none rfl) rfl rfl rfl rfl rfl, (by first | rfl | kernel_rfl), ?_⟩)
    (refine ⟨_, _, _, a_not (gd_none rfl) rfl rfl rfl rfl rfl, (by first | rfl | kernel_rfl), ?_⟩)
    show AWp _ _ _ _ _ _ _
    refine awp_cond rfl (fun hc => ?_) (fun hc => awp_skip ?_)
    · have hno : putP u p s = none := by simpa using hc
      have e : putP u ((m : Int) :: p) t = none := by rw [putP, hs, Option.bind_some, hno]; rfl
      rw [e]
      refine awp_seq (awp_region ?_)
      (refine ⟨_, _, _, a_build (gd_none rfl) rfl rfl rfl rfl rfl rfl rfl rfl rfl rfl rfl, (by first | rfl | kernel_rfl), ?_⟩)
      (first | (refine ⟨_, _, _, a_store_all (gd_none rfl) rfl rfl rfl rfl rfl rfl rfl rfl rfl rfl, (by first | rfl | kernel_rfl), ?_⟩) | (refine ⟨_, _, _, a_store (gd_none rfl) rfl rfl rfl rfl rfl rfl rfl rfl rfl rfl, (by first | rfl | kernel_rfl), ?_⟩) | (refine ⟨_, _, _, a_store_fld (gd_none rfl) rfl rfl rfl rfl rfl rfl rfl rfl rfl rfl rfl rfl, (by first | rfl | kernel_rfl), ?_⟩))
      (refine ⟨_, _, _, a_assign (gd_none rfl) rfl rfl rfl rfl rfl, (by first | rfl | kernel_rfl), ?_⟩)
      show AWp _ _ _ _ _ _ _
      exact awp_ret (And.intro (.inr rfl) rfl)
    obtain ⟨v, hv⟩ : ∃ v, putP u p s = some v := Option.isSome_iff_exists.1 (by simpa using hc)
    clear hc
    have e : putP u ((m : Int) :: p) t = some ⟨t.f, (t.l.take m).map Tm.strip ++ v :: (t.l.drop (m + 1)).map Tm.strip⟩ := by rw [putP, hs, Option.bind_some, hv]; rfl
    rw [e, hv]
    have c1 := cloneAll_abs w (t.l.take m) (by rw [List.length_take]; omega) (fun x hx => ⟨(hparts x (List.mem_of_mem_take hx)).1, by have := (hparts x (List.mem_of_mem_take hx)).2; omega⟩)
    have c2 := cloneAll_abs w (t.l.drop (m + 1)) (by rw [List.length_drop]; omega) (fun x hx => ⟨(hparts x (List.mem_of_mem_drop hx)).1, by have := (hparts x (List.mem_of_mem_drop hx)).2; omega⟩)
    rw [show (t.l.take m).map Tm.cv = (t.l.map Tm.cv).take m from List.map_take] at c1
    rw [show (t.l.drop (m + 1)).map Tm.cv = (t.l.map Tm.cv).drop (m + 1) from List.map_drop] at c2
    obtain ⟨A, hA⟩ : ∃ A, A = (t.l.take m).map Tm.strip := ⟨_, rfl⟩
    obtain ⟨B, hB⟩ : ∃ B, B = (t.l.drop (m + 1)).map Tm.strip := ⟨_, rfl⟩
    have hAl : A.length ≤ 100000 := by rw [hA, List.length_map, List.length_take]; omega
    have hBl : B.length ≤ 100000 := by rw [hB, List.length_map, List.length_drop]; omega
    rw [← hA] at c1 ⊢
    rw [← hB] at c2 ⊢
    have c3 : AFun Try.prog w 52 [.lst [.lst (A.map Tm.cv), .lst [v.cw], .lst (B.map Tm.cv)]] (.val (.lst ((A ++ v :: B).map Tm.cv))) := by
      have := concat_abs w [A, [v], B] (by simp) (by simp; omega)
      simpa only [List.map_cons, List.map_nil, Tm.cv_eq, List.flatten_cons, List.flatten_nil, List.append_nil, List.cons_append, List.nil_append, List.singleton_append] using this
    show AWp _ _ _ _ _ _ _
    refine AWp.wk (wk_sub (s' := [(3, .bp 3 0 []), (100003, .bx t.cw), (6, .bp 6 0 []), (100006, ⟨5, .row [.i 0, .lst []], 1, 0, [1]⟩), (8, .val (.i m)), (9, .bp 9 0 []), (100009, .bx v.cw)]) ⟨rfl, rfl, rfl, rfl, rfl, rfl, rfl, trivial⟩) ?_
    refine awp_seq (awp_draw (by kernel_rfl) (by kernel_rfl) ?_)
    (first | (refine ⟨_, _, _, a_field_bp (gd_none rfl) rfl rfl rfl rfl rfl rfl rfl rfl rfl, (by first | rfl | kernel_rfl), ?_⟩) | (refine ⟨_, _, _, a_field_ad (gd_none rfl) rfl rfl rfl rfl rfl rfl rfl rfl rfl rfl rfl, (by first | rfl | kernel_rfl), ?_⟩) | (refine ⟨_, _, _, a_fieldM (gd_none rfl) rfl rfl rfl rfl rfl rfl rfl rfl rfl, (by first | rfl | kernel_rfl), ?_⟩))
    (first | (refine ⟨_, _, _, a_load_all (gd_none rfl) rfl rfl rfl rfl rfl rfl rfl rfl rfl rfl rfl rfl, (by first | rfl | kernel_rfl), ?_⟩) | (refine ⟨_, _, _, a_load_tok (gd_none rfl) rfl rfl rfl rfl rfl rfl rfl rfl rfl rfl rfl rfl rfl, (by first | rfl | kernel_rfl), ?_⟩) | (refine ⟨_, _, _, a_load_bp (gd_none rfl) rfl rfl rfl rfl rfl rfl rfl rfl rfl rfl rfl rfl, (by first | rfl | kernel_rfl), ?_⟩) | (refine ⟨_, _, _, a_load_ad (gd_none rfl) rfl rfl rfl rfl rfl rfl rfl rfl rfl, (by first | rfl | kernel_rfl), ?_⟩) | (refine ⟨_, _, _, a_load_ptr (gd_none rfl) rfl rfl rfl rfl rfl rfl rfl rfl rfl, (by first | rfl | kernel_rfl), ?_⟩) | (refine ⟨_, _, _, a_load_fld (gd_none rfl) rfl rfl rfl rfl rfl rfl rfl rfl rfl rfl rfl rfl rfl, (by first | rfl | kernel_rfl), ?_⟩) | (refine ⟨_, _, _, a_load_fullv (gd_none rfl) rfl rfl rfl rfl rfl rfl rfl rfl rfl, (by first | rfl | kernel_rfl), ?_⟩))
    (refine ⟨_, _, _, a_move (gd_none rfl) rfl rfl rfl rfl rfl, (by first | rfl | kernel_rfl), ?_⟩)
    (refine ⟨_, _, _, a_upto (gd_none rfl) rfl rfl rfl rfl rfl rfl rfl rfl rfl (by omega) (by first | assumption | exact szAll_spec rfl | exact Tm.size_all _ | exact Bd.size_all _ | exact ints_size _), (by first | rfl | kernel_rfl), ?_⟩)
    (refine ⟨_, _, _, a_call (gd_none rfl) rfl rfl rfl rfl rfl (c1), (by first | rfl | kernel_rfl), ?_⟩)
    (first | (refine ⟨_, _, _, a_load_all (gd_none rfl) rfl rfl rfl rfl rfl rfl rfl rfl rfl rfl rfl rfl, (by first | rfl | kernel_rfl), ?_⟩) | (refine ⟨_, _, _, a_load_tok (gd_none rfl) rfl rfl rfl rfl rfl rfl rfl rfl rfl rfl rfl rfl rfl, (by first | rfl | kernel_rfl), ?_⟩) | (refine ⟨_, _, _, a_load_bp (gd_none rfl) rfl rfl rfl rfl rfl rfl rfl rfl rfl rfl rfl rfl, (by first | rfl | kernel_rfl), ?_⟩) | (refine ⟨_, _, _, a_load_ad (gd_none rfl) rfl rfl rfl rfl rfl rfl rfl rfl rfl, (by first | rfl | kernel_rfl), ?_⟩) | (refine ⟨_, _, _, a_load_ptr (gd_none rfl) rfl rfl rfl rfl rfl rfl rfl rfl rfl, (by first | rfl | kernel_rfl), ?_⟩) | (refine ⟨_, _, _, a_load_fld (gd_none rfl) rfl rfl rfl rfl rfl rfl rfl rfl rfl rfl rfl rfl rfl, (by first | rfl | kernel_rfl), ?_⟩) | (refine ⟨_, _, _, a_load_fullv (gd_none rfl) rfl rfl rfl rfl rfl rfl rfl rfl rfl, (by first | rfl | kernel_rfl), ?_⟩))
    (refine ⟨_, _, _, a_bslice (gd_none rfl) rfl rfl rfl rfl rfl rfl rfl rfl rfl rfl rfl rfl rfl, (by first | rfl | kernel_rfl), ?_⟩)
    (first | (refine ⟨_, _, _, a_field_bp (gd_none rfl) rfl rfl rfl rfl rfl rfl rfl rfl rfl, (by first | rfl | kernel_rfl), ?_⟩) | (refine ⟨_, _, _, a_field_ad (gd_none rfl) rfl rfl rfl rfl rfl rfl rfl rfl rfl rfl rfl, (by first | rfl | kernel_rfl), ?_⟩) | (refine ⟨_, _, _, a_fieldM (gd_none rfl) rfl rfl rfl rfl rfl rfl rfl rfl rfl, (by first | rfl | kernel_rfl), ?_⟩))
    (first | (refine ⟨_, _, _, a_load_all (gd_none rfl) rfl rfl rfl rfl rfl rfl rfl rfl rfl rfl rfl rfl, (by first | rfl | kernel_rfl), ?_⟩) | (refine ⟨_, _, _, a_load_tok (gd_none rfl) rfl rfl rfl rfl rfl rfl rfl rfl rfl rfl rfl rfl rfl, (by first | rfl | kernel_rfl), ?_⟩) | (refine ⟨_, _, _, a_load_bp (gd_none rfl) rfl rfl rfl rfl rfl rfl rfl rfl rfl rfl rfl rfl, (by first | rfl | kernel_rfl), ?_⟩) | (refine ⟨_, _, _, a_load_ad (gd_none rfl) rfl rfl rfl rfl rfl rfl rfl rfl rfl, (by first | rfl | kernel_rfl), ?_⟩) | (refine ⟨_, _, _, a_load_ptr (gd_none rfl) rfl rfl rfl rfl rfl rfl rfl rfl rfl, (by first | rfl | kernel_rfl), ?_⟩) | (refine ⟨_, _, _, a_load_fld (gd_none rfl) rfl rfl rfl rfl rfl rfl rfl rfl rfl rfl rfl rfl rfl, (by first | rfl | kernel_rfl), ?_⟩) | (refine ⟨_, _, _, a_load_fullv (gd_none rfl) rfl rfl rfl rfl rfl rfl rfl rfl rfl, (by first | rfl | kernel_rfl), ?_⟩))
    (refine ⟨_, _, _, a_move (gd_none rfl) rfl rfl rfl rfl rfl, (by first | rfl | kernel_rfl), ?_⟩)
    (refine ⟨_, _, _, a_add (gd_none rfl) rfl rfl rfl rfl rfl rfl (by first | omega | (simp only [List.length_map, List.length_append, List.length_cons, List.length_nil] <;> omega) | (simp <;> omega)), (by first | rfl | kernel_rfl), ?_⟩)
    (refine ⟨_, _, _, a_from (lo := m + 1) (gd_none rfl) rfl rfl rfl rfl rfl rfl rfl rfl rfl (by omega) (by first | assumption | exact szAll_spec rfl | exact Tm.size_all _ | exact Bd.size_all _ | exact ints_size _), (by first | rfl | kernel_rfl), ?_⟩)
    (refine ⟨_, _, _, a_call (gd_none rfl) rfl rfl rfl rfl rfl (c2), (by first | rfl | kernel_rfl), ?_⟩)
    (refine ⟨_, _, _, a_bslice (gd_none rfl) rfl rfl rfl rfl rfl rfl rfl rfl rfl rfl rfl rfl rfl, (by first | rfl | kernel_rfl), ?_⟩)
    (refine ⟨_, _, _, a_call (gd_none rfl) rfl rfl rfl rfl rfl (c3), (by first | rfl | kernel_rfl), ?_⟩)
    (refine ⟨_, _, _, a_assign (gd_none rfl) rfl rfl rfl rfl rfl, (by first | rfl | kernel_rfl), ?_⟩)
    refine ⟨by kernel_rfl, ?_⟩
    show AWp _ _ _ _ _ _ _
    refine awp_seq (awp_region ?_)
    (first | (refine ⟨_, _, _, a_field_bp (gd_none rfl) rfl rfl rfl rfl rfl rfl rfl rfl rfl, (by first | rfl | kernel_rfl), ?_⟩) | (refine ⟨_, _, _, a_field_ad (gd_none rfl) rfl rfl rfl rfl rfl rfl rfl rfl rfl rfl rfl, (by first | rfl | kernel_rfl), ?_⟩) | (refine ⟨_, _, _, a_fieldM (gd_none rfl) rfl rfl rfl rfl rfl rfl rfl rfl rfl, (by first | rfl | kernel_rfl), ?_⟩))
    (first | (refine ⟨_, _, _, a_load_all (gd_none rfl) rfl rfl rfl rfl rfl rfl rfl rfl rfl rfl rfl rfl, (by first | rfl | kernel_rfl), ?_⟩) | (refine ⟨_, _, _, a_load_tok (gd_none rfl) rfl rfl rfl rfl rfl rfl rfl rfl rfl rfl rfl rfl rfl, (by first | rfl | kernel_rfl), ?_⟩) | (refine ⟨_, _, _, a_load_bp (gd_none rfl) rfl rfl rfl rfl rfl rfl rfl rfl rfl rfl rfl rfl, (by first | rfl | kernel_rfl), ?_⟩) | (refine ⟨_, _, _, a_load_ad (gd_none rfl) rfl rfl rfl rfl rfl rfl rfl rfl rfl, (by first | rfl | kernel_rfl), ?_⟩) | (refine ⟨_, _, _, a_load_ptr (gd_none rfl) rfl rfl rfl rfl rfl rfl rfl rfl rfl, (by first | rfl | kernel_rfl), ?_⟩) | (refine ⟨_, _, _, a_load_fld (gd_none rfl) rfl rfl rfl rfl rfl rfl rfl rfl rfl rfl rfl rfl rfl, (by first | rfl | kernel_rfl), ?_⟩) | (refine ⟨_, _, _, a_load_fullv (gd_none rfl) rfl rfl rfl rfl rfl rfl rfl rfl rfl, (by first | rfl | kernel_rfl), ?_⟩))
    (refine ⟨_, _, _, a_move (gd_none rfl) rfl rfl rfl rfl rfl, (by first | rfl | kernel_rfl), ?_⟩)
    (refine ⟨_, _, _, a_build (gd_none rfl) rfl rfl rfl rfl rfl rfl rfl rfl rfl rfl rfl, (by first | rfl | kernel_rfl), ?_⟩)
    (first | (refine ⟨_, _, _, a_store_all (gd_none rfl) rfl rfl rfl rfl rfl rfl rfl rfl rfl rfl, (by first | rfl | kernel_rfl), ?_⟩) | (refine ⟨_, _, _, a_store (gd_none rfl) rfl rfl rfl rfl rfl rfl rfl rfl rfl rfl, (by first | rfl | kernel_rfl), ?_⟩) | (refine ⟨_, _, _, a_store_fld (gd_none rfl) rfl rfl rfl rfl rfl rfl rfl rfl rfl rfl rfl rfl, (by first | rfl | kernel_rfl), ?_⟩))
    (refine ⟨_, _, _, a_assign (gd_none rfl) rfl rfl rfl rfl rfl, (by first | rfl | kernel_rfl), ?_⟩)
    show AWp _ _ _ _ _ _ _
    exact awp_ret (And.intro (.inr rfl) rfl)
end Go.Proofs.Ytgmllfjidhbjjab


namespace Go.Proofs.Ytgmllfjidhbjjab
set_option linter.unusedVariables false
set_option linter.unusedSimpArgs false

theorem size_parts {t : Tm} (h : ¬ t.f < 0) : t.size = 1 + (t.l.map Tm.size).sum := by
  rw [Tm.size_eq, Tm.ps_of_sym (by omega), List.length_flatMap]
  rfl
theorem mem_placesL : ∀ {l : List Tm} {k : Nat} {p : List Int}, p ∈ Tm.placesL l k → ∃ i s q, l[i]? = some s ∧ q ∈ s.places ∧ p = ((k + i : Nat) : Int) :: q
  | [], k, p, h => by rw [placesL_nil] at h; cases h
  | t :: ts, k, p, h => by
    rw [placesL_cons] at h
    rcases List.mem_append.1 h with h | h
    · obtain ⟨q, hq, rfl⟩ := List.mem_map.1 h
      exact ⟨0, t, q, rfl, hq, rfl⟩
    · obtain ⟨i, s, q, h1, h2, h3⟩ := mem_placesL h
      exact ⟨i + 1, s, q, by simpa using h1, h2, by rw [h3]; congr 2; omega⟩
theorem places_at (t : Tm) : ∀ p ∈ t.places, (∃ s, atP p t = some s) ∧ p.length < t.size := by
  induction t using Tm.indp with
  | h t ih =>
    intro p hp
    rw [Tm.places_eq] at hp
    rcases List.mem_cons.1 hp with rfl | hp
    · exact ⟨⟨t, rfl⟩, by rw [Tm.size_eq]; simp; omega⟩
    · obtain ⟨i, s, q, h1, h2, rfl⟩ := mem_placesL hp
      obtain ⟨⟨x, hx⟩, hl⟩ := ih s (List.mem_of_getElem? h1) q h2
      have hpa : t.pa ((0 + i : Nat) : Int) = some s := by
        unfold Tm.pa
        rw [if_pos (by omega), Int.toNat_natCast, Nat.zero_add, h1]
      refine ⟨⟨x, by rw [atP, hpa]; exact hx⟩, ?_⟩
      have h3 := Tm.size_eq t
      have h4 := flatMap_len_mem Tm.flat (List.mem_of_getElem? h1)
      have h5 : s.size = s.flat.length := rfl
      rw [List.length_cons]
      omega
theorem pa_nat {t s : Tm} {n : Int} (h : t.pa n = some s) : ∃ m : Nat, n = m ∧ t.l[m]? = some s ∧ ¬ t.f < 0 := by
  have hf := pa_sym h
  unfold Tm.pa at h
  split at h
  · rename_i h0
    rw [Tm.ps_of_sym (by omega)] at h
    exact ⟨n.toNat, by omega, h, hf⟩
  · cases h
theorem split_at {l : List Tm} {m : Nat} {s : Tm} (h : l[m]? = some s) : l = l.take m ++ s :: l.drop (m + 1) ∧ m < l.length := by
  have hm : m < l.length := by
    rcases Nat.lt_or_ge m l.length with h1 | h1
    · exact h1
    · rw [List.getElem?_eq_none h1] at h; cases h
  refine ⟨?_, hm⟩
  have e : l[m] = s := by rw [List.getElem?_eq_getElem hm] at h; exact Option.some.inj h
  rw [← e, ← List.drop_eq_getElem_cons hm, List.take_append_drop]
theorem map_strip2 (l : List Tm) : (l.map Tm.strip).map Tm.strip = l.map Tm.strip := by
  rw [List.map_map]
  exact List.map_congr_left fun s _ => Tm.strip_strip s
/-- What is put is found there; put back it is as it was; sizes add up. -/
theorem putP_facts (u : Tm) (hu : u.rng) : ∀ (p : List Int) (t s : Tm), t.rng → atP p t = some s → ∃ z, putP u p t = some z ∧ z.rng ∧ atP p z = some u.strip ∧ putP s.strip p z = some t.strip ∧ z.size + s.size = t.size + u.size
  | [], t, s, hr, h => by
    cases h
    exact ⟨u.strip, rfl, Tm.strip_rng hu, rfl, by rw [putP, Tm.strip_strip], by rw [Tm.strip_size]; omega⟩
  | k :: ks, t, s, hr, h => by
    rw [atP] at h
    cases hp : t.pa k with
    | none => rw [hp] at h; cases h
    | some x =>
      rw [hp, Option.bind_some] at h
      obtain ⟨m, rfl, hx, hf⟩ := pa_nat hp
      obtain ⟨hsp, hm⟩ := split_at hx
      have hrl := (Tm.rng_iff _).1 hr
      obtain ⟨v, h1, h2, h3, h4, h5⟩ := putP_facts u hu ks x s (hrl.2 x (List.mem_of_getElem? hx)) h
      obtain ⟨A, hA⟩ : ∃ A, A = (t.l.take m).map Tm.strip := ⟨_, rfl⟩
      obtain ⟨B, hB⟩ : ∃ B, B = (t.l.drop (m + 1)).map Tm.strip := ⟨_, rfl⟩
      have hAl : A.length = m := by rw [hA, List.length_map, List.length_take]; omega
      have hpz : (Tm.mk t.f (A ++ v :: B)).pa (m : Int) = some v := by
        unfold Tm.pa
        rw [if_pos (by omega), Int.toNat_natCast, Tm.ps_of_sym (t := ⟨t.f, _⟩) (by show 0 ≤ t.f; omega)]
        show (A ++ v :: B)[m]? = some v
        rw [List.getElem?_append_right (by omega), hAl, Nat.sub_self]; rfl
      refine ⟨⟨t.f, A ++ v :: B⟩, ?_, ?_, ?_, ?_, ?_⟩
      · rw [putP, hp, Option.bind_some, h1, Int.toNat_natCast, ← hA, ← hB]; rfl
      · refine (Tm.rng_iff _).2 ⟨hrl.1, fun y hy => ?_⟩
        rcases List.mem_append.1 hy with hy | hy
        · rw [hA] at hy
          obtain ⟨z, hz, rfl⟩ := List.mem_map.1 hy
          exact Tm.strip_rng (hrl.2 z (List.mem_of_mem_take hz))
        · rcases List.mem_cons.1 hy with rfl | hy
          · exact h2
          · rw [hB] at hy
            obtain ⟨z, hz, rfl⟩ := List.mem_map.1 hy
            exact Tm.strip_rng (hrl.2 z (List.mem_of_mem_drop hz))
      · rw [atP, hpz, Option.bind_some, h3]
      · rw [putP, hpz, Option.bind_some, h4, Int.toNat_natCast, Option.map_some]
        show some (Tm.mk t.f (((A ++ v :: B).take m).map Tm.strip ++ x.strip :: ((A ++ v :: B).drop (m + 1)).map Tm.strip)) = _
        have e1 : (A ++ v :: B).take m = A := by rw [← hAl, List.take_left]
        have e2 : (A ++ v :: B).drop (m + 1) = B := by
          rw [← hAl, show A ++ v :: B = (A ++ [v]) ++ B by simp, show A.length + 1 = (A ++ [v]).length by simp, List.drop_left]
        rw [e1, e2, Tm.strip_eq t, Tm.ps_of_sym (by omega)]
        congr 2
        conv => rhs; rw [hsp]
        rw [List.map_append, List.map_cons, hA, hB, map_strip2, map_strip2]
      · have s1 := size_parts (t := ⟨t.f, A ++ v :: B⟩) hf
        have s2 := size_parts (t := t) hf
        simp only at s1
        have s3 : (t.l.map Tm.size).sum = ((t.l.take m).map Tm.size).sum + (x.size + ((t.l.drop (m + 1)).map Tm.size).sum) := by
          conv => lhs; rw [hsp]
          rw [List.map_append, List.map_cons, List.sum_append_nat, List.sum_cons]
        rw [List.map_append, List.map_cons, List.sum_append_nat, List.sum_cons] at s1
        have s4 : ∀ l : List Tm, (l.map Tm.strip).map Tm.size = l.map Tm.size := fun l => by
          rw [List.map_map]
          exact List.map_congr_left fun s _ => Tm.strip_size s
        have sA : (A.map Tm.size).sum = ((t.l.take m).map Tm.size).sum := by rw [hA, s4]
        have sB : (B.map Tm.size).sum = ((t.l.drop (m + 1)).map Tm.size).sum := by rw [hB, s4]
        omega
end Go.Proofs.Ytgmllfjidhbjjab


namespace Go.Proofs.Ytgmllfjidhbjjab
open Go.RowKit
set_option linter.unusedVariables false
set_option linter.unusedSimpArgs false
set_option maxRecDepth 100000

noncomputable abbrev rowC (p : List Int) : CV := CV.lst (p.map CV.i)
theorem rowC_size (l : List (List Int)) : ∀ c ∈ l.map rowC, c.size = 1 := by
  intro c hc
  obtain ⟨p, _, rfl⟩ := List.mem_map.1 hc
  rfl
theorem rowC_at {l : List (List Int)} {i : Nat} {p : List Int} (h : l[i]? = some p) : (l.map rowC)[i]? = some (.lst (p.map CV.i)) := by rw [List.getElem?_map, h]; rfl
end Go.Proofs.Ytgmllfjidhbjjab


namespace Go.Proofs.Ytgmllfjidhbjjab
set_option linter.unusedVariables false
set_option linter.unusedSimpArgs false

noncomputable def okAt (p t : Tm) (q : List Int) : Bool := match atP q t with
  | some s => decide (¬ s.f < 0) && (mt p s []).1
  | none => false
theorem okAt_nil (p t : Tm) : okAt p t [] = (decide (¬ t.f < 0) && (mt p t []).1) := rfl
theorem okAt_cons {p t s : Tm} {k : Int} (h : t.pa k = some s) (q : List Int) : okAt p t (k :: q) = okAt p s q := by
  unfold okAt
  rw [atP, h]
  rfl
theorem pmL_filter {p t : Tm} (pl : List Int) : ∀ (l : List Tm) (i : Nat), (∀ j s, l[j]? = some s → t.pa ((i + j : Nat) : Int) = some s) → (∀ s ∈ l, ∀ pl, pm p s pl = (s.places.filter (okAt p s)).map (pl ++ ·)) →
    pmL p l i pl = ((Tm.placesL l i).filter (okAt p t)).map (pl ++ ·)
  | [], i, h, ih => by rw [pmL_nil, placesL_nil]; rfl
  | s :: l, i, h, ih => by
    have h0 : t.pa (i : Int) = some s := h 0 s rfl
    rw [pmL_cons, placesL_cons, List.filter_append, List.map_append, ih s (List.mem_cons_self ..), pmL_filter pl l (i + 1) (fun j x hx => by rw [show i + 1 + j = i + (j + 1) by omega]; exact h (j + 1) x (by simpa using hx)) (fun x hx => ih x (List.mem_cons_of_mem _ hx))]
    congr 1
    rw [List.filter_map, List.map_map]
    have : (okAt p t ∘ fun q => (i : Int) :: q) = okAt p s := by
      funext q
      exact okAt_cons h0 q
    rw [this]
    refine List.map_congr_left fun q _ => ?_
    show pl ++ [(i : Int)] ++ q = pl ++ ((i : Int) :: q)
    rw [List.append_assoc]
    rfl
theorem pm_filter (p t : Tm) : ∀ pl : List Int, pm p t pl = (t.places.filter (okAt p t)).map (pl ++ ·) := by
  induction t using Tm.indp with
  | h t ih =>
    intro pl
    rw [pm_eq, Tm.places_eq, List.filter_cons, okAt_nil]
    by_cases hf : t.f < 0
    · rw [if_pos hf, Tm.ps_of_var hf, placesL_nil]
      simp [hf]
    · have hps : t.ps = t.l := Tm.ps_of_sym (by omega)
      rw [hps] at ih
      rw [if_neg hf, hps, pmL_filter (t := t) pl t.l 0 (fun j s hs => by
        unfold Tm.pa
        rw [if_pos (by omega), Int.toNat_natCast, Nat.zero_add, hps, hs]) ih]
      by_cases hm : (mt p t []).1 = true
      · simp [hf, hm]
      · simp [hf, hm]
theorem pm_nil_filter (p t : Tm) : pm p t [] = t.places.filter (okAt p t) := by
  rw [pm_filter]
  simp
end Go.Proofs.Ytgmllfjidhbjjab


namespace Go.Proofs.Ytgmllfjidhbjjab
open Go.RowKit
set_option linter.unusedVariables false
set_option linter.unusedSimpArgs false
set_option maxRecDepth 100000

/-- No binding. -/
def Bd.zero : Bd := ⟨0, ⟨0, []⟩⟩
/-- Of the first n: those that are not like the one ahead. -/
def cptN (q : Bd → Bd → Bool) (L : List Bd) : Nat → List Bd
  | 0 => []
  | m + 1 => match L[m]?, (match m with | 0 => none | k + 1 => L[k]?) with
    | some x, some y => if q x y then cptN q L m else cptN q L m ++ [x]
    | some x, none => cptN q L m ++ [x]
    | none, _ => cptN q L m
theorem cptN_yes {q : Bd → Bd → Bool} {L : List Bd} {m : Nat} {x y : Bd} (hx : L[m + 1]? = some x) (hy : L[m]? = some y) (h : q x y = true) : cptN q L (m + 2) = cptN q L (m + 1) := by
  rw [cptN]; simp only [hx, hy, h, if_true]
theorem cptN_no {q : Bd → Bd → Bool} {L : List Bd} {m : Nat} {x y : Bd} (hx : L[m + 1]? = some x) (hy : L[m]? = some y) (h : q x y = false) : cptN q L (m + 2) = cptN q L (m + 1) ++ [x] := by
  rw [cptN]; simp [hx, hy, h]
end Go.Proofs.Ytgmllfjidhbjjab


namespace Go.Proofs.Ytgmllfjidhbjjab
open Go.RowKit
set_option linter.unusedVariables false
set_option linter.unusedSimpArgs false
set_option maxRecDepth 100000

def sameV (x y : Bd) : Bool := decide (x.v = y.v)
def sortF (L : List Bd) : List Bd := isortN (ltC cmpB) 0 (L.length - 1) 1 L
def firstsF (L : List Bd) : List Bd := cptN sameV (sortF L) (sortF L).length
def Bd.strip (b : Bd) : Bd := ⟨b.v, b.t.strip⟩
def normF (L : List Bd) : List Bd := ((firstsF L).filter fun b => !idleB b).map Bd.strip

theorem cptN_step {q : Bd → Bd → Bool} {L : List Bd} (n : Nat) : cptN q L (n + 1) = cptN q L n ∨ ∃ x, L[n]? = some x ∧ cptN q L (n + 1) = cptN q L n ++ [x] := by
  cases n with
  | zero =>
    cases L with
    | nil => left; rfl
    | cons x l => right; exact ⟨x, rfl, rfl⟩
  | succ m =>
    cases hx : L[m + 1]? with
    | none => left; rw [cptN]; simp only [hx]
    | some x =>
      cases hy : L[m]? with
      | none => right; exact ⟨x, rfl, by rw [cptN]; simp only [hx, hy]⟩
      | some y =>
        cases hq : q x y with
        | true => left; exact cptN_yes hx hy hq
        | false => right; exact ⟨x, rfl, cptN_no hx hy hq⟩
theorem cptN_mem {q : Bd → Bd → Bool} {L : List Bd} : ∀ {n : Nat} {x : Bd}, x ∈ cptN q L n → x ∈ L
  | 0, x, h => by simp [cptN] at h
  | n + 1, x, h => by
    rcases cptN_step (q := q) (L := L) n with e | ⟨y, h1, e⟩
    · rw [e] at h; exact cptN_mem h
    · rw [e] at h
      rcases List.mem_append.1 h with h | h
      · exact cptN_mem h
      · rw [List.mem_singleton.1 h]; exact List.mem_of_getElem? h1
theorem sink_mem {lt : Bd → Bd → Bool} {a : Nat} : ∀ {j : Nat} {L : List Bd} {z : Bd}, z ∈ sink lt a j L ↔ z ∈ L
  | 0, L, z => Iff.rfl
  | j + 1, L, z => by
    rw [sink]
    split
    · rename_i x y hx hy
      split
      · rw [sink_mem]
        have hj : j + 1 < L.length := by
          rcases Nat.lt_or_ge (j + 1) L.length with h | h
          · exact h
          · rw [List.getElem?_eq_none h] at hx; cases hx
        have hxe : L[j + 1] = x := by rw [List.getElem?_eq_getElem hj] at hx; exact Option.some.inj hx
        have hye : L[j]'(by omega) = y := by rw [List.getElem?_eq_getElem (by omega)] at hy; exact Option.some.inj hy
        constructor
        · intro h
          rcases mem_set_of h with h | rfl
          · rcases mem_set_of h with h | rfl
            · exact h
            · exact List.mem_of_getElem? hy
          · exact List.mem_of_getElem? hx
        · intro h
          obtain ⟨i, hi⟩ := List.getElem?_of_mem h
          by_cases e1 : i = j
          · subst e1
            rw [hy] at hi
            cases hi
            exact List.mem_of_getElem? (i := i + 1) (by rw [List.getElem?_set_ne (by omega), List.getElem?_set_self hj])
          · by_cases e2 : i = j + 1
            · subst e2
              rw [hx] at hi
              cases hi
              exact List.mem_of_getElem? (i := j) (by rw [List.getElem?_set_self (by simp; omega)])
            · exact List.mem_of_getElem? (i := i) (by rw [List.getElem?_set_ne (Ne.symm e1), List.getElem?_set_ne (Ne.symm e2)]; exact hi)
      · exact Iff.rfl
    · exact Iff.rfl
theorem isortN_mem {lt : Bd → Bd → Bool} {a : Nat} : ∀ {n i : Nat} {L : List Bd} {z : Bd}, z ∈ isortN lt a n i L ↔ z ∈ L
  | 0, _, _, _ => Iff.rfl
  | n + 1, i, L, z => by rw [isortN, isortN_mem, sink_mem]
theorem firstsF_mem {L : List Bd} {x : Bd} (h : x ∈ firstsF L) : x ∈ L := isortN_mem.1 (cptN_mem h)
end Go.Proofs.Ytgmllfjidhbjjab


namespace Go.Proofs.Ytgmllfjidhbjjab
open Go.RowKit
set_option linter.unusedVariables false
set_option linter.unusedSimpArgs false
def SrtB (l : List Bd) : Prop := l.Pairwise fun x y => x.v ≤ y.v
end Go.Proofs.Ytgmllfjidhbjjab


namespace Go.Proofs.Ytgmllfjidhbjjab
open Go.RowKit
set_option linter.unusedVariables false
set_option linter.unusedSimpArgs false
set_option maxRecDepth 100000
end Go.Proofs.Ytgmllfjidhbjjab

