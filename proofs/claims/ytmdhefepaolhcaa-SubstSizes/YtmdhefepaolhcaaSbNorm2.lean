/-
  firsts and Norm of subst.
-/
import Derived.Test.YtmdhefepaolhcaaSbNorm
import Derived.Test.YtmdhefepaolhcaaSbApply
namespace Go.Proofs.Ytmdhefepaolhcaa
open Go.RowKit
set_option linter.unusedVariables false
set_option linter.unusedSimpArgs false
set_option maxRecDepth 100000

def sameV (x y : Bd) : Bool := decide (x.v = y.v)
def sortF (L : List Bd) : List Bd := isortN (ltC cmpB) 0 (L.length - 1) 1 L
def firstsF (L : List Bd) : List Bd := cptN sameV (sortF L) (sortF L).length
def Bd.strip (b : Bd) : Bd := ⟨b.v, b.t.strip⟩
def normF (L : List Bd) : List Bd := ((firstsF L).filter fun b => !idleB b).map Bd.strip

theorem sortF_len (L : List Bd) : (sortF L).length = L.length := isortN_len _ _ _ _ _
theorem cptN_step {q : Bd → Bd → Bool} {L : List Bd} (n : Nat) : cptN q L (n + 1) = cptN q L n ∨ ∃ x, L[n]? = some x ∧ cptN q L (n + 1) = cptN q L n ++ [x] := by
  cases n with
  | zero =>
    cases L with
    | nil => left; rfl
    | cons x l => right; exact ⟨x, rfl, rfl⟩
  | succ m =>
    cases hx : L[m + 1]? with
    | none => left; rw [cptN]; simp only [hx]
    | some x =>
      cases hy : L[m]? with
      | none => right; exact ⟨x, rfl, by rw [cptN]; simp only [hx, hy]⟩
      | some y =>
        cases hq : q x y with
        | true => left; exact cptN_yes hx hy hq
        | false => right; exact ⟨x, rfl, cptN_no hx hy hq⟩
theorem cptN_mem {q : Bd → Bd → Bool} {L : List Bd} : ∀ {n : Nat} {x : Bd}, x ∈ cptN q L n → x ∈ L
  | 0, x, h => by simp [cptN] at h
  | n + 1, x, h => by
    rcases cptN_step (q := q) (L := L) n with e | ⟨y, h1, e⟩
    · rw [e] at h; exact cptN_mem h
    · rw [e] at h
      rcases List.mem_append.1 h with h | h
      · exact cptN_mem h
      · rw [List.mem_singleton.1 h]; exact List.mem_of_getElem? h1
theorem cptN_len {q : Bd → Bd → Bool} {L : List Bd} : ∀ {n : Nat}, (cptN q L n).length ≤ n
  | 0 => Nat.le_refl _
  | n + 1 => by
    have ih := cptN_len (q := q) (L := L) (n := n)
    rcases cptN_step (q := q) (L := L) n with e | ⟨y, h1, e⟩
    · rw [e]; omega
    · rw [e]; simp; omega
theorem sink_mem {lt : Bd → Bd → Bool} {a : Nat} : ∀ {j : Nat} {L : List Bd} {z : Bd}, z ∈ sink lt a j L ↔ z ∈ L
  | 0, L, z => Iff.rfl
  | j + 1, L, z => by
    rw [sink]
    split
    · rename_i x y hx hy
      split
      · rw [sink_mem]
        have hj : j + 1 < L.length := by
          rcases Nat.lt_or_ge (j + 1) L.length with h | h
          · exact h
          · rw [List.getElem?_eq_none h] at hx; cases hx
        have hxe : L[j + 1] = x := by rw [List.getElem?_eq_getElem hj] at hx; exact Option.some.inj hx
        have hye : L[j]'(by omega) = y := by rw [List.getElem?_eq_getElem (by omega)] at hy; exact Option.some.inj hy
        constructor
        · intro h
          rcases mem_set_of h with h | rfl
          · rcases mem_set_of h with h | rfl
            · exact h
            · exact List.mem_of_getElem? hy
          · exact List.mem_of_getElem? hx
        · intro h
          obtain ⟨i, hi⟩ := List.getElem?_of_mem h
          by_cases e1 : i = j
          · subst e1
            rw [hy] at hi
            cases hi
            exact List.mem_of_getElem? (i := i + 1) (by rw [List.getElem?_set_ne (by omega), List.getElem?_set_self hj])
          · by_cases e2 : i = j + 1
            · subst e2
              rw [hx] at hi
              cases hi
              exact List.mem_of_getElem? (i := j) (by rw [List.getElem?_set_self (by simp; omega)])
            · exact List.mem_of_getElem? (i := i) (by rw [List.getElem?_set_ne (Ne.symm e1), List.getElem?_set_ne (Ne.symm e2)]; exact hi)
      · exact Iff.rfl
    · exact Iff.rfl
theorem isortN_mem {lt : Bd → Bd → Bool} {a : Nat} : ∀ {n i : Nat} {L : List Bd} {z : Bd}, z ∈ isortN lt a n i L ↔ z ∈ L
  | 0, _, _, _ => Iff.rfl
  | n + 1, i, L, z => by rw [isortN, isortN_mem, sink_mem]
theorem firstsF_mem {L : List Bd} {x : Bd} (h : x ∈ firstsF L) : x ∈ L := isortN_mem.1 (cptN_mem h)
theorem firstsF_len (L : List Bd) : (firstsF L).length ≤ L.length := by
  have := cptN_len (q := sameV) (L := sortF L) (n := (sortF L).length)
  rw [sortF_len] at this
  unfold firstsF
  rw [sortF_len]
  exact this

-- 
theorem firsts_abs (L : List Bd) (hn : L.length < 20) :
    AFunO Try.prog 46 [] [.val (.lst (L.map Bd.cv))] (.sl 400000 0 (firstsF L).length 3) [(400000, .mrow 60 3 ((firstsF L ++ List.replicate (L.length - (firstsF L).length) Bd.zero).map Bd.cv))] := by
  refine afunO_of Try.func46 Try.ntmps46 rfl rfl rfl rfl rfl rfl ?_
  intro w U hU
  have hUf : U.f 400000 = none := by
    cases h : U.f 400000 with
    | none => rfl
    | some v => have := hU _ _ h; cases this
  have hcl := cloneB_abs L (by omega)
  have hso := sortStable_abs cmpB (.sc (.func (.func 69) #[] #[])) L hn (fun W x y => .inr ⟨_, rfl, cmpB_abs W x y⟩)
  have hco := compact_abs sameV (.sc (.func (.func 71) #[] #[])) (sortF L) (by rw [sortF_len]; omega) (fun W x y => .inr ⟨_, rfl, sameB_abs W x y⟩)
  refine awp_seq (awp_region ?_)
  (refine ⟨_, _, _, a_assign (gd_none rfl) rfl rfl rfl rfl rfl, rfl, ?_⟩)
  show AWp _ _ _ _ _ _ _
  refine awp_seq (awp_region ?_)
  (refine ⟨_, _, _, a_move (gd_none rfl) rfl rfl rfl rfl rfl, rfl, ?_⟩)
  (refine ⟨_, _, _, a_callO (gd_none rfl) rfl rfl rfl rfl rfl (hcl) (by repeat (first | exact trivial | refine ⟨rfl, ?_⟩)) rfl rfl rfl rfl (hnb_of rfl), rfl, ?_⟩)
  (refine ⟨_, _, _, a_assign (gd_none rfl) rfl rfl rfl rfl rfl, rfl, ?_⟩)
  show AWp _ _ _ _ _ _ _
  refine AWp.wk ((wk_sub (s' := [(3, .sl 250007 0 L.length 3), (250007, .mrow 60 3 (L.map Bd.cv))]) ⟨rfl, rfl, trivial⟩).trans (wk_renF 250007 400000 rfl rfl hUf rfl rfl rfl)) ?_
  refine awp_seq (awp_region ?_)
  (refine ⟨_, _, _, a_move (gd_none rfl) rfl rfl rfl rfl rfl, rfl, ?_⟩)
  (refine ⟨_, _, _, a_callO (gd_none rfl) rfl rfl rfl rfl rfl (hso) (by repeat (first | exact trivial | refine ⟨rfl, ?_⟩)) rfl rfl rfl rfl (hnb_of rfl), rfl, ?_⟩)
  show AWp _ _ _ _ _ _ _
  refine AWp.wk (wk_sub (s' := [(3, .sl 400000 0 (sortF L).length 3), (400000, .mrow 60 3 ((sortF L).map Bd.cv))]) ⟨by rw [sortF_len]; rfl, rfl, trivial⟩) ?_
  refine awp_seq (awp_region ?_)
  (refine ⟨_, _, _, a_move (gd_none rfl) rfl rfl rfl rfl rfl, rfl, ?_⟩)
  (refine ⟨_, _, _, a_callO (gd_none rfl) rfl rfl rfl rfl rfl (hco) (by repeat (first | exact trivial | refine ⟨rfl, ?_⟩)) rfl rfl rfl rfl (hnb_of rfl), rfl, ?_⟩)
  (refine ⟨_, _, _, a_assign (gd_none rfl) rfl rfl rfl rfl rfl, rfl, ?_⟩)
  show AWp _ _ _ _ _ _ _
  refine awp_ret ⟨.inr rfl, _, Wk.refl _, rfl, ?_, trivial⟩
  show some (AV.mrow _ _ _) = some (AV.mrow _ _ _)
  rw [sortF_len]
  unfold firstsF
  rw [sortF_len]

-- 
theorem norm_abs (W : World) (L : List Bd) (hn : L.length < 20) (hb : bdsOk L) : AFun Try.prog W 22 [.lst (L.map Bd.cv)] (.val (.lst ((normF L).map Bd.cv))) := by
  refine afun_of (rs := [.lst ((normF L).map Bd.cv)]) Try.func22 Try.ntmps22 rfl rfl rfl rfl ?_
  intro w U hW
  have hfi := firsts_abs L hn
  obtain ⟨F, hF⟩ : ∃ F, F = firstsF L ++ List.replicate (L.length - (firstsF L).length) Bd.zero := ⟨_, rfl⟩
  rw [← hF] at hfi
  have hFl : F.length = L.length := by rw [hF]; have := firstsF_len L; simp; omega
  have hFt : F.take (firstsF L).length = firstsF L := by rw [hF]; simp
  have hde := delete_abs idleB (.sc (.func (.func 47) #[] #[])) F (firstsF L).length (by rw [hFl]; exact firstsF_len L) (by omega) (fun W x hx => .inr ⟨_, rfl, idle_abs W x (by rw [hFt] at hx; exact ((Tm.rng_iff _).1 (hb x (firstsF_mem hx)).1).1.1)⟩)
  rw [hFt] at hde
  obtain ⟨R, hR⟩ : ∃ R, R = (firstsF L).filter fun b => !idleB b := ⟨_, rfl⟩
  rw [← hR] at hde
  obtain ⟨Z, hZ⟩ : ∃ Z, Z = List.replicate ((firstsF L).length - R.length) Bd.zero ++ F.drop (firstsF L).length := ⟨_, rfl⟩
  rw [← hZ] at hde
  have hRm : ∀ x ∈ R, x ∈ L := fun x hx => by rw [hR] at hx; exact firstsF_mem (List.mem_filter.1 hx).1
  have hRl : R.length ≤ L.length := by rw [hR]; exact Nat.le_trans (List.length_filter_le _ _) (firstsF_len L)
  refine awp_seq (awp_region ?_)
  (refine ⟨_, _, _, a_assign (gd_none rfl) rfl rfl rfl rfl rfl, rfl, ?_⟩)
  show AWp _ _ _ _ _ _ _
  refine awp_seq (awp_region ?_)
  (refine ⟨_, _, _, a_move (gd_none rfl) rfl rfl rfl rfl rfl, rfl, ?_⟩)
  (refine ⟨_, _, _, a_callO (gd_none rfl) rfl rfl rfl rfl rfl (hfi) (by repeat (first | exact trivial | refine ⟨rfl, ?_⟩)) rfl rfl rfl rfl (fun k v h => by first | (rw [hW.1] at h; cases h) | (have h2 := hU k v h; cases h2)), rfl, ?_⟩)
  (refine ⟨_, _, _, a_callO (gd_none rfl) rfl rfl rfl rfl rfl (hde) (by repeat (first | exact trivial | refine ⟨rfl, ?_⟩)) rfl rfl rfl rfl (hnb_of rfl), rfl, ?_⟩)
  (refine ⟨_, _, _, a_assign (gd_none rfl) rfl rfl rfl rfl rfl, rfl, ?_⟩)
  show AWp _ _ _ _ _ _ _
  refine awp_seq (awp_seq (awp_region ?_))
  (refine ⟨_, _, _, a_move (gd_none rfl) rfl rfl rfl rfl rfl, rfl, ?_⟩)
  (first | (refine ⟨_, _, _, a_len (gd_none rfl) rfl rfl rfl rfl rfl rfl rfl, rfl, ?_⟩) | (refine ⟨_, _, _, a_lenM (gd_none rfl) rfl rfl rfl rfl rfl rfl rfl, rfl, ?_⟩))
  (refine ⟨_, _, _, a_move (gd_none rfl) rfl rfl rfl rfl rfl, rfl, ?_⟩)
  show AWp _ _ _ _ _ _ _
  let C : Nat → List Bd := fun k => (R.take k).map Bd.strip ++ (R.drop k ++ Z)
  refine awp_block (awp_count R.length (fun k => [(3, .sl 400000 0 R.length 3), (9, .sl 400000 0 R.length 3), (10, .val (.i R.length)), (11, .val (.i k)), (400000, .mrow 60 3 ((C k).map Bd.cv))]) (wk_sub ⟨rfl, rfl, rfl, rfl, rfl, trivial⟩) ?_)
  intro k hk
  have hCl : (C k).length = R.length + Z.length := by simp [C]; omega
  refine awp_seq (awp_region ?_)
  (refine ⟨_, _, _, a_lss (gd_none rfl) rfl rfl rfl rfl rfl rfl, rfl, ?_⟩)
  show AWp _ _ _ _ _ _ _
  refine awp_seq (awp_cond rfl (fun hlt => ?_) (fun hlt => ?_))
  · have hkl : k < R.length := by simpa using hlt
    obtain ⟨x, hx⟩ : ∃ x, R[k]? = some x := ⟨R[k], List.getElem?_eq_getElem hkl⟩
    have hxC : (C k)[k]? = some x := by
      show ((R.take k).map Bd.strip ++ (R.drop k ++ Z))[k]? = some x
      rw [List.getElem?_append_right (by simp; omega), List.getElem?_append_left (by simp; omega), List.getElem?_drop]
      simp only [List.length_map, List.length_take, Nat.min_eq_left (Nat.le_of_lt hkl), Nat.sub_self, Nat.add_zero]
      exact hx
    have hx' := Bd.map_at hxC
    have hxo := hb x (hRm x (List.mem_of_getElem? hx))
    refine awp_skip ?_
    show AWp _ _ _ _ _ _ _
    refine awp_seq (awp_block (awp_seq (awp_region ?_)))
    (refine ⟨_, _, _, a_move (gd_none rfl) rfl rfl rfl rfl rfl, rfl, ?_⟩)
    (refine ⟨_, _, _, a_indexM (k := k) (gd_none rfl) rfl rfl rfl rfl rfl rfl rfl rfl rfl (by first | rfl | omega | (simp only [List.length_set, List.length_map, List.length_append, List.length_cons, List.length_nil]; omega) | (simp; omega)), rfl, ?_⟩)
    (refine ⟨_, _, _, a_loadM (gd_none rfl) rfl rfl rfl rfl rfl rfl rfl rfl (hx') rfl (by first | rfl | omega | (simp only [List.length_set, List.length_map, List.length_append, List.length_cons, List.length_nil]; omega) | (simp; omega)) rfl rfl, rfl, ?_⟩)
    (refine ⟨_, _, _, a_alloc (gd_none rfl) rfl rfl rfl rfl rfl rfl rfl rfl rfl rfl, rfl, ?_⟩)
    (refine ⟨_, _, _, a_assign (gd_none rfl) rfl rfl rfl rfl rfl, rfl, ?_⟩)
    (first | (refine ⟨_, _, _, a_store_all (gd_none rfl) rfl rfl rfl rfl rfl rfl rfl rfl rfl rfl, rfl, ?_⟩) | (refine ⟨_, _, _, a_store (gd_none rfl) rfl rfl rfl rfl rfl rfl rfl rfl rfl rfl, rfl, ?_⟩))
    show AWp _ _ _ _ _ _ _
    refine awp_region ?_
    (refine ⟨_, _, _, a_move (gd_none rfl) rfl rfl rfl rfl rfl, rfl, ?_⟩)
    (refine ⟨_, _, _, a_move (gd_none rfl) rfl rfl rfl rfl rfl, rfl, ?_⟩)
    (first | (refine ⟨_, _, _, a_field_bp (gd_none rfl) rfl rfl rfl rfl rfl rfl rfl rfl rfl, rfl, ?_⟩) | (refine ⟨_, _, _, a_field_ad (gd_none rfl) rfl rfl rfl rfl rfl rfl rfl rfl rfl rfl rfl, rfl, ?_⟩) | (refine ⟨_, _, _, a_fieldM (gd_none rfl) rfl rfl rfl rfl rfl rfl rfl rfl rfl, rfl, ?_⟩))
    (first | (refine ⟨_, _, _, a_load_all (gd_none rfl) rfl rfl rfl rfl rfl rfl rfl rfl rfl rfl rfl rfl, rfl, ?_⟩) | (refine ⟨_, _, _, a_load_tok (gd_none rfl) rfl rfl rfl rfl rfl rfl rfl rfl rfl rfl rfl rfl rfl, rfl, ?_⟩) | (refine ⟨_, _, _, a_load_bp (gd_none rfl) rfl rfl rfl rfl rfl rfl rfl rfl rfl rfl rfl rfl, rfl, ?_⟩) | (refine ⟨_, _, _, a_load_ad (gd_none rfl) rfl rfl rfl rfl rfl rfl rfl rfl rfl, rfl, ?_⟩) | (refine ⟨_, _, _, a_load_ptr (gd_none rfl) rfl rfl rfl rfl rfl rfl rfl rfl rfl, rfl, ?_⟩))
    (refine ⟨_, _, _, a_call (gd_none rfl) rfl rfl rfl rfl rfl (clone_abs _ hxo.1 hxo.2), rfl, ?_⟩)
    (refine ⟨_, _, _, a_indexM (k := k) (gd_none rfl) rfl rfl rfl rfl rfl rfl rfl rfl rfl (by first | rfl | omega | (simp only [List.length_set, List.length_map, List.length_append, List.length_cons, List.length_nil]; omega) | (simp; omega)), rfl, ?_⟩)
    (first | (refine ⟨_, _, _, a_field_bp (gd_none rfl) rfl rfl rfl rfl rfl rfl rfl rfl rfl, rfl, ?_⟩) | (refine ⟨_, _, _, a_field_ad (gd_none rfl) rfl rfl rfl rfl rfl rfl rfl rfl rfl rfl rfl, rfl, ?_⟩) | (refine ⟨_, _, _, a_fieldM (gd_none rfl) rfl rfl rfl rfl rfl rfl rfl rfl rfl, rfl, ?_⟩))
    (refine ⟨_, _, _, a_storeM (gd_none rfl) rfl rfl rfl rfl rfl rfl (hx') rfl rfl (by first | rfl | omega | (simp only [List.length_set, List.length_map, List.length_append, List.length_cons, List.length_nil]; omega) | (simp; omega)) rfl, rfl, ?_⟩)
    show AWp _ _ _ _ _ _ _
    refine awp_region ?_
    (refine ⟨_, _, _, a_add (gd_none rfl) rfl rfl rfl rfl rfl rfl (by first | omega | (simp only [List.length_map, List.length_append, List.length_cons, List.length_nil]; omega) | (simp; omega)), rfl, ?_⟩)
    (refine ⟨_, _, _, a_move (gd_none rfl) rfl rfl rfl rfl rfl, rfl, ?_⟩)
    refine ⟨hkl, wk_sub ⟨rfl, rfl, rfl, rfl, ?_, trivial⟩⟩
    show some (AV.mrow _ _ _) = some (AV.mrow _ _ _)
    have e1 : ((C k).map Bd.cv).set k (Bd.strip x).cw = (C (k + 1)).map Bd.cv := by
      rw [set_map_cv]
      congr 1
      show ((R.take k).map Bd.strip ++ (R.drop k ++ Z)).set k (Bd.strip x) = (R.take (k + 1)).map Bd.strip ++ (R.drop (k + 1) ++ Z)
      rw [List.set_append_right _ _ (by simp; omega)]
      simp only [List.length_map, List.length_take, Nat.min_eq_left (Nat.le_of_lt hkl), Nat.sub_self]
      have e2 : R.drop k = x :: R.drop (k + 1) := by
        rw [List.getElem?_eq_getElem hkl] at hx
        rw [← Option.some.inj hx, List.getElem_cons_drop]
      rw [e2, take_snoc hx, List.map_append]
      simp
    rw [← e1]
    rfl
  · have hkl : k = R.length := by have : ¬ k < R.length := by simpa using hlt
                                  omega
    subst hkl
    refine awp_exit ?_
    show AWp _ _ _ _ _ _ _
    refine awp_seq (awp_region ?_)
    (refine ⟨_, _, _, a_move (gd_none rfl) rfl rfl rfl rfl rfl, rfl, ?_⟩)
    (refine ⟨_, _, _, a_assign (gd_none rfl) rfl rfl rfl rfl rfl, rfl, ?_⟩)
    show AWp _ _ _ _ _ _ _
    refine AWp.wk (wk_frz 2 400000 rfl rfl rfl (.inl hW.2) (by rw [List.length_map, hCl]; omega) (s' := []) trivial rfl) ?_
    refine awp_ret ⟨.inr rfl, ?_⟩
    show some [CV.lst _] = some [CV.lst _]
    congr 3
    show (((C R.length).map Bd.cv).drop 0).take R.length = (normF L).map Bd.cv
    rw [List.drop_zero, ← List.map_take]
    congr 1
    show (((R.take R.length).map Bd.strip ++ (R.drop R.length ++ Z))).take R.length = normF L
    rw [List.take_length, List.take_append_of_le_length (by simp), List.take_of_length_le (by simp), hR]
    rfl
end Go.Proofs.Ytmdhefepaolhcaa
