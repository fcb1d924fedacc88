/-
  Plain facts on frames: a frame is read as its record, cut short it is none, turned within its record it is none; rows of frames.
-/
import Derived.Test.YtfcckekinlobjaaFrIter
namespace Go.Proofs.Ytfcckekinlobjaa
open Go.RowKit
set_option linter.unusedVariables false

abbrev Wf (l : List Int) : Prop := ∀ z ∈ l, 0 ≤ z ∧ z ≤ 255

theorem wf_app {a b : List Int} (ha : Wf a) (hb : Wf b) : Wf (a ++ b) := fun z hz => (List.mem_append.1 hz).elim (ha z) (hb z)

theorem frame_wf {r : List Int} (hr : Wf r) (hl : r.length ≤ 65536) : Wf (frameOf r) := by
  have hu : Wf (ubytes r.length) := ubytes_wf (by omega)
  unfold frameOf
  exact wf_app hu (wf_app (wbytes_wf _) hr)

theorem frame_len (r : List Int) : (frameOf r).length = (ubytes r.length).length + (4 + r.length) := by
  unfold frameOf
  rw [List.length_append, List.length_append]
  rfl

theorem getF_of {l : List Int} {v c : Nat} (h : rdU l = (v, c, 0)) : getF l = if 65536 < v then none else if l.length < c + 4 + v then none else if bword (l.drop c) = crcOf (l.take c ++ (l.drop (c + 4)).take v) then some ((l.drop (c + 4)).take v, c + 4 + v) else none := by
  unfold getF
  rw [h]
  rw [if_neg (by simp)]

theorem getF_err {l : List Int} {v c er : Nat} (h : rdU l = (v, c, er)) (he : er ≠ 0) : getF l = none := by
  unfold getF
  rw [h, if_pos he]

/-- Bytes that open with a length and a sum. -/
theorem getF_parts (n : Nat) (hn : n ≤ 65536) (S R X : List Int) (hS : S.length = 4) (hR : R.length = n) :
    getF (ubytes n ++ (S ++ (R ++ X))) = if bword S = crcOf (ubytes n ++ R) then some (R, (ubytes n).length + 4 + n) else none := by
  rw [getF_of (rdU_ubytes (n := n) (by omega) (S ++ (R ++ X))), if_neg (by omega), if_neg (by simp only [List.length_append]; omega)]
  have e1 : (ubytes n ++ (S ++ (R ++ X))).drop (ubytes n).length = S ++ (R ++ X) := List.drop_left' rfl
  have e2 : (ubytes n ++ (S ++ (R ++ X))).take (ubytes n).length = ubytes n := List.take_left' rfl
  have e3 : (ubytes n ++ (S ++ (R ++ X))).drop ((ubytes n).length + 4) = R ++ X := by
    rw [← List.drop_drop, e1]; exact List.drop_left' hS
  rw [e1, e2, e3, List.take_left' hR]
  have e4 : bword (S ++ (R ++ X)) = bword S := by
    rw [← bword_take (S ++ (R ++ X)) 4 (by omega), List.take_left' hS]
  rw [e4]

theorem getF_frame {r : List Int} (hr : Wf r) (hl : r.length ≤ 65536) (X : List Int) : getF (frameOf r ++ X) = some (r, (frameOf r).length) := by
  have hw : Wf (ubytes r.length ++ r) := wf_app (ubytes_wf (by omega)) hr
  have := getF_parts r.length hl (wbytes (crcOf (ubytes r.length ++ r))) r X rfl rfl
  rw [frame_len]
  unfold frameOf
  rw [List.append_assoc, List.append_assoc, this, if_pos ?_, Nat.add_assoc]
  have := bword_wbytes (crcOf_lt hw) []
  rwa [List.append_nil] at this

/-- A frame that was cut short. -/
theorem getF_cut {r : List Int} (hl : r.length ≤ 65536) {j : Nat} (hj : j < (frameOf r).length) : getF ((frameOf r).take j) = none := by
  rw [frame_len] at hj
  unfold frameOf
  rcases Nat.lt_or_ge j (ubytes r.length).length with h | h
  · rw [List.take_append_of_le_length (by omega)]
    exact getF_err (rdU_cut (by omega) h) (by decide)
  · have e : (ubytes r.length ++ (wbytes (crcOf (ubytes r.length ++ r)) ++ r)).take j = ubytes r.length ++ (wbytes (crcOf (ubytes r.length ++ r)) ++ r).take (j - (ubytes r.length).length) := by
      rw [List.take_append, List.take_of_length_le (by omega)]
    rw [e, getF_of (rdU_ubytes (n := r.length) (by omega) _), if_neg (by omega), if_pos]
    rw [List.length_append, List.length_take]
    omega

theorem getF_nil : getF [] = none := getF_err (v := 0) (c := 0) (er := 10) rfl (by decide)

theorem bval_setn (zs : List Int) (j t : Nat) (hj : j < zs.length) (y : Int) (hy : y.toNat = (zs.getD j 0).toNat ^^^ t) : bval (zs.set j y) = bval zs ^^^ 2 ^ (8 * j) * t := by
  induction zs generalizing j with
  | nil => simp at hj
  | cons z zs ih =>
    cases j with
    | zero =>
      have hy' : y.toNat = z.toNat ^^^ t := by simpa using hy
      rw [List.set_cons_zero, bval, bval, hy', Nat.mul_zero, Nat.pow_zero, Nat.one_mul, Nat.xor_assoc, Nat.xor_comm t, ← Nat.xor_assoc]
    | succ j =>
      have := ih j (by simpa using hj) (by simpa using hy)
      rw [List.set_cons_succ, bval, bval, this, mul_xor, ← Nat.xor_assoc, ← Nat.mul_assoc, ← Nat.pow_add, show 8 + 8 * j = 8 * (j + 1) by omega]

/-- A record in which one byte was turned. -/
theorem getF_turned {r : List Int} (hr : Wf r) (hl : r.length ≤ 65536) {j : Nat} (hj : j < r.length) (t : Nat) (ht : t ≠ 0) (ht2 : t < 256) (y : Int) (hy : y.toNat = (r.getD j 0).toNat ^^^ t) (X : List Int) :
    getF (ubytes r.length ++ (wbytes (crcOf (ubytes r.length ++ r)) ++ (r.set j y ++ X))) = none := by
  have hw : Wf (ubytes r.length ++ r) := wf_app (ubytes_wf (by omega)) hr
  rw [getF_parts r.length hl _ _ X rfl (by rw [List.length_set]), if_neg]
  have h1 := bword_wbytes (crcOf_lt hw) []
  rw [List.append_nil] at h1
  rw [h1]
  obtain ⟨u, hu⟩ : ∃ u, u = ubytes r.length := ⟨_, rfl⟩
  rw [← hu]
  have hset : u ++ r.set j y = (u ++ r).set (u.length + j) y := by
    rw [List.set_append, if_neg (by omega), Nat.add_sub_cancel_left]
  have hget : (u ++ r).getD (u.length + j) 0 = r.getD j 0 := by
    rw [List.getD_eq_getElem?_getD, List.getD_eq_getElem?_getD, List.getElem?_append_right (by omega), Nat.add_sub_cancel_left]
  intro e
  refine crc_tells (u ++ r.set j y) (u ++ r) (by simp) t (8 * (u.length + j)) (by omega) ht (by simp; omega) ?_ e.symm
  rw [hset]
  exact bval_setn (u ++ r) (u.length + j) t (by simp; omega) y (by rw [hget]; exact hy)

/-- Rows of frames. -/
def framesOf : List (List Int) → List Int
  | [] => []
  | r :: l => frameOf r ++ framesOf l

theorem framesOf_append (a b : List (List Int)) : framesOf (a ++ b) = framesOf a ++ framesOf b := by
  induction a with
  | nil => rfl
  | cons r a ih => simp [framesOf, ih]

/-- Records and the places behind them. -/
def ends (p : Nat) : List (List Int) → List (Nat × List Int)
  | [] => []
  | r :: l => (p + (frameOf r).length, r) :: ends (p + (frameOf r).length) l

theorem ends_snd (p : Nat) (l : List (List Int)) : (ends p l).map Prod.snd = l := by
  induction l generalizing p with
  | nil => rfl
  | cons r l ih => simp [ends, ih]

theorem ends_length (p : Nat) (l : List (List Int)) : (ends p l).length = l.length := by
  rw [← List.length_map (f := Prod.snd), ends_snd]

def GoodL (l : List (List Int)) : Prop := ∀ r ∈ l, Wf r ∧ r.length ≤ 65536

theorem framesOf_wf {l : List (List Int)} (h : GoodL l) : Wf (framesOf l) := by
  induction l with
  | nil => intro z hz; cases hz
  | cons r l ih =>
    have hr := h r List.mem_cons_self
    exact wf_app (frame_wf hr.1 hr.2) (ih fun x hx => h x (List.mem_cons_of_mem _ hx))

theorem allOf_frames {l : List (List Int)} (h : GoodL l) : ∀ (A X : List Int), Wf A → Wf X → allOf (A ++ (framesOf l ++ X)) A.length = ends A.length l ++ allOf (A ++ (framesOf l ++ X)) (A.length + (framesOf l).length) := by
  induction l with
  | nil => intro A X _ _; simp [framesOf, ends]
  | cons r l ih =>
    intro A X hA hX
    have hr := h r List.mem_cons_self
    have hl : GoodL l := fun x hx => h x (List.mem_cons_of_mem _ hx)
    have hwf : Wf (A ++ (framesOf (r :: l) ++ X)) := wf_app hA (wf_app (framesOf_wf h) hX)
    have hd : (A ++ (framesOf (r :: l) ++ X)).drop A.length = frameOf r ++ (framesOf l ++ X) := by
      rw [List.drop_left' rfl, framesOf, List.append_assoc]
    have hg : getF ((A ++ (framesOf (r :: l) ++ X)).drop A.length) = some (r, (frameOf r).length) := by rw [hd]; exact getF_frame hr.1 hr.2 _
    rw [allOf_some hwf (by simp) hg, ends, List.cons_append]
    have := ih hl (A ++ frameOf r) X (wf_app hA (frame_wf hr.1 hr.2)) hX
    rw [List.length_append] at this
    have e : A ++ (framesOf (r :: l) ++ X) = A ++ frameOf r ++ (framesOf l ++ X) := by simp [framesOf]
    rw [e, this, framesOf, List.length_append, Nat.add_assoc]

/-- A row of frames and what stands behind it. -/
theorem allOf_row {l : List (List Int)} (h : GoodL l) (X : List Int) (hX : Wf X) : allOf (framesOf l ++ X) 0 = ends 0 l ++ allOf (framesOf l ++ X) (framesOf l).length := by
  have := allOf_frames h [] X (fun z hz => by cases hz) hX
  simpa using this

theorem allOf_stop {l : List (List Int)} (h : GoodL l) (X : List Int) (hX : Wf X) (hg : getF X = none) : allOf (framesOf l ++ X) 0 = ends 0 l := by
  rw [allOf_row h X hX, allOf_none, List.append_nil]
  rw [List.drop_left' rfl]
  exact hg

theorem endOf_ends (p : Nat) (l : List (List Int)) (hl : l ≠ []) : endOf (ends p l) = p + (framesOf l).length := by
  induction l generalizing p with
  | nil => exact absurd rfl hl
  | cons r l ih =>
    cases l with
    | nil => simp [ends, endOf, framesOf]
    | cons r' l =>
      have := ih (p + (frameOf r).length) (by simp)
      rw [ends]
      unfold endOf at this ⊢
      rw [show ends (p + (frameOf r).length) (r' :: l) = (p + (frameOf r).length + (frameOf r').length, r') :: ends (p + (frameOf r).length + (frameOf r').length) l from rfl] at this ⊢
      rw [List.getLast?_cons_cons, this, show framesOf (r :: r' :: l) = frameOf r ++ framesOf (r' :: l) from rfl, List.length_append]
      omega

theorem endOf_ends0 (l : List (List Int)) : endOf (ends 0 l) = (framesOf l).length := by
  cases l with
  | nil => rfl
  | cons r l => rw [endOf_ends 0 (r :: l) (by simp), Nat.zero_add]

theorem allOf_ge {zs : List Int} (hwf : Wf zs) : ∀ (f p : Nat), p ≤ zs.length → ∀ x ∈ allF zs f p, p ≤ x.1
  | 0, _, _, _, hx => by cases hx
  | f + 1, p, hp, x, hx => by
    unfold allF at hx
    cases hg : getF (zs.drop p) with
    | none => rw [hg] at hx; cases hx
    | some y =>
      obtain ⟨r, n⟩ := y
      rw [hg] at hx
      have hb := getF_le (fun z hz => hwf z (List.mem_of_mem_drop hz)) hg
      rw [List.length_drop] at hb
      rcases List.mem_cons.1 hx with rfl | hx
      · show p ≤ p + n; omega
      · have := allOf_ge hwf f (p + n) (by omega) x hx
        omega

theorem endOf_append_ge (a b : List (Nat × List Int)) (p : Nat) (ha : p ≤ endOf a) (hb : ∀ x ∈ b, p ≤ x.1) : p ≤ endOf (a ++ b) := by
  cases h : b.getLast? with
  | none =>
    have : b = [] := List.getLast?_eq_none_iff.1 h
    rw [this, List.append_nil]; exact ha
  | some x =>
    have hm : x ∈ b := List.mem_of_getLast? h
    unfold endOf
    rw [List.getLast?_append, h]
    exact hb x hm
end Go.Proofs.Ytfcckekinlobjaa
