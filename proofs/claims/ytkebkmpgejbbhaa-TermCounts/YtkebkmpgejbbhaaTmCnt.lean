/-
  Sizes, counts and variables of a term of two parts.
-/
import Derived.Test.YtkebkmpgejbbhaaTmVars
import Derived.Deep.QuietTactic
namespace Go.Proofs.Ytkebkmpgejbbhaa
open Go.RowKit
set_option linter.unusedVariables false
set_option linter.unusedSimpArgs false

theorem prbw {x : Pr} {V V' : World} (h : x.ok (fun _ => True) V) (hb : Below V.heap.size V V') : x.ok (fun _ => True) V' := h.keep fun b _ hlt => ⟨trivial, hb.block b hlt⟩

theorem bDN {w w' : World} (n : Nat) (h : Below w.heap.size w w') : Below w.heap.size w (w'.drewN n) := h.trans ⟨rfl, rfl, rfl, Nat.le_refl _, fun _ _ => rfl⟩

theorem flat_two {f : Int} (x y : Tm) (h : 0 ≤ f) : (Tm.mk f [x, y]).flat = .mk f [x, y] :: (x.flat ++ y.flat) := by
  rw [Tm.flat_eq, Tm.ps_of_sym (t := .mk f [x, y]) h]
  simp
theorem size_two {f : Int} (x y : Tm) (h : 0 ≤ f) : (Tm.mk f [x, y]).size = 1 + x.size + y.size := by
  unfold Tm.size
  rw [flat_two x y h]
  simp
  omega
theorem cnt_two {f : Int} (g : Int) (x y : Tm) (h : 0 ≤ f) : cntF g (Tm.mk f [x, y]).flat = (if f = g then 1 else 0) + cntF g x.flat + cntF g y.flat := by
  rw [flat_two x y h]
  unfold cntF
  rw [List.filter_cons, List.filter_append]
  by_cases e : f = g <;> simp [e] <;> omega

theorem top_fold (l : List Tm) : ∀ m, -1 ≤ m → l.foldl (fun m s => if s.f < 0 then max m (-1 - s.f) else m) m = max m (topF l) := by
  induction l with
  | nil => intro m hm; simp [topF]; omega
  | cons s l ih =>
    intro m hm
    unfold topF
    simp only [List.foldl_cons]
    by_cases e : s.f < 0
    · simp only [e, if_true]
      rw [ih _ (by omega), ih (max (-1) (-1 - s.f)) (by omega)]
      omega
    · simp only [e, if_false]
      rw [ih _ hm, ih (-1) (by omega)]
      omega
theorem top_ge (l : List Tm) : -1 ≤ topF l := by
  have := top_fold l (-1) (by omega)
  unfold topF at *
  omega
theorem top_two {f : Int} (x y : Tm) (h : 0 ≤ f) : topF (Tm.mk f [x, y]).flat = max (topF x.flat) (topF y.flat) := by
  rw [flat_two x y h]
  have h1 : topF (.mk f [x, y] :: (x.flat ++ y.flat)) = y.flat.foldl (fun m s => if s.f < 0 then max m (-1 - s.f) else m) (topF x.flat) := by
    unfold topF
    simp only [List.foldl_cons, List.foldl_append]
    rw [if_neg (by omega)]
  rw [h1, top_fold _ _ (top_ge _)]

theorem varS_in (acc : List Int) (s : Tm) {n : Int} (h : n ∈ acc) : n ∈ varS acc s := by
  unfold varS
  split
  · split
    · exact h
    · exact List.mem_append_left _ h
  · exact h
theorem fold_pre (l : List Tm) : ∀ acc, acc <+: l.foldl varS acc := by
  induction l with
  | nil => intro acc; exact List.prefix_refl _
  | cons s l ih =>
    intro acc
    simp only [List.foldl_cons]
    refine List.IsPrefix.trans ?_ (ih _)
    unfold varS
    split
    · split
      · exact List.prefix_refl _
      · exact List.prefix_append _ _
    · exact List.prefix_refl _
theorem fold_more (l : List Tm) : ∀ acc acc', (∀ n ∈ acc', n ∈ acc) → (l.foldl varS acc).length + acc'.length ≤ (l.foldl varS acc').length + acc.length := by
  induction l with
  | nil => intro acc acc' _; simp; omega
  | cons s l ih =>
    intro acc acc' h
    simp only [List.foldl_cons]
    by_cases hf : s.f < 0
    · by_cases h1 : (-1 - s.f) ∈ acc'
      · have h2 := h _ h1
        rw [show varS acc s = acc by simp [varS, hf, h2], show varS acc' s = acc' by simp [varS, hf, h1]]
        exact ih _ _ h
      · by_cases h2 : (-1 - s.f) ∈ acc
        · rw [show varS acc s = acc by simp [varS, hf, h2], show varS acc' s = acc' ++ [-1 - s.f] by simp [varS, hf, h1]]
          have := ih acc (acc' ++ [-1 - s.f]) (fun n hn => by
            rcases List.mem_append.1 hn with hn | hn
            · exact h n hn
            · rw [List.mem_singleton.1 hn]; exact h2)
          simp at this
          omega
        · rw [show varS acc s = acc ++ [-1 - s.f] by simp [varS, hf, h2], show varS acc' s = acc' ++ [-1 - s.f] by simp [varS, hf, h1]]
          have := ih (acc ++ [-1 - s.f]) (acc' ++ [-1 - s.f]) (fun n hn => by
            rcases List.mem_append.1 hn with hn | hn
            · exact List.mem_append_left _ (h n hn)
            · exact List.mem_append_right _ hn)
          simp at this
          omega
    · rw [show varS acc s = acc by simp [varS, hf], show varS acc' s = acc' by simp [varS, hf]]
      exact ih _ _ h
theorem fold_mem (l : List Tm) : ∀ acc acc', (∀ n ∈ acc', n ∈ acc) → ∀ n ∈ l.foldl varS acc', n ∈ l.foldl varS acc := by
  induction l with
  | nil => intro acc acc' h; exact h
  | cons s l ih =>
    intro acc acc' h
    simp only [List.foldl_cons]
    refine ih _ _ fun n hn => ?_
    unfold varS at hn ⊢
    by_cases hf : s.f < 0
    · simp only [hf, if_true] at hn ⊢
      by_cases h1 : (-1 - s.f) ∈ acc'
      · simp only [h1, if_true] at hn
        simp only [h _ h1, if_true]
        exact h n hn
      · simp only [h1, if_false] at hn
        by_cases h2 : (-1 - s.f) ∈ acc
        · simp only [h2, if_true]
          rcases List.mem_append.1 hn with hn | hn
          · exact h n hn
          · rw [List.mem_singleton.1 hn]; exact h2
        · simp only [h2, if_false]
          rcases List.mem_append.1 hn with hn | hn
          · exact List.mem_append_left _ (h n hn)
          · exact List.mem_append_right _ hn
    · simp only [hf, if_false] at hn ⊢
      exact h n hn
theorem fold_nodup (l : List Tm) : ∀ acc, acc.Nodup → (l.foldl varS acc).Nodup := by
  induction l with
  | nil => intro acc h; exact h
  | cons s l ih =>
    intro acc h
    simp only [List.foldl_cons]
    refine ih _ ?_
    unfold varS
    split
    · split
      · exact h
      · rename_i h1 h2
        rw [List.nodup_append]
        refine ⟨h, by simp, fun a ha b hb => ?_⟩
        rw [List.mem_singleton.1 hb]
        rintro rfl
        exact h2 ha
    · exact h
theorem nodup_le : ∀ (q v : List Int), q.Nodup → (∀ n ∈ q, n ∈ v) → q.length ≤ v.length
  | [], _, _, _ => Nat.zero_le _
  | n :: q, v, hn, h => by
    have hnv := h n (by simp)
    have hd := List.nodup_cons.1 hn
    have := nodup_le q (v.erase n) hd.2 (fun m hm => by
      have hne : m ≠ n := fun e => hd.1 (e ▸ hm)
      exact (List.mem_erase_of_ne hne).2 (h m (List.mem_cons_of_mem _ hm)))
    rw [List.length_erase_of_mem hnv] at this
    have := List.length_pos_of_mem hnv
    simp only [List.length_cons]
    omega

theorem vars_two {f : Int} (x y : Tm) (h : 0 ≤ f) : (varsF x.flat) <+: (varsF (Tm.mk f [x, y]).flat) ∧ (varsF (Tm.mk f [x, y]).flat).length ≤ (varsF x.flat).length + (varsF y.flat).length ∧ (varsF y.flat).length ≤ (varsF (Tm.mk f [x, y]).flat).length := by
  have h1 : varsF (Tm.mk f [x, y]).flat = y.flat.foldl varS (varsF x.flat) := by
    rw [flat_two x y h]
    unfold varsF
    simp only [List.foldl_cons, List.foldl_append]
    rw [show varS [] (.mk f [x, y]) = [] by unfold varS; rw [if_neg (by show ¬ f < 0; omega)]]
  rw [h1]
  refine ⟨fold_pre _ _, ?_, ?_⟩
  · have := fold_more y.flat (varsF x.flat) [] (by simp)
    unfold varsF at *
    simp at this
    omega
  · exact nodup_le _ _ (fold_nodup _ _ (by simp)) (fold_mem _ _ _ (by simp))
end Go.Proofs.Ytkebkmpgejbbhaa
