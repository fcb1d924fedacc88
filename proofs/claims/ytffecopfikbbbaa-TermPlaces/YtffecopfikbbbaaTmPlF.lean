/-
  The document's Put over trees, and what it is.
-/
import Derived.Test.YtffecopfikbbbaaTmPlE
namespace Go.Proofs.Ytffecopfikbbbaa
open Go.RowKit
set_option linter.unusedVariables false
set_option linter.unusedSimpArgs false
set_option maxRecDepth 100000

/-- The document's Put, n calls deep. -/
def rput (u : Tm) : Nat → Tm → Int → Tm × Int
  | 0, t, n => (t, n)
  | d + 1, t, n => if n = 0 then (u, -1) else if t.f < 0 then (⟨t.f, []⟩, n - 1) else
    let r := t.l.foldl (fun acc x => if acc.2 ≥ 0 then (acc.1 ++ [(rput u d x acc.2).1], (rput u d x acc.2).2) else (acc.1 ++ [x], acc.2)) (([] : List Tm), n - 1)
    (⟨t.f, r.1⟩, r.2)
def rstep (u : Tm) (d : Nat) (acc : List Tm × Int) (x : Tm) : List Tm × Int := if acc.2 ≥ 0 then (acc.1 ++ [(rput u d x acc.2).1], (rput u d x acc.2).2) else (acc.1 ++ [x], acc.2)
def rfold (u : Tm) (d : Nat) (l : List Tm) (n : Int) : List Tm × Int := l.foldl (rstep u d) ([], n)
theorem rfold_snoc (u : Tm) (d : Nat) (l : List Tm) (x : Tm) (n : Int) : rfold u d (l ++ [x]) n = rstep u d (rfold u d l n) x := by
  unfold rfold; rw [List.foldl_append]; rfl
theorem rput_sym {u : Tm} {d : Nat} {t : Tm} {n : Int} (h0 : n ≠ 0) (hf : ¬ t.f < 0) : rput u (d + 1) t n = (⟨t.f, (rfold u d t.l (n - 1)).1⟩, (rfold u d t.l (n - 1)).2) := by
  rw [rput, if_neg h0, if_neg hf]; rfl
theorem rput_var {u : Tm} {d : Nat} {t : Tm} {n : Int} (h0 : n ≠ 0) (hf : t.f < 0) : rput u (d + 1) t n = (⟨t.f, []⟩, n - 1) := by
  rw [rput, if_neg h0, if_pos hf]
theorem rfold_len (u : Tm) (d : Nat) (n : Int) (l : List Tm) : (rfold u d l n).1.length = l.length := by
  have : ∀ (l : List Tm) (acc : List Tm × Int), (l.foldl (rstep u d) acc).1.length = acc.1.length + l.length := by
    intro l
    induction l with
    | nil => intro acc; rfl
    | cons x l ih =>
      intro acc
      rw [List.foldl_cons, ih]
      unfold rstep
      split <;> simp <;> omega
  have := this l ([], n)
  unfold rfold
  simpa using this

/-- What it makes: as long as the count is not down the rest of it, else what putP makes. -/
def RSays (u t : Tm) (n : Int) (r : Tm × Int) : Prop :=
  ((t.size : Int) ≤ n → r.2 = n - t.size ∧ r.1.strip = t.strip) ∧ (n < t.size → r.2 = -1 ∧ ∃ p z, t.places[n.toNat]? = some p ∧ putP u p t = some z ∧ r.1.strip = z.strip)
theorem placesL_at : ∀ {l : List Tm} {k j : Nat} {x : Tm} {m : Nat}, l[j]? = some x → m < x.size → ∀ b, (Tm.placesL l b)[((l.take j).map Tm.size).sum + m]? = (x.places[m]?).map (fun p => ((b + j : Nat) : Int) :: p)
  | t :: ts, k, 0, x, m, hx, hm, b => by
    simp at hx; subst hx
    rw [placesL_cons]
    simp only [List.take_zero, List.map_nil, List.sum_nil, Nat.zero_add, Nat.add_zero]
    rw [List.getElem?_append_left (by rw [List.length_map, Tm.places_len]; exact hm), List.getElem?_map]
  | t :: ts, k, j + 1, x, m, hx, hm, b => by
    rw [placesL_cons, List.take_succ_cons, List.map_cons, List.sum_cons]
    rw [List.getElem?_append_right (by rw [List.length_map, Tm.places_len]; omega), List.length_map, Tm.places_len]
    have := placesL_at (l := ts) (k := k) (j := j) (x := x) (m := m) (by simpa using hx) hm (b + 1)
    rw [show t.size + ((ts.take j).map Tm.size).sum + m - t.size = ((ts.take j).map Tm.size).sum + m by omega, this]
    congr 1
    funext p
    congr 2
    omega
theorem rfold_says (u : Tm) (d : Nat) (n : Int) (hn : 0 ≤ n) (l : List Tm) (ih : ∀ x ∈ l, ∀ m : Int, 0 ≤ m → RSays u x m (rput u d x m)) : ∀ k, k ≤ l.length →
    ((((l.take k).map Tm.size).sum : Int) ≤ n → (rfold u d (l.take k) n).2 = n - (((l.take k).map Tm.size).sum : Nat) ∧ (rfold u d (l.take k) n).1.map Tm.strip = (l.take k).map Tm.strip) ∧
    (n < (((l.take k).map Tm.size).sum : Nat) → (rfold u d (l.take k) n).2 = -1 ∧ ∃ j x p z, j < k ∧ l[j]? = some x ∧ (Tm.placesL l 0)[n.toNat]? = some ((j : Int) :: p) ∧ putP u p x = some z ∧ (rfold u d (l.take k) n).1.map Tm.strip = (l.take j).map Tm.strip ++ z.strip :: ((l.take k).drop (j + 1)).map Tm.strip) := by
  intro k
  induction k with
  | zero => intro _; refine ⟨fun _ => ⟨by simp [rfold], rfl⟩, fun h => ?_⟩; simp at h; omega
  | succ k ihk =>
    intro hk
    obtain ⟨h1, h2⟩ := ihk (by omega)
    obtain ⟨x, hx⟩ : ∃ x, l[k]? = some x := ⟨l[k], List.getElem?_eq_getElem (by omega)⟩
    have htk : l.take (k + 1) = l.take k ++ [x] := by rw [List.take_add_one, hx]; rfl
    have hsum : ((l.take (k + 1)).map Tm.size).sum = ((l.take k).map Tm.size).sum + x.size := by rw [htk, List.map_append, List.sum_append_nat]; simp
    obtain ⟨S, hS⟩ : ∃ S, S = ((l.take k).map Tm.size).sum := ⟨_, rfl⟩
    rw [← hS] at h1 h2 hsum
    rw [hsum, htk, rfold_snoc]
    obtain ⟨acc, hacc⟩ : ∃ acc, acc = rfold u d (l.take k) n := ⟨_, rfl⟩
    have hal : acc.1.length = k := by rw [hacc, rfold_len, List.length_take]; omega
    rw [← hacc] at h1 h2 ⊢
    unfold rstep
    by_cases hc : (S : Int) ≤ n
    · obtain ⟨a1, a2⟩ := h1 hc
      rw [if_pos (by rw [a1]; omega)]
      obtain ⟨r1, r2⟩ := ih x (List.mem_of_getElem? hx) acc.2 (by rw [a1]; omega)
      simp only
      refine ⟨fun h => ?_, fun h => ?_⟩
      · obtain ⟨b1, b2⟩ := r1 (by rw [a1]; omega)
        refine ⟨by rw [b1, a1]; omega, ?_⟩
        rw [List.map_append, List.map_append, a2, List.map_cons, List.map_cons, b2]
      · obtain ⟨b1, p, z, b2, b3, b4⟩ := r2 (by rw [a1]; omega)
        refine ⟨b1, k, x, p, z, by omega, hx, ?_, b3, ?_⟩
        · have hm : acc.2.toNat < x.size := by rw [a1]; omega
          have := placesL_at (k := 0) hx hm 0
          rw [← hS, show S + acc.2.toNat = n.toNat by rw [a1]; omega, b2, Option.map_some, Nat.zero_add] at this
          exact this
        · rw [List.map_append, a2, List.map_cons, List.map_nil, b4]
          congr 2
          rw [List.drop_eq_nil_of_le (by rw [List.length_append, List.length_take]; simp; omega)]; rfl
    · obtain ⟨a1, j, y, p, z, b1, b2, b3, b4, b5⟩ := h2 (by omega)
      rw [if_neg (by rw [a1]; omega)]
      simp only
      refine ⟨fun h => by omega, fun h => ⟨a1, j, y, p, z, by omega, b2, b3, b4, ?_⟩⟩
      rw [List.map_append, b5, List.drop_append_of_le_length (by rw [List.length_take]; omega), List.map_append, List.append_assoc, List.cons_append]
theorem toNat_pred {n : Int} (h : 0 < n) : n.toNat = (n - 1).toNat + 1 := by omega
theorem rput_says (u : Tm) : ∀ (d : Nat) (t : Tm) (n : Int), t.size ≤ d → 0 ≤ n → RSays u t n (rput u d t n)
  | 0, t, n, h, _ => by rw [Tm.size_eq] at h; omega
  | d + 1, t, n, h, hn => by
    have hs1 : 0 < t.size := by rw [Tm.size_eq]; omega
    by_cases h0 : n = 0
    · subst h0
      refine ⟨fun h => by omega, fun _ => ?_⟩
      rw [rput, if_pos rfl]
      exact ⟨rfl, [], u.strip, by rw [Tm.places_eq]; rfl, rfl, (Tm.strip_strip u).symm⟩
    by_cases hf : t.f < 0
    · rw [rput_var h0 hf]
      have hs : t.size = 1 := by rw [Tm.size_eq, Tm.ps_of_var hf]; rfl
      refine ⟨fun h => ⟨by rw [hs]; rfl, ?_⟩, fun h => by omega⟩
      rw [Tm.strip_eq t, Tm.ps_of_var hf, Tm.strip_eq, Tm.ps_of_var (t := ⟨t.f, []⟩) hf]
    rw [rput_sym h0 hf]
    have hsz := size_parts hf
    have hps : t.ps = t.l := Tm.ps_of_sym (by omega)
    obtain ⟨k1, k2⟩ := rfold_says u d (n - 1) (by omega) t.l (fun x hx m hm => rput_says u d x m (by
      have h1 := Tm.size_eq t
      rw [hps] at h1
      have := flatMap_len_mem Tm.flat hx
      have h2 : x.size = x.flat.length := rfl
      omega) hm) t.l.length (Nat.le_refl _)
    rw [List.take_length] at k1 k2
    obtain ⟨r, hr⟩ : ∃ r, r = rfold u d t.l (n - 1) := ⟨_, rfl⟩
    rw [← hr] at k1 k2 ⊢
    have hst : ∀ l : List Tm, (Tm.mk t.f l).strip = ⟨t.f, l.map Tm.strip⟩ := fun l => by
      rw [Tm.strip_eq, Tm.ps_of_sym (t := ⟨t.f, l⟩) (by show 0 ≤ t.f; omega)]
    refine ⟨fun h => ?_, fun h => ?_⟩
    · obtain ⟨a1, a2⟩ := k1 (by omega)
      refine ⟨by simp only; rw [a1]; omega, ?_⟩
      simp only
      rw [hst, a2, Tm.strip_eq t, hps]
    · obtain ⟨a1, j, x, p, z, b1, b2, b3, b4, b5⟩ := k2 (by omega)
      refine ⟨a1, (j : Int) :: p, ⟨t.f, (t.l.take j).map Tm.strip ++ z :: (t.l.drop (j + 1)).map Tm.strip⟩, ?_, ?_, ?_⟩
      · rw [Tm.places_eq, hps, toNat_pred (n := n) (by clear hr k1 k2 b1 b2 b3 b4 b5 a1; omega), List.getElem?_cons_succ]
        exact b3
      · rw [putP]
        have hpa : t.pa (j : Int) = some x := by
          unfold Tm.pa
          rw [if_pos (by omega), Int.toNat_natCast, hps, b2]
        rw [hpa, Option.bind_some, b4, Int.toNat_natCast]; rfl
      · simp only
        rw [hst, hst, b5, List.map_append, List.map_cons, map_strip2, map_strip2]
theorem rput_ok (u : Tm) (hu : u.ok) : ∀ (d : Nat) (t : Tm) (n : Int), t.ok → (rput u d t n).1.ok
  | 0, t, n, h => h
  | d + 1, t, n, h => by
    by_cases h0 : n = 0
    · rw [rput, if_pos h0]; exact hu
    by_cases hf : t.f < 0
    · rw [rput_var h0 hf]; exact leaf_ok _
    rw [rput_sym h0 hf]
    obtain ⟨h1, h2⟩ := (Tm.ok_iff _).1 h
    refine (Tm.ok_iff _).2 ⟨by simp only; rw [rfold_len]; exact h1, ?_⟩
    have : ∀ (l : List Tm) (acc : List Tm × Int), (∀ x ∈ l, x.ok) → (∀ x ∈ acc.1, x.ok) → ∀ x ∈ (l.foldl (rstep u d) acc).1, x.ok := by
      intro l
      induction l with
      | nil => intro acc _ h; exact h
      | cons x l ih =>
        intro acc hl ha
        rw [List.foldl_cons]
        refine ih _ (fun y hy => hl y (List.mem_cons_of_mem _ hy)) ?_
        unfold rstep
        split
        · intro y hy
          rcases List.mem_append.1 hy with hy | hy
          · exact ha y hy
          · rw [List.mem_singleton.1 hy]; exact rput_ok u hu d x acc.2 (hl x (by simp))
        · intro y hy
          rcases List.mem_append.1 hy with hy | hy
          · exact ha y hy
          · rw [List.mem_singleton.1 hy]; exact hl x (by simp)
    exact this t.l ([], n - 1) h2 (fun x hx => by cases hx)
end Go.Proofs.Ytffecopfikbbbaa
