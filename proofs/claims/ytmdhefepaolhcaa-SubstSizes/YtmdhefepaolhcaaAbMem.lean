/-
  Data as trees of cells, and how they lie in memory: scalars, lists, rows (structs). U tells which cells may be read. No function of the program is named here.
-/
import Derived.Test.YtmdhefepaolhcaaRowMem
namespace Go.Proofs.Ytmdhefepaolhcaa
open Go.RowKit
set_option linter.unusedVariables false

/-- k = 0: the scalar v; k = 1: a slice, l its elements; k = 2: a row, l its parts; k = 4: a pointer, l what lies there; k = 10 + n: the function v, the first n of l bound, the others captured. -/
structure CV where
  k : Nat
  v : Value
  l : List CV

abbrev CV.sc (v : Value) : CV := ⟨0, v, []⟩
abbrev CV.i (z : Int) : CV := ⟨0, .int .i64 z, []⟩
abbrev CV.b (z : Bool) : CV := ⟨0, .bool z, []⟩
abbrev CV.lst (l : List CV) : CV := ⟨1, .nilFunc, l⟩
abbrev CV.row (l : List CV) : CV := ⟨2, .nilFunc, l⟩
abbrev CV.ptr (c : CV) : CV := ⟨4, .nilFunc, [c]⟩
abbrev CV.fn (f n : Nat) (l : List CV) : CV := ⟨10 + n, .func (.func f) #[] #[], l⟩

/-- How many cells. -/
noncomputable def CV.size (c : CV) : Nat := CV.rec (motive_1 := fun _ => Nat) (motive_2 := fun _ => Nat) (fun k _ _ ih => match Nat.beq k 2 with | true => ih | false => 1) 0 (fun _ _ a b => a + b) c
theorem CV.size_mk (k : Nat) (v : Value) (l : List CV) : (CV.mk k v l).size = if k = 2 then (l.map CV.size).sum else 1 := by
  have hl : ∀ l : List CV, CV.rec_1 (motive_1 := fun _ => Nat) (motive_2 := fun _ => Nat) (fun k _ _ ih => match Nat.beq k 2 with | true => ih | false => 1) 0 (fun _ _ a b => a + b) l = (l.map CV.size).sum := by
    intro l
    induction l with
    | nil => rfl
    | cons c cs ih => rw [List.map_cons, List.sum_cons, ← ih]; rfl
  rw [← hl]
  by_cases h : k = 2
  · subst h; rfl
  · rw [if_neg h]
    have : Nat.beq k 2 = false := by
      cases e : Nat.beq k 2 with
      | false => rfl
      | true => exact absurd (Nat.eq_of_beq_eq_true e) h
    show (match Nat.beq k 2 with | true => _ | false => 1) = 1
    rw [this]

/-- Values in a row, piece by piece. -/
def Sq : List (List Value → Prop) → List Value → Prop
  | [], xs => xs = []
  | p :: ps, xs => ∃ ys zs, xs = ys ++ zs ∧ p ys ∧ Sq ps zs

/-- At a slice's head lie these cells, all of U. -/
def At (U : Nat → Nat → Prop) (w : World) (a : Option Addr) (xs : List Value) : Prop :=
  xs = [] ∨ ∃ b off, a = some ⟨b, off, none⟩ ∧ ∀ i, i < xs.length → U b (off + i) ∧ w.cell? ⟨b, off + i, none⟩ = xs[i]?

/-- These values are the tree's cells. -/
def Rep (U : Nat → Nat → Prop) (w : World) : CV → List Value → Prop
  | ⟨k, v, l⟩, xs =>
    if k = 2 then Sq (l.map fun c => Rep U w c) xs
    else if k = 1 then ∃ a n c, xs = [.slice a n c] ∧ n = l.length ∧ n ≤ c ∧ c ≤ maxLen ∧ (a = none → n = 0 ∧ c = 0) ∧ ∃ ys, At U w a ys ∧ Sq (l.map fun c => Rep U w c) ys
    else if k = 4 then ∃ b off ys, xs = [.pointer (some ⟨b, off, none⟩)] ∧ Sq (l.map fun c => Rep U w c) ys ∧ ∀ i, i < ys.length → U b (off + i) ∧ w.cell? ⟨b, off + i, none⟩ = ys[i]?
    else if 10 ≤ k then ∃ (fn : Fn) (ys zs : List Value), v = .func fn #[] #[] ∧ xs = [.func fn ys.toArray zs.toArray] ∧ ys.length + 10 = k ∧ Sq (l.map fun c => Rep U w c) (ys ++ zs) ∧ ∀ c ∈ l, c.k ≠ 2
    else xs = [v] ∧ v.oneCell' = true

theorem rep_sc {U : Nat → Nat → Prop} {w : World} {v : Value} {xs : List Value} : Rep U w (.sc v) xs ↔ xs = [v] ∧ v.oneCell' = true := by
  rw [Rep]; simp
theorem rep_lst {U : Nat → Nat → Prop} {w : World} {l : List CV} {xs : List Value} : Rep U w (.lst l) xs ↔ ∃ a n c, xs = [.slice a n c] ∧ n = l.length ∧ n ≤ c ∧ c ≤ maxLen ∧ (a = none → n = 0 ∧ c = 0) ∧ ∃ ys, At U w a ys ∧ Sq (l.map fun c => Rep U w c) ys := by
  rw [Rep]; simp
theorem rep_row {U : Nat → Nat → Prop} {w : World} {l : List CV} {xs : List Value} : Rep U w (.row l) xs ↔ Sq (l.map fun c => Rep U w c) xs := by
  rw [Rep]; simp
theorem rep_ptr {U : Nat → Nat → Prop} {w : World} {c : CV} {xs : List Value} : Rep U w (.ptr c) xs ↔ ∃ b off ys, xs = [.pointer (some ⟨b, off, none⟩)] ∧ Rep U w c ys ∧ ∀ i, i < ys.length → U b (off + i) ∧ w.cell? ⟨b, off + i, none⟩ = ys[i]? := by
  rw [Rep, if_neg (by decide), if_neg (by decide), if_pos rfl]
  constructor
  · rintro ⟨b, off, ys, h1, ⟨y1, y2, e, h2, h3⟩, h4⟩
    have h3 : y2 = [] := h3
    subst h3
    rw [List.append_nil] at e
    subst e
    exact ⟨b, off, ys, h1, h2, h4⟩
  · rintro ⟨b, off, ys, h1, h2, h3⟩
    exact ⟨b, off, ys, h1, ⟨ys, [], by simp, h2, rfl⟩, h3⟩
theorem rep_fn {U : Nat → Nat → Prop} {w : World} {f n : Nat} {l : List CV} {xs : List Value} : Rep U w (.fn f n l) xs ↔ ∃ (ys zs : List Value), xs = [.func (.func f) ys.toArray zs.toArray] ∧ ys.length = n ∧ Sq (l.map fun c => Rep U w c) (ys ++ zs) ∧ ∀ c ∈ l, c.k ≠ 2 := by
  rw [Rep, if_neg (by omega), if_neg (by omega), if_neg (by omega), if_pos (by omega)]
  constructor
  · rintro ⟨fn, ys, zs, h1, h2, h3, h4⟩
    injection h1 with h1 _ _
    subst h1
    exact ⟨ys, zs, h2, by omega, h4⟩
  · rintro ⟨ys, zs, h2, h3, h4⟩
    exact ⟨_, ys, zs, rfl, h2, by omega, h4⟩
theorem rep_int {U : Nat → Nat → Prop} {w : World} (k : IntKind) (z : Int) : Rep U w (.sc (.int k z)) [.int k z] := rep_sc.2 ⟨rfl, rfl⟩
theorem rep_bool {U : Nat → Nat → Prop} {w : World} (z : Bool) : Rep U w (.b z) [.bool z] := rep_sc.2 ⟨rfl, rfl⟩

theorem CV.ind {Q : CV → Prop} (h : ∀ k v l, (∀ c ∈ l, Q c) → Q ⟨k, v, l⟩) : ∀ c, Q c := by
  intro t
  induction hn : SizeOf.sizeOf t using Nat.strongRecOn generalizing t with
  | ind n ih =>
    cases t with
    | mk k v l =>
      refine h k v l fun s hs => ih (SizeOf.sizeOf s) ?_ s rfl
      have := List.sizeOf_lt_of_mem hs
      simp at hn
      omega

theorem CV.size_row (l : List CV) : (CV.row l).size = (l.map CV.size).sum := by rw [CV.size_mk]; simp
theorem CV.size_lst (l : List CV) : (CV.lst l).size = 1 := rfl
theorem CV.size_sc (v : Value) : (CV.sc v).size = 1 := rfl

theorem sq_map {f g : CV → List Value → Prop} : ∀ {l : List CV}, (∀ c ∈ l, ∀ xs, f c xs → g c xs) → ∀ {xs : List Value}, Sq (l.map f) xs → Sq (l.map g) xs
  | [], _, _, h => h
  | c :: cs, h, xs, ⟨ys, zs, e, h1, h2⟩ => ⟨ys, zs, e, h c (by simp) _ h1, sq_map (fun d hd => h d (List.mem_cons_of_mem _ hd)) h2⟩

theorem sq_len {f : CV → List Value → Prop} {n : CV → Nat} : ∀ {l : List CV}, (∀ c ∈ l, ∀ xs, f c xs → xs.length = n c) → ∀ {xs : List Value}, Sq (l.map f) xs → xs.length = (l.map n).sum
  | [], _, _, h => by have h : _ = [] := h; rw [h]; rfl
  | c :: cs, h, xs, ⟨ys, zs, e, h1, h2⟩ => by
    have := h c (by simp) _ h1
    have := sq_len (fun d hd => h d (List.mem_cons_of_mem _ hd)) h2
    rw [e, List.length_append, List.map_cons, List.sum_cons]
    omega

theorem Rep.len {U : Nat → Nat → Prop} {w : World} : ∀ {c : CV} {xs : List Value}, Rep U w c xs → xs.length = c.size := by
  intro c
  induction c using CV.ind with
  | h k v l ih =>
    intro xs h
    rw [Rep] at h
    rw [CV.size_mk]
    by_cases hk : k = 2
    · rw [if_pos hk] at h ⊢
      exact sq_len ih h
    · rw [if_neg hk] at h ⊢
      by_cases hk1 : k = 1
      · rw [if_pos hk1] at h
        obtain ⟨a, n, c, rfl, _⟩ := h
        rfl
      · rw [if_neg hk1] at h
        by_cases hk4 : k = 4
        · rw [if_pos hk4] at h
          obtain ⟨b, off, ys, rfl, _⟩ := h
          rfl
        · rw [if_neg hk4] at h
          by_cases hk10 : 10 ≤ k
          · rw [if_pos hk10] at h
            obtain ⟨fn, ys, zs, _, rfl, _⟩ := h
            rfl
          · rw [if_neg hk10] at h
            rw [h.1]; rfl

theorem sq_one {f : CV → List Value → Prop} : ∀ {l : List CV}, (∀ c ∈ l, ∀ xs, f c xs → ∀ u ∈ xs, u.oneCell' = true) → ∀ {xs : List Value}, Sq (l.map f) xs → ∀ u ∈ xs, u.oneCell' = true
  | [], _, _, h => by have h : _ = [] := h; rw [h]; simp
  | c :: cs, h, xs, ⟨ys, zs, e, h1, h2⟩ => by
    intro u hu
    rw [e, List.mem_append] at hu
    rcases hu with hu | hu
    · exact h c (by simp) _ h1 u hu
    · exact sq_one (fun d hd => h d (List.mem_cons_of_mem _ hd)) h2 u hu

theorem Rep.one {U : Nat → Nat → Prop} {w : World} : ∀ {c : CV} {xs : List Value}, Rep U w c xs → ∀ u ∈ xs, u.oneCell' = true := by
  intro c
  induction c using CV.ind with
  | h k v l ih =>
    intro xs h
    rw [Rep] at h
    by_cases hk : k = 2
    · rw [if_pos hk] at h
      exact sq_one ih h
    · rw [if_neg hk] at h
      by_cases hk1 : k = 1
      · rw [if_pos hk1] at h
        obtain ⟨a, n, c, rfl, _⟩ := h
        simp [Value.oneCell']
      · rw [if_neg hk1] at h
        by_cases hk4 : k = 4
        · rw [if_pos hk4] at h
          obtain ⟨b, off, ys, rfl, _⟩ := h
          simp [Value.oneCell']
        · rw [if_neg hk4] at h
          by_cases hk10 : 10 ≤ k
          · rw [if_pos hk10] at h
            obtain ⟨fn, ys, zs, _, rfl, _⟩ := h
            simp [Value.oneCell']
          · rw [if_neg hk10] at h
            rw [h.1]
            simpa using h.2

theorem At.keep {U V : Nat → Nat → Prop} {w w' : World} {a : Option Addr} {xs : List Value} (h : At U w a xs) (hs : ∀ b o v, U b o → w.cell? ⟨b, o, none⟩ = some v → V b o ∧ w'.cell? ⟨b, o, none⟩ = some v) : At V w' a xs := by
  rcases h with h | ⟨b, off, ha, hc⟩
  · exact .inl h
  · refine .inr ⟨b, off, ha, fun i hi => ?_⟩
    obtain ⟨h1, h2⟩ := hc i hi
    rw [List.getElem?_eq_getElem hi] at h2 ⊢
    exact hs b (off + i) _ h1 h2

/-- What lies in cells that stay is still there. -/
theorem Rep.keep {U V : Nat → Nat → Prop} {w w' : World} (hs : ∀ b o v, U b o → w.cell? ⟨b, o, none⟩ = some v → V b o ∧ w'.cell? ⟨b, o, none⟩ = some v) : ∀ {c : CV} {xs : List Value}, Rep U w c xs → Rep V w' c xs := by
  intro c
  induction c using CV.ind with
  | h k v l ih =>
    intro xs h
    rw [Rep] at h ⊢
    by_cases hk : k = 2
    · rw [if_pos hk] at h ⊢
      exact sq_map (fun c hc xs h => ih c hc h) h
    · rw [if_neg hk] at h ⊢
      by_cases hk1 : k = 1
      · rw [if_pos hk1] at h ⊢
        obtain ⟨a, n, c, h1, h2, h3, h4, h5, ys, h6, h7⟩ := h
        exact ⟨a, n, c, h1, h2, h3, h4, h5, ys, h6.keep hs, sq_map (fun c hc xs h => ih c hc h) h7⟩
      · rw [if_neg hk1] at h ⊢
        by_cases hk4 : k = 4
        · rw [if_pos hk4] at h ⊢
          obtain ⟨b, off, ys, h1, h2, h3⟩ := h
          refine ⟨b, off, ys, h1, sq_map (fun c hc xs h => ih c hc h) h2, fun i hi => ?_⟩
          obtain ⟨h7, h8⟩ := h3 i hi
          rw [List.getElem?_eq_getElem hi] at h8 ⊢
          exact hs _ _ _ h7 h8
        · rw [if_neg hk4] at h ⊢
          by_cases hk10 : 10 ≤ k
          · rw [if_pos hk10] at h ⊢
            obtain ⟨fn, ys, zs, h1, h2, h3, h4, h5⟩ := h
            exact ⟨fn, ys, zs, h1, h2, h3, sq_map (fun c hc xs h => ih c hc h) h4, h5⟩
          · rw [if_neg hk10] at h ⊢
            exact h
theorem Sq.keep {U V : Nat → Nat → Prop} {w w' : World} (hs : ∀ b o v, U b o → w.cell? ⟨b, o, none⟩ = some v → V b o ∧ w'.cell? ⟨b, o, none⟩ = some v) {l : List CV} {xs : List Value} (h : Sq (l.map fun c => Rep U w c) xs) : Sq (l.map fun c => Rep V w' c) xs := sq_map (fun c _ xs h => h.keep hs) h
theorem Rep.mono {U V : Nat → Nat → Prop} {w : World} (hU : ∀ b o, U b o → V b o) {c : CV} {xs : List Value} (h : Rep U w c xs) : Rep V w c xs := h.keep fun b o v h1 h2 => ⟨hU b o h1, h2⟩

theorem sq_append {ps qs : List (List Value → Prop)} : ∀ {xs ys : List Value}, Sq ps xs → Sq qs ys → Sq (ps ++ qs) (xs ++ ys) := by
  induction ps with
  | nil => intro xs ys h1 h2; have h1 : xs = [] := h1; rw [h1]; exact h2
  | cons p ps ih =>
    rintro xs ys ⟨a, b, rfl, h3, h4⟩ h2
    exact ⟨a, b ++ ys, List.append_assoc _ _ _, h3, ih h4 h2⟩
theorem sq_split {ps qs : List (List Value → Prop)} : ∀ {xs : List Value}, Sq (ps ++ qs) xs → ∃ ys zs, xs = ys ++ zs ∧ Sq ps ys ∧ Sq qs zs := by
  induction ps with
  | nil => intro xs h; exact ⟨[], xs, rfl, rfl, h⟩
  | cons p ps ih =>
    rintro xs ⟨a, b, rfl, h3, h4⟩
    obtain ⟨y, z, rfl, h5, h6⟩ := ih h4
    exact ⟨a ++ y, z, (List.append_assoc _ _ _).symm, ⟨a, y, rfl, h3, h5⟩, h6⟩
theorem sq_single {p : List Value → Prop} {xs : List Value} (h : p xs) : Sq [p] xs := ⟨xs, [], by simp, h, rfl⟩
theorem sq_one_iff {p : List Value → Prop} {xs : List Value} : Sq [p] xs ↔ p xs :=
  ⟨fun ⟨ys, zs, e, h, h2⟩ => by have h2 : zs = [] := h2; rw [e, h2, List.append_nil]; exact h, sq_single⟩

/-- A value of the tree: a row is a struct. -/
def VRep (U : Nat → Nat → Prop) (w : World) (c : CV) (v : Value) : Prop :=
  if c.k = 2 then ∃ xs : List Value, v = .agg xs.toArray ∧ Rep U w c xs else Rep U w c [v]
theorem VRep.keep {U V : Nat → Nat → Prop} {w w' : World} (hs : ∀ b o v, U b o → w.cell? ⟨b, o, none⟩ = some v → V b o ∧ w'.cell? ⟨b, o, none⟩ = some v) {c : CV} {v : Value} (h : VRep U w c v) : VRep V w' c v := by
  unfold VRep at h ⊢
  split
  · rename_i hk
    rw [if_pos hk] at h
    obtain ⟨xs, h1, h2⟩ := h
    exact ⟨xs, h1, h2.keep hs⟩
  · rename_i hk
    rw [if_neg hk] at h
    exact h.keep hs
theorem VRep.mono {U V : Nat → Nat → Prop} {w : World} (hU : ∀ b o, U b o → V b o) {c : CV} {v : Value} (h : VRep U w c v) : VRep V w c v := h.keep fun b o v h1 h2 => ⟨hU b o h1, h2⟩
/-- Its cells. -/
theorem VRep.cells {U : Nat → Nat → Prop} {w : World} {c : CV} {v : Value} (h : VRep U w c v) : Rep U w c v.cells.toList := by
  unfold VRep at h
  split at h
  · obtain ⟨xs, rfl, h2⟩ := h
    simpa [Value.cells] using h2
  · have h1 := h.one v (by simp)
    have : v.cells = #[v] := by cases v <;> first | rfl | simp [Value.oneCell'] at h1
    rw [this]
    exact h
theorem vrep_sc {U : Nat → Nat → Prop} {w : World} {v u : Value} : VRep U w (.sc v) u ↔ u = v ∧ v.oneCell' = true := by
  rw [show VRep U w (.sc v) u = Rep U w (.sc v) [u] from rfl, rep_sc]; simp
theorem vrep_lst {U : Nat → Nat → Prop} {w : World} {l : List CV} {u : Value} : VRep U w (.lst l) u ↔ ∃ a n c, u = .slice a n c ∧ n = l.length ∧ n ≤ c ∧ c ≤ maxLen ∧ (a = none → n = 0 ∧ c = 0) ∧ ∃ ys, At U w a ys ∧ Sq (l.map fun c => Rep U w c) ys := by
  rw [show VRep U w (.lst l) u = Rep U w (.lst l) [u] from rfl, rep_lst]; simp
theorem vrep_row {U : Nat → Nat → Prop} {w : World} {l : List CV} {u : Value} : VRep U w (.row l) u ↔ ∃ xs : List Value, u = .agg xs.toArray ∧ Sq (l.map fun c => Rep U w c) xs := by
  rw [show VRep U w (.row l) u = ∃ xs : List Value, u = .agg xs.toArray ∧ Rep U w (.row l) xs from rfl]
  simp only [rep_row]

/-- A row's child, and where it begins. -/
noncomputable def preO : List CV → Nat → Option (Nat × CV)
  | [], _ => none
  | c :: cs, 0 => some (0, c)
  | c :: cs, i + 1 => match preO cs i with | some (n, x) => some (c.size + n, x) | none => none
/-- The part at a path, and where it begins. -/
noncomputable def CV.at : CV → List Nat → Option (Nat × CV)
  | c, [] => some (0, c)
  | ⟨k, _, l⟩, i :: p => match Nat.beq k 2, preO l i with
    | true, some (n, c) => match c.at p with | some (m, x) => some (n + m, x) | none => none
    | _, _ => none

theorem preO_spec {f : CV → List Value → Prop} (hf : ∀ c xs, f c xs → xs.length = c.size) : ∀ {l : List CV} {i n : Nat} {c : CV}, preO l i = some (n, c) → l[i]? = some c ∧ ∀ {xs : List Value}, Sq (l.map f) xs → ∃ ys zs us, xs = ys ++ zs ++ us ∧ ys.length = n ∧ f c zs ∧ ∀ (c' : CV) (zs' : List Value), f c' zs' → Sq ((l.set i c').map f) (ys ++ zs' ++ us)
  | [], _, _, _, h => by simp [preO] at h
  | c :: cs, 0, n, c', h => by
    simp [preO] at h
    obtain ⟨rfl, rfl⟩ := h
    refine ⟨rfl, fun {xs} ⟨ys, zs, e, h1, h2⟩ => ⟨[], ys, zs, by simp [e], rfl, h1, fun c' zs' h3 => ⟨zs', zs, by simp, h3, h2⟩⟩⟩
  | c :: cs, i + 1, n, c', h => by
    unfold preO at h
    split at h
    · rename_i m x hx
      cases h
      obtain ⟨e0, ih⟩ := preO_spec hf hx
      refine ⟨by simpa using e0, fun {xs} ⟨ys, zs, e, h1, h2⟩ => ?_⟩
      obtain ⟨y2, z2, u2, e2, e3, e4, e5⟩ := ih h2
      refine ⟨ys ++ y2, z2, u2, by rw [e, e2]; simp, by rw [List.length_append, hf _ _ h1, e3], e4, fun c' zs' h3 => ⟨ys, y2 ++ zs' ++ u2, by simp, h1, e5 c' zs' h3⟩⟩
    · cases h

theorem at_spec {U : Nat → Nat → Prop} {w : World} : ∀ {p : List Nat} {c : CV} {n : Nat} {c' : CV} {xs : List Value}, c.at p = some (n, c') → Rep U w c xs → ∃ ys zs us, xs = ys ++ zs ++ us ∧ ys.length = n ∧ Rep U w c' zs
  | [], c, n, c', xs, h, hr => by
    cases c
    simp [CV.at] at h
    obtain ⟨rfl, rfl⟩ := h
    exact ⟨[], xs, [], by simp, rfl, hr⟩
  | i :: p, ⟨k, v, l⟩, n, c', xs, h, hr => by
    unfold CV.at at h
    split at h
    · rename_i n1 c1 hk h1
      split at h
      · rename_i m x h2
        cases h
        have hk : k = 2 := Nat.eq_of_beq_eq_true hk
        subst hk
        rw [Rep, if_pos rfl] at hr
        obtain ⟨_, h3⟩ := preO_spec (f := fun c => Rep U w c) (fun c xs h => h.len) h1
        obtain ⟨ys, zs, us, e, e1, e2, _⟩ := h3 hr
        obtain ⟨y2, z2, u2, e3, e4, e5⟩ := at_spec h2 e2
        exact ⟨ys ++ y2, z2, u2 ++ us, by rw [e, e3]; simp, by rw [List.length_append, e1, e4], e5⟩
      · cases h
    · cases h

/-- Cells of a new block. -/
theorem At.new {U : Nat → Nat → Prop} (w : World) (xs : List Value) (t : TypeId) (hU : ∀ i, i < xs.length → U w.heap.size i) : At U (w.alloc (.cells xs.toArray t)) (some ⟨w.heap.size, 0, none⟩) xs := by
  refine .inr ⟨_, 0, rfl, fun i hi => ⟨by rw [Nat.zero_add]; exact hU i hi, ?_⟩⟩
  have e : (⟨w.heap.size, 0 + i, none⟩ : Addr) = ⟨w.heap.size, i, none⟩ := by rw [Nat.zero_add]
  rw [e, World.cell?_alloc_mark]
  simp
end Go.Proofs.Ytmdhefepaolhcaa
