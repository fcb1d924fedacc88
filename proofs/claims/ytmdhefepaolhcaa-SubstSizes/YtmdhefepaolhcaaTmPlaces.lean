/-
  term.Places: all places of a term, each a row of ints of its own.
-/
import Derived.Test.YtmdhefepaolhcaaTmConcat
namespace Go.Proofs.Ytmdhefepaolhcaa
open Go.RowKit
set_option linter.unusedVariables false
set_option linter.unusedSimpArgs false

/-- Each list behind its number. -/
def placesW : List (List (List Int)) → Nat → List (List Int)
  | [], _ => []
  | ps :: rest, k => ps.map (fun p => (k : Int) :: p) ++ placesW rest (k + 1)
/-- All places, in order. -/
def Tm.places : Tm → List (List Int)
  | ⟨f, l⟩ => [] :: (if f < 0 then [] else placesW (l.map Tm.places) 0)
def Tm.placesL (l : List Tm) (k : Nat) : List (List Int) := placesW (l.map Tm.places) k
theorem placesL_nil (k : Nat) : Tm.placesL [] k = [] := rfl
theorem placesL_cons (t : Tm) (ts : List Tm) (k : Nat) : Tm.placesL (t :: ts) k = t.places.map (fun p => (k : Int) :: p) ++ Tm.placesL ts (k + 1) := rfl
theorem Tm.places_eq (t : Tm) : t.places = [] :: Tm.placesL t.ps 0 := by
  cases t with
  | mk f l =>
    rw [Tm.places]
    unfold Tm.ps
    simp only
    by_cases h : f < 0 <;> simp [h, Tm.placesL, placesW]
theorem Tm.placesL_snoc : ∀ (l : List Tm) (s : Tm) (k : Nat), Tm.placesL (l ++ [s]) k = Tm.placesL l k ++ s.places.map (fun p => ((k + l.length : Nat) : Int) :: p)
  | [], s, k => by simp [placesL_cons, placesL_nil]
  | t :: ts, s, k => by
    rw [List.cons_append, placesL_cons, placesL_cons, Tm.placesL_snoc ts s (k + 1), List.append_assoc, List.length_cons, show k + 1 + ts.length = k + (ts.length + 1) by omega]
theorem Tm.places_len (t : Tm) : t.places.length = t.size := by
  induction t using Tm.indp with
  | h t ih =>
    rw [Tm.places_eq, t.size_eq, List.length_cons]
    have : ∀ (l : List Tm) (k : Nat), (∀ s ∈ l, s.places.length = s.size) → (Tm.placesL l k).length = (l.flatMap Tm.flat).length := by
      intro l
      induction l with
      | nil => intro k _; rfl
      | cons y ys ih2 =>
        intro k hl
        have h1 := hl y (by simp)
        unfold Tm.size at h1
        rw [placesL_cons, List.flatMap_cons, List.length_append, List.length_append, List.length_map, h1, ih2 _ (fun s hs => hl s (List.mem_cons_of_mem _ hs))]
    rw [this _ _ ih]
    omega

/-- A row of ints, as it is held. -/
structure Pr where
  a : Option Addr
  n : Nat
  c : Nat
  p : List Int
def Pr.v (x : Pr) : Value := .slice x.a x.n x.c
def ints (p : List Int) : List Value := p.map fun z => .int .i64 z
def Pr.ok (U : Nat → Prop) (w : World) (x : Pr) : Prop := x.n = x.p.length ∧ x.n ≤ x.c ∧ x.c ≤ maxLen ∧ (x.a = none → x.n = 0 ∧ x.c = 0) ∧ Cu U w x.a (ints x.p)
theorem Pr.ok.keep {U V : Nat → Prop} {w w' : World} {x : Pr} (h : x.ok U w) (hs : ∀ b, U b → b < w.heap.size → V b ∧ w'.heap[b]? = w.heap[b]?) : x.ok V w' := ⟨h.1, h.2.1, h.2.2.1, h.2.2.2.1, h.2.2.2.2.keep hs⟩
theorem ints_one (p : List Int) : ∀ u ∈ ints p, u.oneCell' = true := by
  intro u hu
  obtain ⟨z, _, rfl⟩ := List.mem_map.1 hu
  rfl

/-- A row of the call's own whose elements are rows of ints beside it. -/
def PsT (w : World) (base : Nat) (v : Value) (ps : List (List Int)) : Prop :=
  ∃ xs : List Pr, w.ownsRow base 41 1 v ps.length (xs.map Pr.v) ∧ xs.map Pr.p = ps ∧ ∀ x ∈ xs, x.ok (fun b => base ≤ b ∧ v.ownBlock ≠ some b) w

theorem info_ints : (Try.prog.info? 41).map (fun i => (i.zero, i.size, i.bytes)) = some (some (.slice none 0 0), 1, 24) := by kernel_rfl

/-- All but v's own block stays; v' lies where v lay or is new. -/
def Onto (v v' : Value) (w w' : World) : Prop := w.heap.size ≤ w'.heap.size ∧ (∀ b, b < w.heap.size → v.ownBlock ≠ some b → w'.heap[b]? = w.heap[b]?) ∧ ∀ g, v'.ownBlock = some g → v.ownBlock = some g ∨ w.heap.size ≤ g
theorem Onto.trans {v v1 v2 : Value} {w w1 w2 : World} (h : Onto v v1 w w1) (k : Onto v1 v2 w1 w2) : Onto v v2 w w2 := by
  refine ⟨Nat.le_trans h.1 k.1, fun b hb hne => ?_, fun g hg => ?_⟩
  · rw [k.2.1 b (Nat.lt_of_lt_of_le hb h.1) (fun e => ?_), h.2.1 b hb hne]
    rcases h.2.2 b e with e' | e'
    · exact hne e'
    · omega
  · rcases k.2.2 g hg with e | e
    · exact h.2.2 g e
    · have := h.1; exact .inr (by omega)
theorem Onto.of_below {v : Value} {w w' : World} (h : Below w.heap.size w w') : Onto v v w w' := ⟨h.size, fun b hb _ => h.block b hb, fun g hg => .inl hg⟩

theorem PsT.bw {w w' : World} {base : Nat} {v : Value} {ps : List (List Int)} (h : PsT w base v ps) (hb : Below w.heap.size w w') : PsT w' base v ps := by
  obtain ⟨xs, h1, h2, h3⟩ := h
  exact ⟨xs, ownsRow_below h1 hb (Nat.le_refl _), h2, fun x hx => (h3 x hx).keep fun b hb' hlt => ⟨hb', hb.block b hlt⟩⟩

theorem two_cells {W : World} {b : Nat} {x y : Value} {t : TypeId} (h : W.heap[b]? = some (.cells #[x, y] t (0, 0))) : ∀ r, r < 2 → W.cell? ⟨b, 0 + r, none⟩ = some (if r = 0 then x else y) := by
  intro r hr
  match r, hr with
  | 0, _ => simp [World.cell?, h]
  | 1, _ => simp [World.cell?, h]

theorem box_cells {w : World} {b : Nat} {x y : Value} {t : TypeId} {fl : Nat × Nat} (h : w.heap[b]? = some (.cells #[x, y] t fl)) : w.cell? ⟨b, 0, none⟩ = some x ∧ w.cell? ⟨b, 1, none⟩ = some y := by
  constructor <;> simp [World.cell?, h]

end Go.Proofs.Ytmdhefepaolhcaa
