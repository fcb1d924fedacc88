/-
  The small functions of term: whether a variable, its number, the parts that count, whether a part is there; cmp.Compare of ints; the order of heads.
-/
import Derived.Test.YtmdhefepaolhcaaTmMem
import Derived.Test.YtmdhefepaolhcaaChecked
import Derived.Deep.QuietTactic
import Derived.BigQuiet
import Derived.Deep.RegionHeld3
namespace Go.Proofs.Ytmdhefepaolhcaa
open Go.RowKit
set_option linter.unusedVariables false
set_option linter.unusedSimpArgs false

theorem hid {p : Prop} (h : p) : Hid p := h
theorem bW (w : World) : Below w.heap.size w w := Below.refl _ _
theorem bA {w w' : World} (h : Below w.heap.size w w') (o : Obj) : Below w.heap.size w (w'.alloc o) := h.alloc h.size o
/-- A step behind a step. -/
theorem bN {w w' w'' : World} (h : Below w.heap.size w w') (h2 : Below w'.heap.size w' w'') : Below w.heap.size w w'' := h.trans (h2.mono h.size)
theorem bD {w w' : World} (h : Below w.heap.size w w') : Below w.heap.size w w'.drew := h.drew
theorem Tat.bw {U : Nat → Prop} {w w' : World} {t : Tm} {a : Option Addr} {n c : Nat} (h : Tat U w t a n c) (hb : Below w.heap.size w w') : Tat U w' t a n c := h.below hb fun _ _ h => h
theorem Las.bw {U : Nat → Prop} {w w' : World} {l : List Tm} {a : Option Addr} {n c : Nat} (h : Las U w l a n c) (hb : Below w.heap.size w w') : Las U w' l a n c := h.below hb fun _ _ h => h

theorem isVar_any (f : Int) (a : Option Addr) (n c : Nat) (w : World) :
    Calls Try.prog 51 #[.agg #[.int .i64 f, .slice a n c]] w fun e w' => e = .returned (.bool (decide (f < 0))) ∧ Below w.heap.size w w' := by
  go_enter Try.func51, Try.ntmps51
  go_wp2
  go_ret
  exact ⟨rfl, bA (bW _) _⟩

theorem number_any (f : Int) (a : Option Addr) (n c : Nat) (w : World) (h1 : -9223372036854775808 ≤ f) (h2 : f < 0) :
    Calls Try.prog 52 #[.agg #[.int .i64 f, .slice a n c]] w fun e w' => e = .returned (.int .i64 (-1 - f)) ∧ Below w.heap.size w w' := by
  go_enter Try.func52, Try.ntmps52
  go_wp2
  go_ret
  exact ⟨rfl, bA (bW _) _⟩

set_option maxHeartbeats 400000 in
theorem parts_var (f : Int) (a : Option Addr) (n c : Nat) (w : World) (h : f < 0) :
    Calls Try.prog 60 #[.agg #[.int .i64 f, .slice a n c]] w fun e w' => e = .returned (.slice none 0 0) ∧ Below w.heap.size w w' := by
  go_enter Try.func60, Try.ntmps60
  go_wp2_with (go_at_call 51; refine (isVar_any _ _ _ _ _).mono ?_; rintro e w1 ⟨rfl, hb1⟩)
  go_wp2
  go_ret
  exact ⟨rfl, bN (bA (bW _) _) hb1⟩

set_option maxHeartbeats 400000 in
theorem parts_sym (f : Int) (a : Option Addr) (n c : Nat) (w : World) (h : 0 ≤ f) :
    Calls Try.prog 60 #[.agg #[.int .i64 f, .slice a n c]] w fun e w' => e = .returned (.slice a n c) ∧ Below w.heap.size w w' := by
  have h' : ¬ f < 0 := by omega
  have hc0 : ∀ w1, Below (w.alloc (.cells #[.int .i64 f, .slice a n c] 34)).heap.size (w.alloc (.cells #[.int .i64 f, .slice a n c] 34)) w1 → w1.cell? ⟨w.heap.size, 1, none⟩ = some (.slice a n c) := fun w1 hb => by
    rw [hb.cell (by simp), World.cell?_alloc_mark]; rfl
  go_enter Try.func60, Try.ntmps60
  go_wp2_with (go_at_call 51; refine (isVar_any _ _ _ _ _).mono ?_; rintro e w1 ⟨rfl, hb1⟩; have hc1 := hc0 w1 hb1)
  go_wp2
  go_ret
  exact ⟨rfl, bN (bA (bW _) _) hb1⟩

/-- What parts returns of a term in memory. -/
theorem parts_any {U : Nat → Prop} {t : Tm} {a : Option Addr} {n c : Nat} {w : World} (h : Tat U w t a n c) :
    Calls Try.prog 60 #[.agg #[.int .i64 t.f, .slice a n c]] w fun e w' => Below w.heap.size w w' ∧ ∃ a' n' c', e = .returned (.slice a' n' c') ∧ Las U w' t.ps a' n' c' := by
  by_cases hf : t.f < 0
  · refine (parts_var _ _ _ _ _ hf).mono ?_
    rintro e w' ⟨rfl, hb⟩
    exact ⟨hb, _, _, _, rfl, by rw [Tm.ps_of_var hf]; exact Las.nil _ _⟩
  · refine (parts_sym _ _ _ _ _ (by omega)).mono ?_
    rintro e w' ⟨rfl, hb⟩
    exact ⟨hb, _, _, _, rfl, by rw [Tm.ps_of_sym (by omega)]; exact h.las.bw hb⟩

theorem isNaN_any (x : Int) (w : World) :
    Calls Try.prog 89 #[.int .i64 x] w fun e w' => e = .returned (.bool false) ∧ w' = w := by
  go_enter Try.func89, Try.ntmps89
  go_wp2
  go_ret
  exact ⟨by simp, rfl⟩

/-- -1, 0 or 1. -/
def cmpZ (x y : Int) : Int := if x < y then -1 else if y < x then 1 else 0

set_option maxHeartbeats 400000 in
theorem cmpInt_any (x y : Int) (w : World) :
    Calls Try.prog 75 #[.int .i64 x, .int .i64 y] w fun e w' => e = .returned (.int .i64 (cmpZ x y)) ∧ Below w.heap.size w w' := by
  rcases Int.lt_trichotomy x y with h | h | h
  · have h2 : cmpZ x y = -1 := if_pos h
    rw [h2]
    clear h2
    go_enter Try.func75, Try.ntmps75
    go_wp2_with (go_at_call 89; refine (isNaN_any _ _).mono ?_; rintro e w1 ⟨rfl, rfl⟩)
    go_ret
    exact ⟨rfl, bW _⟩
  · subst h
    have h2 : cmpZ x x = 0 := by simp [cmpZ]
    rw [h2]
    clear h2
    go_enter Try.func75, Try.ntmps75
    go_wp2_with (go_at_call 89; refine (isNaN_any _ _).mono ?_; rintro e w1 ⟨rfl, rfl⟩)
    go_ret
    exact ⟨rfl, bW _⟩
  · have h2 : cmpZ x y = 1 := by unfold cmpZ; rw [if_neg (by omega), if_pos h]
    rw [h2]
    clear h2
    go_enter Try.func75, Try.ntmps75
    go_wp2_with (go_at_call 89; refine (isNaN_any _ _).mono ?_; rintro e w1 ⟨rfl, rfl⟩)
    go_ret
    exact ⟨rfl, bW _⟩

/-- The order of heads: variables by their numbers, ahead of symbols. -/
def cmpH (x y : Int) : Int := if x < 0 ∧ y < 0 then cmpZ (-1 - x) (-1 - y) else cmpZ x y

/-- A term's box, as it is read later. -/
theorem box1 {w w1 : World} {x y : Value} {t : TypeId} (hb : Below (w.alloc (.cells #[x, y] t)).heap.size (w.alloc (.cells #[x, y] t)) w1) : w1.cell? ⟨w.heap.size, 0, none⟩ = some x ∧ w1.cell? ⟨w.heap.size, 1, none⟩ = some y := by
  constructor
  · rw [hb.cell (by simp), World.cell?_alloc_mark]; rfl
  · rw [hb.cell (by simp), World.cell?_alloc_mark]; rfl
theorem box2 {w w1 : World} {x y x' y' : Value} {t t' : TypeId} (hb : Below ((w.alloc (.cells #[x, y] t)).alloc (.cells #[x', y'] t')).heap.size ((w.alloc (.cells #[x, y] t)).alloc (.cells #[x', y'] t')) w1) :
    (w1.cell? ⟨w.heap.size, 0, none⟩ = some x ∧ w1.cell? ⟨w.heap.size, 1, none⟩ = some y) ∧ (w1.cell? ⟨w.heap.size + 1, 0, none⟩ = some x' ∧ w1.cell? ⟨w.heap.size + 1, 1, none⟩ = some y') := by
  refine ⟨box1 (bN (bA (bW _) _) hb), ?_⟩
  have := box1 hb
  rw [World.size_alloc] at this
  exact this

set_option maxHeartbeats 800000 in
theorem heads_any (f g : Int) (a b : Option Addr) (n c m d : Nat) (w : World) (hf : -9223372036854775808 ≤ f) (hg : -9223372036854775808 ≤ g) :
    Calls Try.prog 74 #[.agg #[.int .i64 f, .slice a n c], .agg #[.int .i64 g, .slice b m d]] w fun e w' => e = .returned (.int .i64 (cmpH f g)) ∧ Below w.heap.size w w' := by
  obtain ⟨w0, hw0⟩ : ∃ w0, w0 = (w.alloc (.cells #[.int .i64 f, .slice a n c] 34)).alloc (.cells #[.int .i64 g, .slice b m d] 34) := ⟨_, rfl⟩
  have HB : Hid (∀ w1, Below w0.heap.size w0 w1 → (w1.cell? ⟨w.heap.size, 0, none⟩ = some (.int .i64 f) ∧ w1.cell? ⟨w.heap.size, 1, none⟩ = some (.slice a n c)) ∧ (w1.cell? ⟨w.heap.size + 1, 0, none⟩ = some (.int .i64 g) ∧ w1.cell? ⟨w.heap.size + 1, 1, none⟩ = some (.slice b m d))) := fun w1 hb => by
    rw [hw0] at hb; exact box2 hb
  have HW : Hid (w0 = (w.alloc (.cells #[.int .i64 f, .slice a n c] 34)).alloc (.cells #[.int .i64 g, .slice b m d] 34)) := hw0
  have HB0 : Hid (Below w.heap.size w w0) := by rw [hw0]; exact bA (bA (bW _) _) _
  clear hw0
  have hq : Below w0.heap.size w0 w0 := bW _
  obtain ⟨⟨c1, c2⟩, c3, c4⟩ := HB.out w0 hq
  by_cases h1 : f < 0
  · by_cases h2 : g < 0
    · have h3 : cmpH f g = cmpZ (-1 - f) (-1 - g) := if_pos ⟨h1, h2⟩
      rw [h3]
      clear h3
      have h2' : g ≤ -1 := by omega
      have h1' : f ≤ -1 := by omega
      go_enter Try.func74, Try.ntmps74
      go_wp2_with fail
      rw [← HW.out]
      go_wp2_with (go_at_call 51; refine (isVar_any _ _ _ _ _).mono ?_; rintro e w1 ⟨rfl, hb1⟩; replace hq := bN hq hb1; clear c1 c2 c3 c4 hb1; obtain ⟨⟨c1, c2⟩, c3, c4⟩ := HB.out _ hq)
      go_region_held3 (fun w' => (w'.cell? ⟨w.heap.size, 0, none⟩ = some (.int .i64 f) ∧ w'.cell? ⟨w.heap.size, 1, none⟩ = some (.slice a n c)) ∧ (w'.cell? ⟨w.heap.size + 1, 0, none⟩ = some (.int .i64 g) ∧ w'.cell? ⟨w.heap.size + 1, 1, none⟩ = some (.slice b m d))) (exact HB.out _ (by first | with_reducible exact hq | with_reducible exact bD hq))
        (first
          | (go_at_call 52; refine (number_any _ _ _ _ _ (by assumption) (by assumption)).mono ?_; rintro e w2 ⟨rfl, hb2⟩; replace hq := bN (by first | with_reducible exact hq | with_reducible exact bD hq) hb2; clear hb2; dsimp only)
          | (go_at_call 75; refine (cmpInt_any _ _ _).mono ?_; rintro e w2 ⟨rfl, hb2⟩; replace hq := bN (by first | with_reducible exact hq | with_reducible exact bD hq) hb2; clear hb2; dsimp only))
      go_wp2_with fail
      go_ret
      exact ⟨rfl, bN HB0.out hq⟩
    · have h3 : cmpH f g = cmpZ f g := if_neg (by omega)
      rw [h3]
      clear h3
      go_enter Try.func74, Try.ntmps74
      go_wp2_with fail
      rw [← HW.out]
      go_wp2_with (first
        | (go_at_call 51; refine (isVar_any _ _ _ _ _).mono ?_; rintro e w1 ⟨rfl, hb1⟩; replace hq := bN hq hb1; clear c1 c2 c3 c4 hb1; obtain ⟨⟨c1, c2⟩, c3, c4⟩ := HB.out _ hq)
        | (go_at_call 75; refine (cmpInt_any _ _ _).mono ?_; rintro e w1 ⟨rfl, hb1⟩))
      go_ret
      exact ⟨rfl, bN (bN HB0.out hq) hb1⟩
  · have h3 : cmpH f g = cmpZ f g := if_neg (by omega)
    rw [h3]
    clear h3
    go_enter Try.func74, Try.ntmps74
    go_wp2_with fail
    rw [← HW.out]
    go_wp2_with (first
      | (go_at_call 51; refine (isVar_any _ _ _ _ _).mono ?_; rintro e w1 ⟨rfl, hb1⟩; replace hq := bN hq hb1; clear c1 c2 c3 c4 hb1; obtain ⟨⟨c1, c2⟩, c3, c4⟩ := HB.out _ hq)
      | (go_at_call 75; refine (cmpInt_any _ _ _).mono ?_; rintro e w1 ⟨rfl, hb1⟩))
    go_ret
    exact ⟨rfl, bN (bN HB0.out hq) hb1⟩
end Go.Proofs.Ytmdhefepaolhcaa
