/-
  ClGet ClGet2 ClA ClB SbVnt2 ClNmN
-/
import Derived.Test.YtmeegdomncadpaaGreatMg4
import Derived.Test.YtmeegdomncadpaaGreatMg3
namespace Go.Proofs.YtmeegdomncadpaaGreat
open Go.RowKit
set_option linter.unusedVariables false
set_option linter.unusedSimpArgs false
set_option maxRecDepth 100000
def zT : Tm := ⟨0, []⟩
def zL : Lt := ⟨false, zT, zT⟩
def okP {α : Type} (q : Nat) : Except Nat (α × Nat) → Int
  | .ok (_, c) => ((q + c : Nat) : Int)
  | .error _ => 0
def okE {α : Type} : Except Nat (α × Nat) → Int
  | .ok _ => 0
  | .error e => (e : Int)
def okN : Except Nat (Nat × Nat) → Int
  | .ok (v, _) => (v : Int)
  | .error _ => 0
noncomputable def okT : Except Nat (Tm × Nat) → CV
  | .ok (x, _) => x.cw
  | .error _ => .row [.i 0, .lst []]
noncomputable def okG : Except Nat (Lt × Nat) → CV
  | .ok (x, _) => x.cw
  | .error _ => .row [.b false, .row [.i 0, .lst []], .row [.i 0, .lst []]]
noncomputable def okLT : Except Nat (List Tm × Nat) → List CV
  | .ok (x, _) => x.map Tm.cv
  | .error _ => []
noncomputable def okLG : Except Nat (List Lt × Nat) → List CV
  | .ok (x, _) => x.map Lt.cv
  | .error _ => []
noncomputable abbrev tupN (q : Nat) (r : Except Nat (Nat × Nat)) : List CV := [.sc (.int .u64 (okN r)), .i (okP q r), by8 (okE r)]
noncomputable abbrev tupT (q : Nat) (r : Except Nat (Tm × Nat)) : List CV := [okT r, .i (okP q r), by8 (okE r)]
noncomputable abbrev tupG (q : Nat) (r : Except Nat (Lt × Nat)) : List CV := [okG r, .i (okP q r), by8 (okE r)]
noncomputable abbrev tupLT (q : Nat) (r : Except Nat (List Tm × Nat)) : List CV := [.lst (okLT r), .i (okP q r), by8 (okE r)]
noncomputable abbrev tupLG (q : Nat) (r : Except Nat (List Lt × Nat)) : List CV := [.lst (okLG r), .i (okP q r), by8 (okE r)]
theorem gU_in {zs : List Int} {q : Nat} (hq : q ≤ zs.length) : gU zs q = match rdU (zs.drop q) with
    | (v, c, 0) => ((v : Int), ((q + c : Nat) : Int), 0)
    | (_, _, e + 1) => (0, 0, ((e + 1 : Nat) : Int)) := by
  unfold gU
  rw [if_neg (by omega)]
  show (match rdU (zs.drop q) with
    | (v, c, 0) => ((v : Int), ((q : Int) + c), 0)
    | (_, _, e + 1) => (0, 0, ((e + 1 : Nat) : Int))) = _
  split <;> simp
theorem gI_in {zs : List Int} {q : Nat} (hq : q ≤ zs.length) : gI zs q = match rdU (zs.drop q) with
    | (v, c, 0) => (unzz v, ((q + c : Nat) : Int), 0)
    | (_, _, e + 1) => (0, 0, ((e + 1 : Nat) : Int)) := by
  unfold gI
  rw [if_neg (by omega)]
  show (match rdU (zs.drop q) with
    | (v, c, 0) => (unzz v, ((q : Int) + c), 0)
    | (_, _, e + 1) => (0, 0, ((e + 1 : Nat) : Int))) = _
  split <;> simp
-- 
theorem cGetE_abs (W : World) (zs : List Int) (p : Int) (most : Nat) (e : Nat) (he : e ≠ 0) (h : ∀ w, AFun Tryz.prog w 124 [.lst (zs.map by8), .i p] (.tup [.sc (.int .u64 0), .i 0, by8 (e : Int)])) : AFun Tryz.prog W 94 [.lst (zs.map by8), .i p, .sc (.int .u64 (most : Int))] (.tup [.sc (.int .u64 0), .i 0, by8 (e : Int)]) := by
  have g1 : decide ((e : Int) = 0) = false := by rw [decide_eq_false_iff_not]; omega
  have g2 : decide ((e : Int) ≠ 0) = true := by rw [decide_eq_true_eq]; omega
  refine afun_of (rs := [.sc (.int .u64 0), .i 0, by8 (e : Int)]) Tryz.func94 Tryz.ntmps94 rfl rfl rfl rfl ?_
  intro w U hW
  refine aS (aR ?_)
  (refine nx (aA (gN rfl) rfl rfl rfl rfl rfl) rfl ?_)
  (refine nx (aA (gN rfl) rfl rfl rfl rfl rfl) rfl ?_)
  (refine nx (aA (gN rfl) rfl rfl rfl rfl rfl) rfl ?_)
  show AWp _ _ _ _ _ _ _
  refine aS (aR ?_)
  (refine nx (aM (gN rfl) rfl rfl rfl rfl rfl) rfl ?_)
  (refine nx (aM (gN rfl) rfl rfl rfl rfl rfl) rfl ?_)
  (refine nx (a_call (gN rfl) rfl rfl rfl rfl rfl (h w)) rfl ?_)
  (refine nx (aM (gN rfl) rfl rfl rfl rfl rfl) rfl ?_)
  (refine nx (aX (gN rfl) rfl rfl rfl rfl rfl rfl) rfl ?_)
  (refine nx (aX (gN rfl) rfl rfl rfl rfl rfl rfl) rfl ?_)
  (refine nx (aX (gN rfl) rfl rfl rfl rfl rfl rfl) rfl ?_)
  (refine nx (aA (gN rfl) rfl rfl rfl rfl rfl) rfl ?_)
  (refine nx (aA (gN rfl) rfl rfl rfl rfl rfl) rfl ?_)
  (refine nx (aA (gN rfl) rfl rfl rfl rfl rfl) rfl ?_)
  show AWp _ _ _ _ _ _ _
  refine aS (aS (aR ?_))
  (refine nx (aM (gN rfl) rfl rfl rfl rfl rfl) rfl ?_)
  (refine nx (a_eql (gN rfl) rfl rfl rfl rfl rfl rfl) rfl ?_)
  (refine nx (aM (gN rfl) rfl rfl rfl rfl rfl) rfl ?_)
  (refine ⟨_, _, _, a_off (go_off rfl rfl rfl rfl (by first | rfl | assumption | (simp; done) | (simp [*]; done))) rfl rfl rfl, rfl, ?_⟩)
  (refine ⟨_, _, _, a_off (go_off rfl rfl rfl rfl (by first | rfl | assumption | (simp; done) | (simp [*]; done))) rfl rfl rfl, rfl, ?_⟩)
  (refine ⟨_, _, _, a_off (go_off rfl rfl rfl rfl (by first | rfl | assumption | (simp; done) | (simp [*]; done))) rfl rfl rfl, rfl, ?_⟩)
  (refine ⟨_, _, _, aPf (gN rfl) rfl rfl rfl rfl rfl ?hb rfl, rfl, ?_⟩; case hb => (first | rfl | assumption | (simp; done)))
  show AWp _ _ _ _ _ _ _
  refine aC rfl (fun hc => by cases hc) (fun hc => aK ?_)
  show AWp _ _ _ _ _ _ _
  refine aS (aS (aR ?_))
  (refine nx (aM (gN rfl) rfl rfl rfl rfl rfl) rfl ?_)
  (refine nx (a_neq (gN rfl) rfl rfl rfl rfl rfl rfl) rfl ?_)
  show AWp _ _ _ _ _ _ _
  refine aC rfl (fun hc => ?_) (fun hc => Bool.noConfusion (g2.symm.trans hc))
  refine aS (aR ?_)
  (refine nx (aM (gN rfl) rfl rfl rfl rfl rfl) rfl ?_)
  (refine nx (aA (gN rfl) rfl rfl rfl rfl rfl) rfl ?_)
  (refine nx (aA (gN rfl) rfl rfl rfl rfl rfl) rfl ?_)
  (refine nx (aA (gN rfl) rfl rfl rfl rfl rfl) rfl ?_)
  show AWp _ _ _ _ _ _ _
  exact aT (And.intro (.inr rfl) rfl)
-- 
theorem cGetN_abs (W : World) (zs : List Int) (hw : wfB zs) (hl : zs.length ≤ 1000000) (q : Nat) (hq : q ≤ zs.length) (most : Nat) : AFun Tryz.prog W 94 [.lst (zs.map by8), .i (q : Int), .sc (.int .u64 (most : Int))] (.tup (tupN q (rN most (zs.drop q)))) := by
  have hu := fun w => cUint_abs w zs hw hl q
  rw [gU_in hq] at hu
  unfold rN
  obtain ⟨⟨v, c, e⟩, hr⟩ : ∃ r, rdU (zs.drop q) = r := ⟨_, rfl⟩
  rw [hr] at hu ⊢
  cases e with
  | succ e => exact cGetE_abs W zs q most (e + 1) (by omega) hu
  | zero =>
  simp only at hu ⊢
  by_cases hv : v > most
  · rw [if_pos hv]
    have g : decide ((v : Int) > (most : Int)) = true := by rw [decide_eq_true_eq]; omega
    refine afun_of (rs := [.sc (.int .u64 0), .i 0, by8 (7 : Int)]) Tryz.func94 Tryz.ntmps94 rfl rfl rfl rfl ?_
    intro w U hW
    refine aS (aR ?_)
    (refine nx (aA (gN rfl) rfl rfl rfl rfl rfl) rfl ?_)
    (refine nx (aA (gN rfl) rfl rfl rfl rfl rfl) rfl ?_)
    (refine nx (aA (gN rfl) rfl rfl rfl rfl rfl) rfl ?_)
    show AWp _ _ _ _ _ _ _
    refine aS (aR ?_)
    (refine nx (aM (gN rfl) rfl rfl rfl rfl rfl) rfl ?_)
    (refine nx (aM (gN rfl) rfl rfl rfl rfl rfl) rfl ?_)
    (refine nx (a_call (gN rfl) rfl rfl rfl rfl rfl (hu w)) rfl ?_)
    (refine nx (aM (gN rfl) rfl rfl rfl rfl rfl) rfl ?_)
    (refine nx (aX (gN rfl) rfl rfl rfl rfl rfl rfl) rfl ?_)
    (refine nx (aX (gN rfl) rfl rfl rfl rfl rfl rfl) rfl ?_)
    (refine nx (aX (gN rfl) rfl rfl rfl rfl rfl rfl) rfl ?_)
    (refine nx (aA (gN rfl) rfl rfl rfl rfl rfl) rfl ?_)
    (refine nx (aA (gN rfl) rfl rfl rfl rfl rfl) rfl ?_)
    (refine nx (aA (gN rfl) rfl rfl rfl rfl rfl) rfl ?_)
    show AWp _ _ _ _ _ _ _
    refine aS (aS (aR ?_))
    (refine nx (aM (gN rfl) rfl rfl rfl rfl rfl) rfl ?_)
    (refine nx (a_eql (gN rfl) rfl rfl rfl rfl rfl rfl) rfl ?_)
    (refine nx (aM (gN rfl) rfl rfl rfl rfl rfl) rfl ?_)
    (refine nx (aM (gd_on rfl rfl rfl rfl (by first | rfl | assumption | (simp; done))) rfl rfl rfl rfl rfl) rfl ?_)
    (refine nx (aM (gd_on rfl rfl rfl rfl (by first | rfl | assumption | (simp; done))) rfl rfl rfl rfl rfl) rfl ?_)
    (refine nx (a_gtr (gd_on rfl rfl rfl rfl (by first | rfl | assumption | (simp; done))) rfl rfl rfl rfl rfl rfl) rfl ?_)
    (refine ⟨_, _, _, aPt (gN rfl) rfl rfl rfl rfl rfl ?hb rfl, rfl, ?_⟩; case hb => (first | rfl | assumption | (simp; done)))
    show AWp _ _ _ _ _ _ _
    refine aC rfl (fun hc => ?_) (fun hc => by rw [g] at hc; cases hc)
    refine aR ?_
    (refine nx (aA (gN rfl) rfl rfl rfl rfl rfl) rfl ?_)
    show AWp _ _ _ _ _ _ _
    refine aS (aS (aR ?_))
    (refine nx (aM (gN rfl) rfl rfl rfl rfl rfl) rfl ?_)
    (refine nx (a_neq (gN rfl) rfl rfl rfl rfl rfl rfl) rfl ?_)
    show AWp _ _ _ _ _ _ _
    refine aC rfl (fun hc => ?_) (fun hc => by cases hc)
    refine aS (aR ?_)
    (refine nx (aM (gN rfl) rfl rfl rfl rfl rfl) rfl ?_)
    (refine nx (aA (gN rfl) rfl rfl rfl rfl rfl) rfl ?_)
    (refine nx (aA (gN rfl) rfl rfl rfl rfl rfl) rfl ?_)
    (refine nx (aA (gN rfl) rfl rfl rfl rfl rfl) rfl ?_)
    show AWp _ _ _ _ _ _ _
    exact aT (And.intro (.inr rfl) rfl)
  · rw [if_neg hv]
    have g : decide ((v : Int) > (most : Int)) = false := by rw [decide_eq_false_iff_not]; omega
    refine afun_of (rs := tupN q (.ok (v, c))) Tryz.func94 Tryz.ntmps94 rfl rfl rfl rfl ?_
    intro w U hW
    refine aS (aR ?_)
    (refine nx (aA (gN rfl) rfl rfl rfl rfl rfl) rfl ?_)
    (refine nx (aA (gN rfl) rfl rfl rfl rfl rfl) rfl ?_)
    (refine nx (aA (gN rfl) rfl rfl rfl rfl rfl) rfl ?_)
    show AWp _ _ _ _ _ _ _
    refine aS (aR ?_)
    (refine nx (aM (gN rfl) rfl rfl rfl rfl rfl) rfl ?_)
    (refine nx (aM (gN rfl) rfl rfl rfl rfl rfl) rfl ?_)
    (refine nx (a_call (gN rfl) rfl rfl rfl rfl rfl (hu w)) rfl ?_)
    (refine nx (aM (gN rfl) rfl rfl rfl rfl rfl) rfl ?_)
    (refine nx (aX (gN rfl) rfl rfl rfl rfl rfl rfl) rfl ?_)
    (refine nx (aX (gN rfl) rfl rfl rfl rfl rfl rfl) rfl ?_)
    (refine nx (aX (gN rfl) rfl rfl rfl rfl rfl rfl) rfl ?_)
    (refine nx (aA (gN rfl) rfl rfl rfl rfl rfl) rfl ?_)
    (refine nx (aA (gN rfl) rfl rfl rfl rfl rfl) rfl ?_)
    (refine nx (aA (gN rfl) rfl rfl rfl rfl rfl) rfl ?_)
    show AWp _ _ _ _ _ _ _
    refine aS (aS (aR ?_))
    (refine nx (aM (gN rfl) rfl rfl rfl rfl rfl) rfl ?_)
    (refine nx (a_eql (gN rfl) rfl rfl rfl rfl rfl rfl) rfl ?_)
    (refine nx (aM (gN rfl) rfl rfl rfl rfl rfl) rfl ?_)
    (refine nx (aM (gd_on rfl rfl rfl rfl (by first | rfl | assumption | (simp; done))) rfl rfl rfl rfl rfl) rfl ?_)
    (refine nx (aM (gd_on rfl rfl rfl rfl (by first | rfl | assumption | (simp; done))) rfl rfl rfl rfl rfl) rfl ?_)
    (refine nx (a_gtr (gd_on rfl rfl rfl rfl (by first | rfl | assumption | (simp; done))) rfl rfl rfl rfl rfl rfl) rfl ?_)
    (refine ⟨_, _, _, aPt (gN rfl) rfl rfl rfl rfl rfl ?hb rfl, rfl, ?_⟩; case hb => (first | rfl | assumption | (simp; done)))
    show AWp _ _ _ _ _ _ _
    refine aC rfl (fun hc => by rw [g] at hc; cases hc) (fun hc => aK ?_)
    show AWp _ _ _ _ _ _ _
    refine aS (aS (aR ?_))
    (refine nx (aM (gN rfl) rfl rfl rfl rfl rfl) rfl ?_)
    (refine nx (a_neq (gN rfl) rfl rfl rfl rfl rfl rfl) rfl ?_)
    show AWp _ _ _ _ _ _ _
    refine aC rfl (fun hc => by cases hc) (fun hc => aK ?_)
    show AWp _ _ _ _ _ _ _
    refine aS (aR ?_)
    (refine nx (aM (gN rfl) rfl rfl rfl rfl rfl) rfl ?_)
    (refine nx (aM (gN rfl) rfl rfl rfl rfl rfl) rfl ?_)
    (refine nx (aA (gN rfl) rfl rfl rfl rfl rfl) rfl ?_)
    (refine nx (aA (gN rfl) rfl rfl rfl rfl rfl) rfl ?_)
    (refine nx (aA (gN rfl) rfl rfl rfl rfl rfl) rfl ?_)
    show AWp _ _ _ _ _ _ _
    exact aT (And.intro (.inr rfl) rfl)
theorem wr32 (x : Int) (h1 : -9223372036854775808 ≤ x) (h2 : x ≤ 9223372036854775807) : IntKind.i64.wrap (IntKind.i32.wrap x) = x ↔ (-2147483648 ≤ x ∧ x ≤ 2147483647) := by
  rw [IntKind.wrap_i64, IntKind.wrap_i32]
  omega
theorem unzz_rng {v : Nat} (h : v < 2 ^ 64) : -9223372036854775808 ≤ unzz v ∧ unzz v ≤ 9223372036854775807 := by
  unfold unzz
  split <;> omega
def rHd (l : List Int) : Except Nat (Tm × Nat) := match rH l with
  | .error e => .error e
  | .ok (f, c) => .ok (⟨f, []⟩, c)
-- 
theorem cGetH_abs (W : World) (zs : List Int) (hw : wfB zs) (hl : zs.length ≤ 1000000) (q : Nat) (hq : q ≤ zs.length) : AFun Tryz.prog W 125 [.lst (zs.map by8), .i (q : Int)] (.tup (tupT q (rHd (zs.drop q)))) := by
  have hu := fun w => cInt_abs w zs hw hl q
  rw [gI_in hq] at hu
  unfold rHd rH
  obtain ⟨⟨v, c, e⟩, hr⟩ : ∃ r, rdU (zs.drop q) = r := ⟨_, rfl⟩
  rw [hr] at hu ⊢
  cases e with
  | succ e =>
    simp only at hu ⊢
    have g1 : decide (((e + 1 : Nat) : Int) = 0) = false := by rw [decide_eq_false_iff_not]; omega
    have g2 : decide (((e + 1 : Nat) : Int) ≠ 0) = true := by rw [decide_eq_true_eq]; omega
    refine afun_of (rs := tupT q (.error (e + 1))) Tryz.func125 Tryz.ntmps125 rfl rfl rfl rfl ?_
    intro w U hW
    refine aS (aR ?_)
    (refine nx (a_alloc (gN rfl) rfl rfl rfl rfl rfl rfl rfl rfl rfl rfl) rfl ?_)
    (refine nx (aA (gN rfl) rfl rfl rfl rfl rfl) rfl ?_)
    (refine nx (aA (gN rfl) rfl rfl rfl rfl rfl) rfl ?_)
    show AWp _ _ _ _ _ _ _
    refine aS (aR ?_)
    (refine nx (aM (gN rfl) rfl rfl rfl rfl rfl) rfl ?_)
    (refine nx (aM (gN rfl) rfl rfl rfl rfl rfl) rfl ?_)
    (refine nx (a_call (gN rfl) rfl rfl rfl rfl rfl (hu w)) rfl ?_)
    (refine nx (aM (gN rfl) rfl rfl rfl rfl rfl) rfl ?_)
    (refine nx (aX (gN rfl) rfl rfl rfl rfl rfl rfl) rfl ?_)
    (refine nx (aX (gN rfl) rfl rfl rfl rfl rfl rfl) rfl ?_)
    (refine nx (aX (gN rfl) rfl rfl rfl rfl rfl rfl) rfl ?_)
    (refine nx (aA (gN rfl) rfl rfl rfl rfl rfl) rfl ?_)
    (refine nx (aA (gN rfl) rfl rfl rfl rfl rfl) rfl ?_)
    (refine nx (aA (gN rfl) rfl rfl rfl rfl rfl) rfl ?_)
    show AWp _ _ _ _ _ _ _
    refine aS (aS (aR ?_))
    (refine nx (aM (gN rfl) rfl rfl rfl rfl rfl) rfl ?_)
    (refine nx (a_eql (gN rfl) rfl rfl rfl rfl rfl rfl) rfl ?_)
    (refine nx (aM (gN rfl) rfl rfl rfl rfl rfl) rfl ?_)
    (refine ⟨_, _, _, a_offt (go_off rfl rfl rfl rfl (by first | rfl | assumption | (simp; done) | (simp [*]; done))) rfl rfl rfl, rfl, ?_⟩)
    (refine ⟨_, _, _, a_offt (go_off rfl rfl rfl rfl (by first | rfl | assumption | (simp; done) | (simp [*]; done))) rfl rfl rfl, rfl, ?_⟩)
    (refine ⟨_, _, _, a_offt (go_off rfl rfl rfl rfl (by first | rfl | assumption | (simp; done) | (simp [*]; done))) rfl rfl rfl, rfl, ?_⟩)
    (refine ⟨_, _, _, a_offt (go_off rfl rfl rfl rfl (by first | rfl | assumption | (simp; done) | (simp [*]; done))) rfl rfl rfl, rfl, ?_⟩)
    (refine ⟨_, _, _, a_offt (go_off rfl rfl rfl rfl (by first | rfl | assumption | (simp; done) | (simp [*]; done))) rfl rfl rfl, rfl, ?_⟩)
    (refine ⟨_, _, _, aPf (gN rfl) rfl rfl rfl rfl rfl ?hb rfl, rfl, ?_⟩; case hb => (first | rfl | assumption | (simp; done)))
    show AWp _ _ _ _ _ _ _
    refine aC rfl (fun hc => by cases hc) (fun hc => aK ?_)
    show AWp _ _ _ _ _ _ _
    refine aS (aS (aR ?_))
    (refine nx (aM (gN rfl) rfl rfl rfl rfl rfl) rfl ?_)
    (refine nx (a_neq (gN rfl) rfl rfl rfl rfl rfl rfl) rfl ?_)
    show AWp _ _ _ _ _ _ _
    refine aC rfl (fun hc => ?_) (fun hc => Bool.noConfusion (g2.symm.trans hc))
    refine aS (aR ?_)
    (refine nx (a_build (gN rfl) rfl rfl rfl rfl rfl rfl rfl rfl rfl rfl rfl) rfl ?_)
    (refine nx (aM (gN rfl) rfl rfl rfl rfl rfl) rfl ?_)
    (refine nx (aSt (gN rfl) rfl rfl rfl rfl rfl rfl rfl rfl rfl rfl) rfl ?_)
    (refine nx (aA (gN rfl) rfl rfl rfl rfl rfl) rfl ?_)
    (refine nx (aA (gN rfl) rfl rfl rfl rfl rfl) rfl ?_)
    show AWp _ _ _ _ _ _ _
    exact aT (And.intro (.inr rfl) rfl)
  | zero =>
  simp only at hu ⊢
  have hv64 := (rdU_bounds (fun z hz => hw z (List.mem_of_mem_drop hz)) hr).1
  obtain ⟨b1, b2⟩ := unzz_rng hv64
  have hwr := wr32 (unzz v) b1 b2
  by_cases hv : -2147483648 ≤ unzz v ∧ unzz v ≤ 2147483647
  · rw [if_pos hv]
    have g : decide (IntKind.i64.wrap (IntKind.i32.wrap (unzz v)) ≠ unzz v) = false := by rw [decide_eq_false_iff_not, ne_eq, Decidable.not_not]; exact hwr.2 hv
    refine afun_of (rs := tupT q (.ok (⟨unzz v, []⟩, c))) Tryz.func125 Tryz.ntmps125 rfl rfl rfl rfl ?_
    intro w U hW
    refine aS (aR ?_)
    (refine nx (a_alloc (gN rfl) rfl rfl rfl rfl rfl rfl rfl rfl rfl rfl) rfl ?_)
    (refine nx (aA (gN rfl) rfl rfl rfl rfl rfl) rfl ?_)
    (refine nx (aA (gN rfl) rfl rfl rfl rfl rfl) rfl ?_)
    show AWp _ _ _ _ _ _ _
    refine aS (aR ?_)
    (refine nx (aM (gN rfl) rfl rfl rfl rfl rfl) rfl ?_)
    (refine nx (aM (gN rfl) rfl rfl rfl rfl rfl) rfl ?_)
    (refine nx (a_call (gN rfl) rfl rfl rfl rfl rfl (hu w)) rfl ?_)
    (refine nx (aM (gN rfl) rfl rfl rfl rfl rfl) rfl ?_)
    (refine nx (aX (gN rfl) rfl rfl rfl rfl rfl rfl) rfl ?_)
    (refine nx (aX (gN rfl) rfl rfl rfl rfl rfl rfl) rfl ?_)
    (refine nx (aX (gN rfl) rfl rfl rfl rfl rfl rfl) rfl ?_)
    (refine nx (aA (gN rfl) rfl rfl rfl rfl rfl) rfl ?_)
    (refine nx (aA (gN rfl) rfl rfl rfl rfl rfl) rfl ?_)
    (refine nx (aA (gN rfl) rfl rfl rfl rfl rfl) rfl ?_)
    show AWp _ _ _ _ _ _ _
    refine aS (aS (aR ?_))
    (refine nx (aM (gN rfl) rfl rfl rfl rfl rfl) rfl ?_)
    (refine nx (a_eql (gN rfl) rfl rfl rfl rfl rfl rfl) rfl ?_)
    (refine nx (aM (gN rfl) rfl rfl rfl rfl rfl) rfl ?_)
    (refine nx (aM (gd_on rfl rfl rfl rfl (by first | rfl | assumption | (simp; done))) rfl rfl rfl rfl rfl) rfl ?_)
    (refine nx (a_convW (gd_on rfl rfl rfl rfl (by first | rfl | assumption | (simp; done))) rfl rfl rfl rfl rfl rfl rfl) rfl ?_)
    (refine nx (a_convW (gd_on rfl rfl rfl rfl (by first | rfl | assumption | (simp; done))) rfl rfl rfl rfl rfl rfl rfl) rfl ?_)
    (refine nx (aM (gd_on rfl rfl rfl rfl (by first | rfl | assumption | (simp; done))) rfl rfl rfl rfl rfl) rfl ?_)
    (refine nx (a_neq (gd_on rfl rfl rfl rfl (by first | rfl | assumption | (simp; done))) rfl rfl rfl rfl rfl rfl) rfl ?_)
    (refine ⟨_, _, _, aPt (gN rfl) rfl rfl rfl rfl rfl ?hb rfl, rfl, ?_⟩; case hb => (first | rfl | assumption | (simp; done)))
    show AWp _ _ _ _ _ _ _
    refine aC rfl (fun hc => by rw [g] at hc; cases hc) (fun hc => aK ?_)
    show AWp _ _ _ _ _ _ _
    refine aS (aS (aR ?_))
    (refine nx (aM (gN rfl) rfl rfl rfl rfl rfl) rfl ?_)
    (refine nx (a_neq (gN rfl) rfl rfl rfl rfl rfl rfl) rfl ?_)
    show AWp _ _ _ _ _ _ _
    refine aC rfl (fun hc => by cases hc) (fun hc => aK ?_)
    show AWp _ _ _ _ _ _ _
    refine aS (aR ?_)
    (refine nx (aM (gN rfl) rfl rfl rfl rfl rfl) rfl ?_)
    (refine nx (a_build (gN rfl) rfl rfl rfl rfl rfl rfl rfl rfl rfl rfl rfl) rfl ?_)
    (refine nx (aM (gN rfl) rfl rfl rfl rfl rfl) rfl ?_)
    (refine nx (aSt (gN rfl) rfl rfl rfl rfl rfl rfl rfl rfl rfl rfl) rfl ?_)
    (refine nx (aA (gN rfl) rfl rfl rfl rfl rfl) rfl ?_)
    (refine nx (aA (gN rfl) rfl rfl rfl rfl rfl) rfl ?_)
    show AWp _ _ _ _ _ _ _
    exact aT (And.intro (.inr rfl) rfl)
  · rw [if_neg hv]
    have g : decide (IntKind.i64.wrap (IntKind.i32.wrap (unzz v)) ≠ unzz v) = true := by rw [decide_eq_true_eq]; exact fun h => hv (hwr.1 h)
    refine afun_of (rs := tupT q (.error 7)) Tryz.func125 Tryz.ntmps125 rfl rfl rfl rfl ?_
    intro w U hW
    refine aS (aR ?_)
    (refine nx (a_alloc (gN rfl) rfl rfl rfl rfl rfl rfl rfl rfl rfl rfl) rfl ?_)
    (refine nx (aA (gN rfl) rfl rfl rfl rfl rfl) rfl ?_)
    (refine nx (aA (gN rfl) rfl rfl rfl rfl rfl) rfl ?_)
    show AWp _ _ _ _ _ _ _
    refine aS (aR ?_)
    (refine nx (aM (gN rfl) rfl rfl rfl rfl rfl) rfl ?_)
    (refine nx (aM (gN rfl) rfl rfl rfl rfl rfl) rfl ?_)
    (refine nx (a_call (gN rfl) rfl rfl rfl rfl rfl (hu w)) rfl ?_)
    (refine nx (aM (gN rfl) rfl rfl rfl rfl rfl) rfl ?_)
    (refine nx (aX (gN rfl) rfl rfl rfl rfl rfl rfl) rfl ?_)
    (refine nx (aX (gN rfl) rfl rfl rfl rfl rfl rfl) rfl ?_)
    (refine nx (aX (gN rfl) rfl rfl rfl rfl rfl rfl) rfl ?_)
    (refine nx (aA (gN rfl) rfl rfl rfl rfl rfl) rfl ?_)
    (refine nx (aA (gN rfl) rfl rfl rfl rfl rfl) rfl ?_)
    (refine nx (aA (gN rfl) rfl rfl rfl rfl rfl) rfl ?_)
    show AWp _ _ _ _ _ _ _
    refine aS (aS (aR ?_))
    (refine nx (aM (gN rfl) rfl rfl rfl rfl rfl) rfl ?_)
    (refine nx (a_eql (gN rfl) rfl rfl rfl rfl rfl rfl) rfl ?_)
    (refine nx (aM (gN rfl) rfl rfl rfl rfl rfl) rfl ?_)
    (refine nx (aM (gd_on rfl rfl rfl rfl (by first | rfl | assumption | (simp; done))) rfl rfl rfl rfl rfl) rfl ?_)
    (refine nx (a_convW (gd_on rfl rfl rfl rfl (by first | rfl | assumption | (simp; done))) rfl rfl rfl rfl rfl rfl rfl) rfl ?_)
    (refine nx (a_convW (gd_on rfl rfl rfl rfl (by first | rfl | assumption | (simp; done))) rfl rfl rfl rfl rfl rfl rfl) rfl ?_)
    (refine nx (aM (gd_on rfl rfl rfl rfl (by first | rfl | assumption | (simp; done))) rfl rfl rfl rfl rfl) rfl ?_)
    (refine nx (a_neq (gd_on rfl rfl rfl rfl (by first | rfl | assumption | (simp; done))) rfl rfl rfl rfl rfl rfl) rfl ?_)
    (refine ⟨_, _, _, aPt (gN rfl) rfl rfl rfl rfl rfl ?hb rfl, rfl, ?_⟩; case hb => (first | rfl | assumption | (simp; done)))
    show AWp _ _ _ _ _ _ _
    refine aC rfl (fun hc => ?_) (fun hc => by rw [g] at hc; cases hc)
    refine aR ?_
    (refine nx (aA (gN rfl) rfl rfl rfl rfl rfl) rfl ?_)
    show AWp _ _ _ _ _ _ _
    refine aS (aS (aR ?_))
    (refine nx (aM (gN rfl) rfl rfl rfl rfl rfl) rfl ?_)
    (refine nx (a_neq (gN rfl) rfl rfl rfl rfl rfl rfl) rfl ?_)
    show AWp _ _ _ _ _ _ _
    refine aC rfl (fun hc => ?_) (fun hc => by cases hc)
    refine aS (aR ?_)
    (refine nx (a_build (gN rfl) rfl rfl rfl rfl rfl rfl rfl rfl rfl rfl rfl) rfl ?_)
    (refine nx (aM (gN rfl) rfl rfl rfl rfl rfl) rfl ?_)
    (refine nx (aSt (gN rfl) rfl rfl rfl rfl rfl rfl rfl rfl rfl rfl) rfl ?_)
    (refine nx (aA (gN rfl) rfl rfl rfl rfl rfl) rfl ?_)
    (refine nx (aA (gN rfl) rfl rfl rfl rfl rfl) rfl ?_)
    show AWp _ _ _ _ _ _ _
    exact aT (And.intro (.inr rfl) rfl)
def cmb {α : Type} (xs : List α) (q0 q : Nat) : Except Nat (List α × Nat) → Except Nat (List α × Nat)
  | .error e => .error e
  | .ok (ys, c) => .ok (xs ++ ys, q - q0 + c)
-- 
set_option maxHeartbeats 2000000 in
theorem cListT_abs (W : World) (zs : List Int) (hw : wfB zs) (hl : zs.length ≤ 1000000) (fc : CV) (g : List Int → Except Nat (Tm × Nat)) (hg : ∀ l x c, wfB l → g l = .ok (x, c) → c ≤ l.length) (her : ∀ l, Er (g l)) (hf : ∀ w (q : Nat), q ≤ zs.length → AFunV Tryz.prog w fc [.i (q : Int)] (.tup (tupT q (g (zs.drop q))))) (q : Nat) (hq : q ≤ zs.length) : AFun Tryz.prog W 127 [.lst (zs.map by8), .i (q : Int), fc] (.tup (tupLT q (rList g (zs.drop q)))) := by
  have hn := fun w => cGetN_abs w zs hw hl q hq 4096
  obtain ⟨R, hR⟩ : ∃ R, R = rList g (zs.drop q) := ⟨_, rfl⟩
  have hR' := hR
  unfold rList at hR'
  cases hrn : rN 4096 (zs.drop q) with
  | error e =>
    rw [hrn] at hn hR'
    simp only at hR'
    rw [← hR, hR']
    have he0 : e ≠ 0 := by rcases rN_er _ hrn with h | h <;> omega
    have g2 : decide ((e : Int) ≠ 0) = true := by rw [decide_eq_true_eq]; omega
    refine afun_of (rs := tupLT q (.error e)) Tryz.func127 Tryz.ntmps127 rfl rfl rfl rfl ?_
    intro w U hW
    refine aS (aR ?_)
    (refine nx (aA (gN rfl) rfl rfl rfl rfl rfl) rfl ?_)
    (refine nx (aA (gN rfl) rfl rfl rfl rfl rfl) rfl ?_)
    (refine nx (aA (gN rfl) rfl rfl rfl rfl rfl) rfl ?_)
    show AWp _ _ _ _ _ _ _
    refine aS (aR ?_)
    (refine nx (aM (gN rfl) rfl rfl rfl rfl rfl) rfl ?_)
    (refine nx (aM (gN rfl) rfl rfl rfl rfl rfl) rfl ?_)
    (refine nx (a_call (gN rfl) rfl rfl rfl rfl rfl (hn w)) rfl ?_)
    (refine nx (aM (gN rfl) rfl rfl rfl rfl rfl) rfl ?_)
    (refine nx (aX (gN rfl) rfl rfl rfl rfl rfl rfl) rfl ?_)
    (refine nx (aX (gN rfl) rfl rfl rfl rfl rfl rfl) rfl ?_)
    (refine nx (aX (gN rfl) rfl rfl rfl rfl rfl rfl) rfl ?_)
    (refine nx (aA (gN rfl) rfl rfl rfl rfl rfl) rfl ?_)
    (refine nx (aA (gN rfl) rfl rfl rfl rfl rfl) rfl ?_)
    (refine nx (aA (gN rfl) rfl rfl rfl rfl rfl) rfl ?_)
    show AWp _ _ _ _ _ _ _
    refine aS (aS (aR ?_))
    (refine nx (aM (gN rfl) rfl rfl rfl rfl rfl) rfl ?_)
    (refine nx (a_neq (gN rfl) rfl rfl rfl rfl rfl rfl) rfl ?_)
    show AWp _ _ _ _ _ _ _
    refine aC rfl (fun hc => ?_) (fun hc => Bool.noConfusion (g2.symm.trans hc))
    refine aS (aR ?_)
    (refine nx (aM (gN rfl) rfl rfl rfl rfl rfl) rfl ?_)
    (refine nx (aA (gN rfl) rfl rfl rfl rfl rfl) rfl ?_)
    (refine nx (aA (gN rfl) rfl rfl rfl rfl rfl) rfl ?_)
    (refine nx (aA (gN rfl) rfl rfl rfl rfl rfl) rfl ?_)
    show AWp _ _ _ _ _ _ _
    exact aT (And.intro (.inr rfl) rfl)
  | ok vc =>
  obtain ⟨n, c⟩ := vc
  rw [hrn] at hn hR'
  simp only at hR'
  obtain ⟨hcl, _⟩ := rN_back (hw.drop q) n c hrn
  rw [List.length_drop] at hcl
  have hn4 : n ≤ 4096 := by
    unfold rN at hrn
    split at hrn
    · split at hrn
      · cases hrn
      · cases hrn; omega
    · cases hrn
  rw [List.drop_drop] at hR'
  rw [← hR]
  refine afun_of (rs := tupLT q R) Tryz.func127 Tryz.ntmps127 rfl rfl rfl rfl ?_
  intro w U hW
  refine aS (aR ?_)
  (refine nx (aA (gN rfl) rfl rfl rfl rfl rfl) rfl ?_)
  (refine nx (aA (gN rfl) rfl rfl rfl rfl rfl) rfl ?_)
  (refine nx (aA (gN rfl) rfl rfl rfl rfl rfl) rfl ?_)
  show AWp _ _ _ _ _ _ _
  refine aS (aR ?_)
  (refine nx (aM (gN rfl) rfl rfl rfl rfl rfl) rfl ?_)
  (refine nx (aM (gN rfl) rfl rfl rfl rfl rfl) rfl ?_)
  (refine nx (a_call (gN rfl) rfl rfl rfl rfl rfl (hn w)) rfl ?_)
  (refine nx (aM (gN rfl) rfl rfl rfl rfl rfl) rfl ?_)
  (refine nx (aX (gN rfl) rfl rfl rfl rfl rfl rfl) rfl ?_)
  (refine nx (aX (gN rfl) rfl rfl rfl rfl rfl rfl) rfl ?_)
  (refine nx (aX (gN rfl) rfl rfl rfl rfl rfl rfl) rfl ?_)
  (refine nx (aA (gN rfl) rfl rfl rfl rfl rfl) rfl ?_)
  (refine nx (aA (gN rfl) rfl rfl rfl rfl rfl) rfl ?_)
  (refine nx (aA (gN rfl) rfl rfl rfl rfl rfl) rfl ?_)
  show AWp _ _ _ _ _ _ _
  refine aS (aS (aR ?_))
  (refine nx (aM (gN rfl) rfl rfl rfl rfl rfl) rfl ?_)
  (refine nx (a_neq (gN rfl) rfl rfl rfl rfl rfl rfl) rfl ?_)
  show AWp _ _ _ _ _ _ _
  refine aC rfl (fun hc => by cases hc) (fun hc => aK ?_)
  show AWp _ _ _ _ _ _ _
  refine aS (aR ?_)
  (refine nx (aA (gN rfl) rfl rfl rfl rfl rfl) rfl ?_)
  show AWp _ _ _ _ _ _ _
  refine aS (aS (aR ?_))
  (refine nx (aM (gN rfl) rfl rfl rfl rfl rfl) rfl ?_)
  (refine nx (aM (gN rfl) rfl rfl rfl rfl rfl) rfl ?_)
  show AWp _ _ _ _ _ _ _
  refine aB (awp_loop (fun m st => ∃ (xs : List Tm) (p : Nat), xs.length + m = n ∧ q ≤ p ∧ p ≤ zs.length ∧ R = cmb xs q p (rMany g m (zs.drop p)) ∧ st = [(1, AV.val (.i (p : Int))), (2, .val fc), (11, .own (.lst (xs.map Tm.cv)) 200039), (200039, .tok 61 2), (23, .val (.sc (.int .u64 (n : Int)))), (24, .val (.sc (.int .u64 (xs.length : Int))))]) (n := n) (s' := [(1, AV.val (.i ((q + c : Nat) : Int))), (2, .val fc), (11, .own (.lst (([] : List Tm).map Tm.cv)) 200039), (200039, .tok 61 2), (23, .val (.sc (.int .u64 (n : Int)))), (24, .val (.sc (.int .u64 ((([] : List Tm).length : Nat) : Int))))]) ((wk_nil 11 200039 61 2 rfl rfl rfl rfl rfl rfl rfl).trans (wk_sub ⟨rfl, rfl, rfl, rfl, rfl, rfl, trivial⟩)) ⟨[], q + c, by simp, by omega, by omega, ?_, rfl⟩ ?_)
  · rw [hR']
    unfold cmb
    cases rMany g n (zs.drop (q + c)) with
    | error e => rfl
    | ok yc => obtain ⟨ys, c'⟩ := yc; simp
  clear hR hR' hn hrn
  rintro m st ⟨xs, p, hxm, hqp, hpl, hR, rfl⟩
  refine aS (aR ?_)
  (refine nx (a_lss (gN rfl) rfl rfl rfl rfl rfl rfl) rfl ?_)
  show AWp _ _ _ _ _ _ _
  cases m with
  | zero =>
    refine aS (aC rfl (fun hlt => ?_) (fun hlt => ?_))
    · have := of_decide_eq_true hlt
      omega
    refine aE ?_
    show AWp _ _ _ _ _ _ _
    have hR2 : R = .ok (xs, p - q) := by rw [hR]; simp [rMany, cmb]
    rw [hR2]
    refine aS (aR ?_)
    (refine nx (aM (gN rfl) rfl rfl rfl rfl rfl) rfl ?_)
    (refine nx (aM (gN rfl) rfl rfl rfl rfl rfl) rfl ?_)
    (refine nx (aA (gN rfl) rfl rfl rfl rfl rfl) rfl ?_)
    (refine nx (aA (gN rfl) rfl rfl rfl rfl rfl) rfl ?_)
    (refine nx (aA (gN rfl) rfl rfl rfl rfl rfl) rfl ?_)
    show AWp _ _ _ _ _ _ _
    refine aT (And.intro (.inr rfl) ?_)
    show some [CV.lst (xs.map Tm.cv), .i (p : Int), by8 0] = some [CV.lst (xs.map Tm.cv), .i ((q + (p - q) : Nat) : Int), by8 0]
    rw [show q + (p - q) = p by omega]
  | succ m =>
    refine aS (aC rfl (fun hlt => ?_) (fun hlt => ?_))
    case refine_2 =>
      have := of_decide_eq_false hlt
      omega
    refine aK ?_
    show AWp _ _ _ _ _ _ _
    rw [rMany] at hR
    have hcall := hf w p hpl
    cases hgp : g (zs.drop p) with
    | error e =>
      rw [hgp] at hR hcall
      simp only [cmb] at hR
      have he0 : e ≠ 0 := by rcases her _ _ hgp with h | h <;> omega
      have g2 : decide ((e : Int) ≠ 0) = true := by rw [decide_eq_true_eq]; omega
      rw [hR]
      refine aS (aB (aS (aR ?_)))
      (refine nx (a_alloc (gN rfl) rfl rfl rfl rfl rfl rfl rfl rfl rfl rfl) rfl ?_)
      show AWp _ _ _ _ _ _ _
      refine aS (aR ?_)
      (refine nx (aM (gN rfl) rfl rfl rfl rfl rfl) rfl ?_)
      (refine nx (aM (gN rfl) rfl rfl rfl rfl rfl) rfl ?_)
      (refine nx (a_callv (gN rfl) rfl rfl rfl rfl rfl rfl (hcall)) rfl ?_)
      (refine nx (aM (gN rfl) rfl rfl rfl rfl rfl) rfl ?_)
      (refine nx (aX (gN rfl) rfl rfl rfl rfl rfl rfl) rfl ?_)
      (refine nx (aX (gN rfl) rfl rfl rfl rfl rfl rfl) rfl ?_)
      (refine nx (aX (gN rfl) rfl rfl rfl rfl rfl rfl) rfl ?_)
      (refine nx (aSt (gN rfl) rfl rfl rfl rfl rfl rfl rfl rfl rfl rfl) rfl ?_)
      (refine nx (aA (gN rfl) rfl rfl rfl rfl rfl) rfl ?_)
      (refine nx (aA (gN rfl) rfl rfl rfl rfl rfl) rfl ?_)
      show AWp _ _ _ _ _ _ _
      refine aS (aS (aR ?_))
      (refine nx (aM (gN rfl) rfl rfl rfl rfl rfl) rfl ?_)
      (refine nx (a_neq (gN rfl) rfl rfl rfl rfl rfl rfl) rfl ?_)
      show AWp _ _ _ _ _ _ _
      refine aC rfl (fun hc => ?_) (fun hc => Bool.noConfusion (g2.symm.trans hc))
      refine aS (aR ?_)
      (refine nx (aM (gN rfl) rfl rfl rfl rfl rfl) rfl ?_)
      (refine nx (aA (gN rfl) rfl rfl rfl rfl rfl) rfl ?_)
      (refine nx (aA (gN rfl) rfl rfl rfl rfl rfl) rfl ?_)
      (refine nx (aA (gN rfl) rfl rfl rfl rfl rfl) rfl ?_)
      show AWp _ _ _ _ _ _ _
      exact aT (And.intro (.inr rfl) rfl)
    | ok xc =>
      obtain ⟨x, c1⟩ := xc
      rw [hgp] at hR hcall
      simp only at hR
      have hc1 := hg _ x c1 (hw.drop p) hgp
      rw [List.length_drop] at hc1
      rw [List.drop_drop] at hR
      have hsx := Tm.size_all xs
      have hbx : (xs.map Tm.cv).length ≤ 4096 := by rw [List.length_map]; omega
      have hak : IntKind.u64.wrap ((xs.length : Int) + 1) = (xs.length : Int) + 1 := by rw [IntKind.wrap_u64]; omega
      refine aS (aB (aS (aR ?_)))
      (refine nx (a_alloc (gN rfl) rfl rfl rfl rfl rfl rfl rfl rfl rfl rfl) rfl ?_)
      show AWp _ _ _ _ _ _ _
      refine aS (aR ?_)
      (refine nx (aM (gN rfl) rfl rfl rfl rfl rfl) rfl ?_)
      (refine nx (aM (gN rfl) rfl rfl rfl rfl rfl) rfl ?_)
      (refine nx (a_callv (gN rfl) rfl rfl rfl rfl rfl rfl (hcall)) rfl ?_)
      (refine nx (aM (gN rfl) rfl rfl rfl rfl rfl) rfl ?_)
      (refine nx (aX (gN rfl) rfl rfl rfl rfl rfl rfl) rfl ?_)
      (refine nx (aX (gN rfl) rfl rfl rfl rfl rfl rfl) rfl ?_)
      (refine nx (aX (gN rfl) rfl rfl rfl rfl rfl rfl) rfl ?_)
      (refine nx (aSt (gN rfl) rfl rfl rfl rfl rfl rfl rfl rfl rfl rfl) rfl ?_)
      (refine nx (aA (gN rfl) rfl rfl rfl rfl rfl) rfl ?_)
      (refine nx (aA (gN rfl) rfl rfl rfl rfl rfl) rfl ?_)
      show AWp _ _ _ _ _ _ _
      refine aS (aS (aR ?_))
      (refine nx (aM (gN rfl) rfl rfl rfl rfl rfl) rfl ?_)
      (refine nx (a_neq (gN rfl) rfl rfl rfl rfl rfl rfl) rfl ?_)
      show AWp _ _ _ _ _ _ _
      refine aC rfl (fun hc => by cases hc) (fun hc => aK ?_)
      show AWp _ _ _ _ _ _ _
      refine aR ?_
      (refine nx (aM (gN rfl) rfl rfl rfl rfl rfl) rfl ?_)
      (refine nx (aL (gN rfl) rfl rfl rfl rfl rfl rfl rfl rfl rfl rfl rfl rfl) rfl ?_)
      (refine nx (a_bslice (gN rfl) rfl rfl rfl rfl rfl rfl rfl rfl rfl rfl rfl rfl rfl) rfl ?_)
      (refine nx (a_app (gN rfl) rfl rfl rfl rfl rfl rfl rfl rfl rfl rfl rfl rfl rfl rfl rfl (by first | assumption | exact sZ rfl | exact Tm.size_all _ | exact Bd.size_all _ | exact ints_size _ | exact bys_size _ | exact Lt.size_all _) (by first | assumption | exact sZ rfl | exact Tm.size_all _ | exact Bd.size_all _ | exact ints_size _ | exact bys_size _ | exact Lt.size_all _) (by first | omega | (simp only [List.length_map, List.length_append, List.length_cons, List.length_nil] <;> omega) | (simp <;> omega))) rfl ?_)
      (refine nx (aA (gN rfl) rfl rfl rfl rfl rfl) rfl ?_)
      show AWp _ _ _ _ _ _ _
      refine aR ?_
      (refine nx (a_addK (gN rfl) rfl rfl rfl rfl rfl rfl (hak)) rfl ?_)
      (refine nx (aM (gN rfl) rfl rfl rfl rfl rfl) rfl ?_)
      refine ⟨m, [(1, AV.val (.i ((p + c1 : Nat) : Int))), (2, .val fc), (11, .own (.lst ((xs ++ [x]).map Tm.cv)) 200039), (200039, .tok 61 2), (23, .val (.sc (.int .u64 (n : Int)))), (24, .val (.sc (.int .u64 ((xs ++ [x]).length : Int))))], by omega, ⟨xs ++ [x], p + c1, by rw [List.length_append, List.length_singleton]; omega, by omega, by omega, ?_, rfl⟩, ?_⟩
      · rw [hR]
        cases rMany g m (zs.drop (p + c1)) with
        | error e => rfl
        | ok yc =>
          obtain ⟨ys, c'⟩ := yc
          simp only [cmb, List.append_assoc, List.singleton_append]
          rw [show p - q + (c1 + c') = p + c1 - q + c' by omega]
      · refine Wk.trans (wk_sub (s' := [(1, AV.val (.i ((p + c1 : Nat) : Int))), (2, .val fc), (11, .own (.lst ((xs ++ [x]).map Tm.cv)) 300039), (300039, .tok 61 2), (23, .val (.sc (.int .u64 (n : Int)))), (24, .val (.sc (.int .u64 ((xs ++ [x]).length : Int))))]) ⟨rfl, rfl, ?_, rfl, rfl, ?_, trivial⟩) (wk_ren 300039 200039 rfl rfl rfl rfl)
        · rw [List.map_append]
          simp only [List.map_cons, List.map_nil, Tm.cv_eq]
          rfl
        · rw [List.length_append, List.length_singleton, Int.natCast_add]
          rfl
-- 
set_option maxHeartbeats 2000000 in
theorem cListG_abs (W : World) (zs : List Int) (hw : wfB zs) (hl : zs.length ≤ 1000000) (fc : CV) (g : List Int → Except Nat (Lt × Nat)) (hg : ∀ l x c, wfB l → g l = .ok (x, c) → c ≤ l.length) (her : ∀ l, Er (g l)) (hf : ∀ w (q : Nat), q ≤ zs.length → AFunV Tryz.prog w fc [.i (q : Int)] (.tup (tupG q (g (zs.drop q))))) (q : Nat) (hq : q ≤ zs.length) : AFun Tryz.prog W 60 [.lst (zs.map by8), .i (q : Int), fc] (.tup (tupLG q (rList g (zs.drop q)))) := by
  have hn := fun w => cGetN_abs w zs hw hl q hq 4096
  obtain ⟨R, hR⟩ : ∃ R, R = rList g (zs.drop q) := ⟨_, rfl⟩
  have hR' := hR
  unfold rList at hR'
  cases hrn : rN 4096 (zs.drop q) with
  | error e =>
    rw [hrn] at hn hR'
    simp only at hR'
    rw [← hR, hR']
    have he0 : e ≠ 0 := by rcases rN_er _ hrn with h | h <;> omega
    have g2 : decide ((e : Int) ≠ 0) = true := by rw [decide_eq_true_eq]; omega
    refine afun_of (rs := tupLG q (.error e)) Tryz.func60 Tryz.ntmps60 rfl rfl rfl rfl ?_
    intro w U hW
    refine aS (aR ?_)
    (refine nx (aA (gN rfl) rfl rfl rfl rfl rfl) rfl ?_)
    (refine nx (aA (gN rfl) rfl rfl rfl rfl rfl) rfl ?_)
    (refine nx (aA (gN rfl) rfl rfl rfl rfl rfl) rfl ?_)
    show AWp _ _ _ _ _ _ _
    refine aS (aR ?_)
    (refine nx (aM (gN rfl) rfl rfl rfl rfl rfl) rfl ?_)
    (refine nx (aM (gN rfl) rfl rfl rfl rfl rfl) rfl ?_)
    (refine nx (a_call (gN rfl) rfl rfl rfl rfl rfl (hn w)) rfl ?_)
    (refine nx (aM (gN rfl) rfl rfl rfl rfl rfl) rfl ?_)
    (refine nx (aX (gN rfl) rfl rfl rfl rfl rfl rfl) rfl ?_)
    (refine nx (aX (gN rfl) rfl rfl rfl rfl rfl rfl) rfl ?_)
    (refine nx (aX (gN rfl) rfl rfl rfl rfl rfl rfl) rfl ?_)
    (refine nx (aA (gN rfl) rfl rfl rfl rfl rfl) rfl ?_)
    (refine nx (aA (gN rfl) rfl rfl rfl rfl rfl) rfl ?_)
    (refine nx (aA (gN rfl) rfl rfl rfl rfl rfl) rfl ?_)
    show AWp _ _ _ _ _ _ _
    refine aS (aS (aR ?_))
    (refine nx (aM (gN rfl) rfl rfl rfl rfl rfl) rfl ?_)
    (refine nx (a_neq (gN rfl) rfl rfl rfl rfl rfl rfl) rfl ?_)
    show AWp _ _ _ _ _ _ _
    refine aC rfl (fun hc => ?_) (fun hc => Bool.noConfusion (g2.symm.trans hc))
    refine aS (aR ?_)
    (refine nx (aM (gN rfl) rfl rfl rfl rfl rfl) rfl ?_)
    (refine nx (aA (gN rfl) rfl rfl rfl rfl rfl) rfl ?_)
    (refine nx (aA (gN rfl) rfl rfl rfl rfl rfl) rfl ?_)
    (refine nx (aA (gN rfl) rfl rfl rfl rfl rfl) rfl ?_)
    show AWp _ _ _ _ _ _ _
    exact aT (And.intro (.inr rfl) rfl)
  | ok vc =>
  obtain ⟨n, c⟩ := vc
  rw [hrn] at hn hR'
  simp only at hR'
  obtain ⟨hcl, _⟩ := rN_back (hw.drop q) n c hrn
  rw [List.length_drop] at hcl
  have hn4 : n ≤ 4096 := by
    unfold rN at hrn
    split at hrn
    · split at hrn
      · cases hrn
      · cases hrn; omega
    · cases hrn
  rw [List.drop_drop] at hR'
  rw [← hR]
  refine afun_of (rs := tupLG q R) Tryz.func60 Tryz.ntmps60 rfl rfl rfl rfl ?_
  intro w U hW
  refine aS (aR ?_)
  (refine nx (aA (gN rfl) rfl rfl rfl rfl rfl) rfl ?_)
  (refine nx (aA (gN rfl) rfl rfl rfl rfl rfl) rfl ?_)
  (refine nx (aA (gN rfl) rfl rfl rfl rfl rfl) rfl ?_)
  show AWp _ _ _ _ _ _ _
  refine aS (aR ?_)
  (refine nx (aM (gN rfl) rfl rfl rfl rfl rfl) rfl ?_)
  (refine nx (aM (gN rfl) rfl rfl rfl rfl rfl) rfl ?_)
  (refine nx (a_call (gN rfl) rfl rfl rfl rfl rfl (hn w)) rfl ?_)
  (refine nx (aM (gN rfl) rfl rfl rfl rfl rfl) rfl ?_)
  (refine nx (aX (gN rfl) rfl rfl rfl rfl rfl rfl) rfl ?_)
  (refine nx (aX (gN rfl) rfl rfl rfl rfl rfl rfl) rfl ?_)
  (refine nx (aX (gN rfl) rfl rfl rfl rfl rfl rfl) rfl ?_)
  (refine nx (aA (gN rfl) rfl rfl rfl rfl rfl) rfl ?_)
  (refine nx (aA (gN rfl) rfl rfl rfl rfl rfl) rfl ?_)
  (refine nx (aA (gN rfl) rfl rfl rfl rfl rfl) rfl ?_)
  show AWp _ _ _ _ _ _ _
  refine aS (aS (aR ?_))
  (refine nx (aM (gN rfl) rfl rfl rfl rfl rfl) rfl ?_)
  (refine nx (a_neq (gN rfl) rfl rfl rfl rfl rfl rfl) rfl ?_)
  show AWp _ _ _ _ _ _ _
  refine aC rfl (fun hc => by cases hc) (fun hc => aK ?_)
  show AWp _ _ _ _ _ _ _
  refine aS (aR ?_)
  (refine nx (aA (gN rfl) rfl rfl rfl rfl rfl) rfl ?_)
  show AWp _ _ _ _ _ _ _
  refine aS (aS (aR ?_))
  (refine nx (aM (gN rfl) rfl rfl rfl rfl rfl) rfl ?_)
  (refine nx (aM (gN rfl) rfl rfl rfl rfl rfl) rfl ?_)
  show AWp _ _ _ _ _ _ _
  refine aB (awp_loop (fun m st => ∃ (xs : List Lt) (p : Nat), xs.length + m = n ∧ q ≤ p ∧ p ≤ zs.length ∧ R = cmb xs q p (rMany g m (zs.drop p)) ∧ st = [(1, AV.val (.i (p : Int))), (2, .val fc), (11, .own (.lst (xs.map Lt.cv)) 200039), (200039, .tok 63 5), (23, .val (.sc (.int .u64 (n : Int)))), (24, .val (.sc (.int .u64 (xs.length : Int))))]) (n := n) (s' := [(1, AV.val (.i ((q + c : Nat) : Int))), (2, .val fc), (11, .own (.lst (([] : List Lt).map Lt.cv)) 200039), (200039, .tok 63 5), (23, .val (.sc (.int .u64 (n : Int)))), (24, .val (.sc (.int .u64 ((([] : List Lt).length : Nat) : Int))))]) ((wk_nil 11 200039 63 5 rfl rfl rfl rfl rfl rfl rfl).trans (wk_sub ⟨rfl, rfl, rfl, rfl, rfl, rfl, trivial⟩)) ⟨[], q + c, by simp, by omega, by omega, ?_, rfl⟩ ?_)
  · rw [hR']
    unfold cmb
    cases rMany g n (zs.drop (q + c)) with
    | error e => rfl
    | ok yc => obtain ⟨ys, c'⟩ := yc; simp
  clear hR hR' hn hrn
  rintro m st ⟨xs, p, hxm, hqp, hpl, hR, rfl⟩
  refine aS (aR ?_)
  (refine nx (a_lss (gN rfl) rfl rfl rfl rfl rfl rfl) rfl ?_)
  show AWp _ _ _ _ _ _ _
  cases m with
  | zero =>
    refine aS (aC rfl (fun hlt => ?_) (fun hlt => ?_))
    · have := of_decide_eq_true hlt
      omega
    refine aE ?_
    show AWp _ _ _ _ _ _ _
    have hR2 : R = .ok (xs, p - q) := by rw [hR]; simp [rMany, cmb]
    rw [hR2]
    refine aS (aR ?_)
    (refine nx (aM (gN rfl) rfl rfl rfl rfl rfl) rfl ?_)
    (refine nx (aM (gN rfl) rfl rfl rfl rfl rfl) rfl ?_)
    (refine nx (aA (gN rfl) rfl rfl rfl rfl rfl) rfl ?_)
    (refine nx (aA (gN rfl) rfl rfl rfl rfl rfl) rfl ?_)
    (refine nx (aA (gN rfl) rfl rfl rfl rfl rfl) rfl ?_)
    show AWp _ _ _ _ _ _ _
    refine aT (And.intro (.inr rfl) ?_)
    show some [CV.lst (xs.map Lt.cv), .i (p : Int), by8 0] = some [CV.lst (xs.map Lt.cv), .i ((q + (p - q) : Nat) : Int), by8 0]
    rw [show q + (p - q) = p by omega]
  | succ m =>
    refine aS (aC rfl (fun hlt => ?_) (fun hlt => ?_))
    case refine_2 =>
      have := of_decide_eq_false hlt
      omega
    refine aK ?_
    show AWp _ _ _ _ _ _ _
    rw [rMany] at hR
    have hcall := hf w p hpl
    cases hgp : g (zs.drop p) with
    | error e =>
      rw [hgp] at hR hcall
      simp only [cmb] at hR
      have he0 : e ≠ 0 := by rcases her _ _ hgp with h | h <;> omega
      have g2 : decide ((e : Int) ≠ 0) = true := by rw [decide_eq_true_eq]; omega
      rw [hR]
      refine aS (aB (aS (aR ?_)))
      (refine nx (a_alloc (gN rfl) rfl rfl rfl rfl rfl rfl rfl rfl rfl rfl) rfl ?_)
      show AWp _ _ _ _ _ _ _
      refine aS (aR ?_)
      (refine nx (aM (gN rfl) rfl rfl rfl rfl rfl) rfl ?_)
      (refine nx (aM (gN rfl) rfl rfl rfl rfl rfl) rfl ?_)
      (refine nx (a_callv (gN rfl) rfl rfl rfl rfl rfl rfl (hcall)) rfl ?_)
      (refine nx (aM (gN rfl) rfl rfl rfl rfl rfl) rfl ?_)
      (refine nx (aX (gN rfl) rfl rfl rfl rfl rfl rfl) rfl ?_)
      (refine nx (aX (gN rfl) rfl rfl rfl rfl rfl rfl) rfl ?_)
      (refine nx (aX (gN rfl) rfl rfl rfl rfl rfl rfl) rfl ?_)
      (refine nx (aSt (gN rfl) rfl rfl rfl rfl rfl rfl rfl rfl rfl rfl) rfl ?_)
      (refine nx (aA (gN rfl) rfl rfl rfl rfl rfl) rfl ?_)
      (refine nx (aA (gN rfl) rfl rfl rfl rfl rfl) rfl ?_)
      show AWp _ _ _ _ _ _ _
      refine aS (aS (aR ?_))
      (refine nx (aM (gN rfl) rfl rfl rfl rfl rfl) rfl ?_)
      (refine nx (a_neq (gN rfl) rfl rfl rfl rfl rfl rfl) rfl ?_)
      show AWp _ _ _ _ _ _ _
      refine aC rfl (fun hc => ?_) (fun hc => Bool.noConfusion (g2.symm.trans hc))
      refine aS (aR ?_)
      (refine nx (aM (gN rfl) rfl rfl rfl rfl rfl) rfl ?_)
      (refine nx (aA (gN rfl) rfl rfl rfl rfl rfl) rfl ?_)
      (refine nx (aA (gN rfl) rfl rfl rfl rfl rfl) rfl ?_)
      (refine nx (aA (gN rfl) rfl rfl rfl rfl rfl) rfl ?_)
      show AWp _ _ _ _ _ _ _
      exact aT (And.intro (.inr rfl) rfl)
    | ok xc =>
      obtain ⟨x, c1⟩ := xc
      rw [hgp] at hR hcall
      simp only at hR
      have hc1 := hg _ x c1 (hw.drop p) hgp
      rw [List.length_drop] at hc1
      rw [List.drop_drop] at hR
      have hsx := Lt.size_all xs
      have hbx : (xs.map Lt.cv).length ≤ 4096 := by rw [List.length_map]; omega
      have hak : IntKind.u64.wrap ((xs.length : Int) + 1) = (xs.length : Int) + 1 := by rw [IntKind.wrap_u64]; omega
      refine aS (aB (aS (aR ?_)))
      (refine nx (a_alloc (gN rfl) rfl rfl rfl rfl rfl rfl rfl rfl rfl rfl) rfl ?_)
      show AWp _ _ _ _ _ _ _
      refine aS (aR ?_)
      (refine nx (aM (gN rfl) rfl rfl rfl rfl rfl) rfl ?_)
      (refine nx (aM (gN rfl) rfl rfl rfl rfl rfl) rfl ?_)
      (refine nx (a_callv (gN rfl) rfl rfl rfl rfl rfl rfl (hcall)) rfl ?_)
      (refine nx (aM (gN rfl) rfl rfl rfl rfl rfl) rfl ?_)
      (refine nx (aX (gN rfl) rfl rfl rfl rfl rfl rfl) rfl ?_)
      (refine nx (aX (gN rfl) rfl rfl rfl rfl rfl rfl) rfl ?_)
      (refine nx (aX (gN rfl) rfl rfl rfl rfl rfl rfl) rfl ?_)
      (refine nx (aSt (gN rfl) rfl rfl rfl rfl rfl rfl rfl rfl rfl rfl) rfl ?_)
      (refine nx (aA (gN rfl) rfl rfl rfl rfl rfl) rfl ?_)
      (refine nx (aA (gN rfl) rfl rfl rfl rfl rfl) rfl ?_)
      show AWp _ _ _ _ _ _ _
      refine aS (aS (aR ?_))
      (refine nx (aM (gN rfl) rfl rfl rfl rfl rfl) rfl ?_)
      (refine nx (a_neq (gN rfl) rfl rfl rfl rfl rfl rfl) rfl ?_)
      show AWp _ _ _ _ _ _ _
      refine aC rfl (fun hc => by cases hc) (fun hc => aK ?_)
      show AWp _ _ _ _ _ _ _
      refine aR ?_
      (refine nx (aM (gN rfl) rfl rfl rfl rfl rfl) rfl ?_)
      (refine nx (aL (gN rfl) rfl rfl rfl rfl rfl rfl rfl rfl rfl rfl rfl rfl) rfl ?_)
      (refine nx (a_bslice (gN rfl) rfl rfl rfl rfl rfl rfl rfl rfl rfl rfl rfl rfl rfl) rfl ?_)
      (refine nx (a_app (gN rfl) rfl rfl rfl rfl rfl rfl rfl rfl rfl rfl rfl rfl rfl rfl rfl (by first | assumption | exact sZ rfl | exact Tm.size_all _ | exact Bd.size_all _ | exact ints_size _ | exact bys_size _ | exact Lt.size_all _) (by first | assumption | exact sZ rfl | exact Tm.size_all _ | exact Bd.size_all _ | exact ints_size _ | exact bys_size _ | exact Lt.size_all _) (by first | omega | (simp only [List.length_map, List.length_append, List.length_cons, List.length_nil] <;> omega) | (simp <;> omega))) rfl ?_)
      (refine nx (aA (gN rfl) rfl rfl rfl rfl rfl) rfl ?_)
      show AWp _ _ _ _ _ _ _
      refine aR ?_
      (refine nx (a_addK (gN rfl) rfl rfl rfl rfl rfl rfl (hak)) rfl ?_)
      (refine nx (aM (gN rfl) rfl rfl rfl rfl rfl) rfl ?_)
      refine ⟨m, [(1, AV.val (.i ((p + c1 : Nat) : Int))), (2, .val fc), (11, .own (.lst ((xs ++ [x]).map Lt.cv)) 200039), (200039, .tok 63 5), (23, .val (.sc (.int .u64 (n : Int)))), (24, .val (.sc (.int .u64 ((xs ++ [x]).length : Int))))], by omega, ⟨xs ++ [x], p + c1, by rw [List.length_append, List.length_singleton]; omega, by omega, by omega, ?_, rfl⟩, ?_⟩
      · rw [hR]
        cases rMany g m (zs.drop (p + c1)) with
        | error e => rfl
        | ok yc =>
          obtain ⟨ys, c'⟩ := yc
          simp only [cmb, List.append_assoc, List.singleton_append]
          rw [show p - q + (c1 + c') = p + c1 - q + c' by omega]
      · refine Wk.trans (wk_sub (s' := [(1, AV.val (.i ((p + c1 : Nat) : Int))), (2, .val fc), (11, .own (.lst ((xs ++ [x]).map Lt.cv)) 300039), (300039, .tok 63 5), (23, .val (.sc (.int .u64 (n : Int)))), (24, .val (.sc (.int .u64 ((xs ++ [x]).length : Int))))]) ⟨rfl, rfl, ?_, rfl, rfl, ?_, trivial⟩) (wk_ren 300039 200039 rfl rfl rfl rfl)
        · rw [List.map_append]
          rfl
        · rw [List.length_append, List.length_singleton, Int.natCast_add]
          rfl
-- 
theorem cGetT1_abs (W : World) (zs : List Int) (d : Nat) (hd : d ≤ 256) (r : Nat → Except Nat (Tm × Nat)) (hr : ∀ w q, q ≤ zs.length → AFun Tryz.prog w 95 [.lst (zs.map by8), .i (q : Int), .i ((257 : Int) - d)] (.tup (tupT q (r q)))) (q : Nat) (hq : q ≤ zs.length) : AFun Tryz.prog W 128 [.i (q : Int), .ptr (.lst (zs.map by8)), .ptr (.i ((257 : Int) - (d + 1 : Nat)))] (.tup (tupT q (r q))) := by
  have hc := fun w => hr w q hq
  have e : (257 : Int) - ((d + 1 : Nat) : Int) + 1 = 257 - d := by omega
  refine afun_of (rs := tupT q (r q)) Tryz.func128 Tryz.ntmps128 rfl rfl rfl rfl ?_
  intro w U hW
  have hc := hc w
  cases hrq : r q with
  | error er =>
    rw [hrq] at hc
    refine aS (aR ?_)
    (refine nx (a_alloc (gN rfl) rfl rfl rfl rfl rfl rfl rfl rfl rfl rfl) rfl ?_)
    (refine nx (aA (gN rfl) rfl rfl rfl rfl rfl) rfl ?_)
    (refine nx (aA (gN rfl) rfl rfl rfl rfl rfl) rfl ?_)
    show AWp _ _ _ _ _ _ _
    refine aS (aR ?_)
    (refine nx (a_load_ptr (gN rfl) rfl rfl rfl rfl rfl rfl rfl rfl rfl) rfl ?_)
    (refine nx (aM (gN rfl) rfl rfl rfl rfl rfl) rfl ?_)
    (refine nx (a_load_ptr (gN rfl) rfl rfl rfl rfl rfl rfl rfl rfl rfl) rfl ?_)
    (refine nx (a_add (gN rfl) rfl rfl rfl rfl rfl rfl (by first | omega | (simp only [List.length_map, List.length_append, List.length_cons, List.length_nil] <;> omega) | (simp <;> omega))) rfl ?_)
    (refine nx (a_call (gN rfl) rfl rfl rfl rfl rfl ((by rw [e]; exact hc))) rfl ?_)
    (refine nx (aX (gN rfl) rfl rfl rfl rfl rfl rfl) rfl ?_)
    (refine nx (aX (gN rfl) rfl rfl rfl rfl rfl rfl) rfl ?_)
    (refine nx (aX (gN rfl) rfl rfl rfl rfl rfl rfl) rfl ?_)
    (refine nx (aSt (gN rfl) rfl rfl rfl rfl rfl rfl rfl rfl rfl rfl) rfl ?_)
    (refine nx (aA (gN rfl) rfl rfl rfl rfl rfl) rfl ?_)
    (refine nx (aA (gN rfl) rfl rfl rfl rfl rfl) rfl ?_)
    show AWp _ _ _ _ _ _ _
    exact aT (And.intro (.inr rfl) rfl)
  | ok xc =>
    obtain ⟨x, c⟩ := xc
    rw [hrq] at hc
    refine aS (aR ?_)
    (refine nx (a_alloc (gN rfl) rfl rfl rfl rfl rfl rfl rfl rfl rfl rfl) rfl ?_)
    (refine nx (aA (gN rfl) rfl rfl rfl rfl rfl) rfl ?_)
    (refine nx (aA (gN rfl) rfl rfl rfl rfl rfl) rfl ?_)
    show AWp _ _ _ _ _ _ _
    refine aS (aR ?_)
    (refine nx (a_load_ptr (gN rfl) rfl rfl rfl rfl rfl rfl rfl rfl rfl) rfl ?_)
    (refine nx (aM (gN rfl) rfl rfl rfl rfl rfl) rfl ?_)
    (refine nx (a_load_ptr (gN rfl) rfl rfl rfl rfl rfl rfl rfl rfl rfl) rfl ?_)
    (refine nx (a_add (gN rfl) rfl rfl rfl rfl rfl rfl (by first | omega | (simp only [List.length_map, List.length_append, List.length_cons, List.length_nil] <;> omega) | (simp <;> omega))) rfl ?_)
    (refine nx (a_call (gN rfl) rfl rfl rfl rfl rfl ((by rw [e]; exact hc))) rfl ?_)
    (refine nx (aX (gN rfl) rfl rfl rfl rfl rfl rfl) rfl ?_)
    (refine nx (aX (gN rfl) rfl rfl rfl rfl rfl rfl) rfl ?_)
    (refine nx (aX (gN rfl) rfl rfl rfl rfl rfl rfl) rfl ?_)
    (refine nx (aSt (gN rfl) rfl rfl rfl rfl rfl rfl rfl rfl rfl rfl) rfl ?_)
    (refine nx (aA (gN rfl) rfl rfl rfl rfl rfl) rfl ?_)
    (refine nx (aA (gN rfl) rfl rfl rfl rfl rfl) rfl ?_)
    show AWp _ _ _ _ _ _ _
    exact aT (And.intro (.inr rfl) rfl)
-- 
set_option maxHeartbeats 2000000 in
theorem cGetT_abs (zs : List Int) (hw : wfB zs) (hl : zs.length ≤ 1000000) : ∀ (d : Nat), d ≤ 257 → ∀ (W : World) (q : Nat), q ≤ zs.length → AFun Tryz.prog W 95 [.lst (zs.map by8), .i (q : Int), .i ((257 : Int) - d)] (.tup (tupT q (rT d (zs.drop q)))) := by
  intro d
  induction d with
  | zero =>
    intro _ W q hq
    refine afun_of (rs := tupT q (.error 7)) Tryz.func95 Tryz.ntmps95 rfl rfl rfl rfl ?_
    intro w U hW
    refine aS (aR ?_)
    (refine nx (a_box (gN rfl) rfl rfl rfl rfl rfl) rfl ?_)
    (refine nx (a_box (gN rfl) rfl rfl rfl rfl rfl) rfl ?_)
    (refine nx (a_alloc (gN rfl) rfl rfl rfl rfl rfl rfl rfl rfl rfl rfl) rfl ?_)
    (refine nx (aA (gN rfl) rfl rfl rfl rfl rfl) rfl ?_)
    (refine nx (aA (gN rfl) rfl rfl rfl rfl rfl) rfl ?_)
    show AWp _ _ _ _ _ _ _
    refine aS (aS (aR ?_))
    (refine nx (aL (gN rfl) rfl rfl rfl rfl rfl rfl rfl rfl rfl rfl rfl rfl) rfl ?_)
    (refine nx (a_gtr (gN rfl) rfl rfl rfl rfl rfl rfl) rfl ?_)
    show AWp _ _ _ _ _ _ _
    refine aC rfl (fun hc => ?_) (fun hc => by simp at hc)
    refine aS (aR ?_)
    (refine nx (a_build (gN rfl) rfl rfl rfl rfl rfl rfl rfl rfl rfl rfl rfl) rfl ?_)
    (refine nx (aSt (gN rfl) rfl rfl rfl rfl rfl rfl rfl rfl rfl rfl) rfl ?_)
    (refine nx (aA (gN rfl) rfl rfl rfl rfl rfl) rfl ?_)
    (refine nx (aA (gN rfl) rfl rfl rfl rfl rfl) rfl ?_)
    show AWp _ _ _ _ _ _ _
    exact aT (And.intro (.inr rfl) rfl)
  | succ d ih =>
    intro hd W q hq
    have hh := fun w => cGetH_abs w zs hw hl q hq
    obtain ⟨T, hT⟩ : ∃ T, T = rT (d + 1) (zs.drop q) := ⟨_, rfl⟩
    have hT' := hT
    rw [rT] at hT'
    rw [← hT]
    have go : decide ((257 : Int) - ((d + 1 : Nat) : Int) > 256) = false := by rw [decide_eq_false_iff_not]; omega
    unfold rHd at hh
    cases hrh : rH (zs.drop q) with
    | error e =>
      rw [hrh] at hh hT'
      simp only at hT' hh
      rw [hT']
      have he0 : e ≠ 0 := by rcases rH_er _ hrh with h | h <;> omega
      have g2 : decide ((e : Int) ≠ 0) = true := by rw [decide_eq_true_eq]; omega
      refine afun_of (rs := tupT q (.error e)) Tryz.func95 Tryz.ntmps95 rfl rfl rfl rfl ?_
      intro w U hW
      refine aS (aR ?_)
      (refine nx (a_box (gN rfl) rfl rfl rfl rfl rfl) rfl ?_)
      (refine nx (a_box (gN rfl) rfl rfl rfl rfl rfl) rfl ?_)
      (refine nx (a_alloc (gN rfl) rfl rfl rfl rfl rfl rfl rfl rfl rfl rfl) rfl ?_)
      (refine nx (aA (gN rfl) rfl rfl rfl rfl rfl) rfl ?_)
      (refine nx (aA (gN rfl) rfl rfl rfl rfl rfl) rfl ?_)
      show AWp _ _ _ _ _ _ _
      refine aS (aS (aR ?_))
      (refine nx (aL (gN rfl) rfl rfl rfl rfl rfl rfl rfl rfl rfl rfl rfl rfl) rfl ?_)
      (refine nx (a_gtr (gN rfl) rfl rfl rfl rfl rfl rfl) rfl ?_)
      show AWp _ _ _ _ _ _ _
      refine aC rfl (fun hc => by rw [go] at hc; cases hc) (fun hc => aK ?_)
      show AWp _ _ _ _ _ _ _
      refine aS (aR ?_)
      (refine nx (aL (gN rfl) rfl rfl rfl rfl rfl rfl rfl rfl rfl rfl rfl rfl) rfl ?_)
      (refine nx (aM (gN rfl) rfl rfl rfl rfl rfl) rfl ?_)
      (refine nx (a_call (gN rfl) rfl rfl rfl rfl rfl (hh w)) rfl ?_)
      (refine nx (aM (gN rfl) rfl rfl rfl rfl rfl) rfl ?_)
      (refine nx (aX (gN rfl) rfl rfl rfl rfl rfl rfl) rfl ?_)
      (refine nx (aX (gN rfl) rfl rfl rfl rfl rfl rfl) rfl ?_)
      (refine nx (aX (gN rfl) rfl rfl rfl rfl rfl rfl) rfl ?_)
      (refine nx (a_alloc (gN rfl) rfl rfl rfl rfl rfl rfl rfl rfl rfl rfl) rfl ?_)
      (refine nx (aSt (gN rfl) rfl rfl rfl rfl rfl rfl rfl rfl rfl rfl) rfl ?_)
      (refine nx (aA (gN rfl) rfl rfl rfl rfl rfl) rfl ?_)
      (refine nx (aA (gN rfl) rfl rfl rfl rfl rfl) rfl ?_)
      show AWp _ _ _ _ _ _ _
      refine aS (aS (aR ?_))
      (refine nx (aM (gN rfl) rfl rfl rfl rfl rfl) rfl ?_)
      (refine nx (a_neq (gN rfl) rfl rfl rfl rfl rfl rfl) rfl ?_)
      (refine nx (aM (gN rfl) rfl rfl rfl rfl rfl) rfl ?_)
      (refine ⟨_, _, _, a_off (go_off rfl rfl rfl rfl (by first | rfl | assumption | (simp; done) | (simp [*]; done))) rfl rfl rfl, rfl, ?_⟩)
      (refine ⟨_, _, _, a_off (go_off rfl rfl rfl rfl (by first | rfl | assumption | (simp; done) | (simp [*]; done))) rfl rfl rfl, rfl, ?_⟩)
      (refine ⟨_, _, _, aPt (gN rfl) rfl rfl rfl rfl rfl ?hb rfl, rfl, ?_⟩; case hb => (first | rfl | assumption | (simp; done)))
      show AWp _ _ _ _ _ _ _
      refine aC rfl (fun hc => ?_) (fun hc => by cases hc)
      refine aS (aR ?_)
      (refine nx (aL (gN rfl) rfl rfl rfl rfl rfl rfl rfl rfl rfl rfl rfl rfl) rfl ?_)
      (refine nx (aM (gN rfl) rfl rfl rfl rfl rfl) rfl ?_)
      (refine nx (aM (gN rfl) rfl rfl rfl rfl rfl) rfl ?_)
      (refine nx (aSt (gN rfl) rfl rfl rfl rfl rfl rfl rfl rfl rfl rfl) rfl ?_)
      (refine nx (aA (gN rfl) rfl rfl rfl rfl rfl) rfl ?_)
      (refine nx (aA (gN rfl) rfl rfl rfl rfl rfl) rfl ?_)
      show AWp _ _ _ _ _ _ _
      exact aT (And.intro (.inr rfl) rfl)
    | ok fc =>
      obtain ⟨f, c⟩ := fc
      rw [hrh] at hh hT'
      simp only at hT' hh
      obtain ⟨hcl, _⟩ := rH_back (hw.drop q) f c hrh
      rw [List.length_drop] at hcl
      by_cases hf : f < 0
      · rw [if_pos hf] at hT'
        rw [hT']
        have g1 : decide (f < 0) = true := by simpa using hf
        refine afun_of (rs := tupT q (.ok (⟨f, []⟩, c))) Tryz.func95 Tryz.ntmps95 rfl rfl rfl rfl ?_
        intro w U hW
        refine aS (aR ?_)
        (refine nx (a_box (gN rfl) rfl rfl rfl rfl rfl) rfl ?_)
        (refine nx (a_box (gN rfl) rfl rfl rfl rfl rfl) rfl ?_)
        (refine nx (a_alloc (gN rfl) rfl rfl rfl rfl rfl rfl rfl rfl rfl rfl) rfl ?_)
        (refine nx (aA (gN rfl) rfl rfl rfl rfl rfl) rfl ?_)
        (refine nx (aA (gN rfl) rfl rfl rfl rfl rfl) rfl ?_)
        show AWp _ _ _ _ _ _ _
        refine aS (aS (aR ?_))
        (refine nx (aL (gN rfl) rfl rfl rfl rfl rfl rfl rfl rfl rfl rfl rfl rfl) rfl ?_)
        (refine nx (a_gtr (gN rfl) rfl rfl rfl rfl rfl rfl) rfl ?_)
        show AWp _ _ _ _ _ _ _
        refine aC rfl (fun hc => by rw [go] at hc; cases hc) (fun hc => aK ?_)
        show AWp _ _ _ _ _ _ _
        refine aS (aR ?_)
        (refine nx (aL (gN rfl) rfl rfl rfl rfl rfl rfl rfl rfl rfl rfl rfl rfl) rfl ?_)
        (refine nx (aM (gN rfl) rfl rfl rfl rfl rfl) rfl ?_)
        (refine nx (a_call (gN rfl) rfl rfl rfl rfl rfl (hh w)) rfl ?_)
        (refine nx (aM (gN rfl) rfl rfl rfl rfl rfl) rfl ?_)
        (refine nx (aX (gN rfl) rfl rfl rfl rfl rfl rfl) rfl ?_)
        (refine nx (aX (gN rfl) rfl rfl rfl rfl rfl rfl) rfl ?_)
        (refine nx (aX (gN rfl) rfl rfl rfl rfl rfl rfl) rfl ?_)
        (refine nx (a_alloc (gN rfl) rfl rfl rfl rfl rfl rfl rfl rfl rfl rfl) rfl ?_)
        (refine nx (aSt (gN rfl) rfl rfl rfl rfl rfl rfl rfl rfl rfl rfl) rfl ?_)
        (refine nx (aA (gN rfl) rfl rfl rfl rfl rfl) rfl ?_)
        (refine nx (aA (gN rfl) rfl rfl rfl rfl rfl) rfl ?_)
        show AWp _ _ _ _ _ _ _
        refine aS (aS (aR ?_))
        (refine nx (aM (gN rfl) rfl rfl rfl rfl rfl) rfl ?_)
        (refine nx (a_neq (gN rfl) rfl rfl rfl rfl rfl rfl) rfl ?_)
        (refine nx (aM (gN rfl) rfl rfl rfl rfl rfl) rfl ?_)
        (refine nx (aL (gd_on rfl rfl rfl rfl (by first | rfl | assumption | (simp; done))) rfl rfl rfl rfl rfl rfl rfl rfl rfl rfl rfl rfl) rfl ?_)
        (refine nx (a_call (gd_on rfl rfl rfl rfl (by first | rfl | assumption | (simp; done))) rfl rfl rfl rfl rfl (cIsVar_abs w ⟨f, []⟩)) rfl ?_)
        (refine ⟨_, _, _, aPf (gN rfl) rfl rfl rfl rfl rfl ?hb rfl, rfl, ?_⟩; case hb => (first | rfl | assumption | (simp; done)))
        show AWp _ _ _ _ _ _ _
        refine aC rfl (fun hc => ?_) (fun hc => by rw [g1] at hc; cases hc)
        refine aS (aR ?_)
        (refine nx (aL (gN rfl) rfl rfl rfl rfl rfl rfl rfl rfl rfl rfl rfl rfl) rfl ?_)
        (refine nx (aM (gN rfl) rfl rfl rfl rfl rfl) rfl ?_)
        (refine nx (aM (gN rfl) rfl rfl rfl rfl rfl) rfl ?_)
        (refine nx (aSt (gN rfl) rfl rfl rfl rfl rfl rfl rfl rfl rfl rfl) rfl ?_)
        (refine nx (aA (gN rfl) rfl rfl rfl rfl rfl) rfl ?_)
        (refine nx (aA (gN rfl) rfl rfl rfl rfl rfl) rfl ?_)
        show AWp _ _ _ _ _ _ _
        exact aT (And.intro (.inr rfl) rfl)
      · rw [if_neg hf, List.drop_drop] at hT'
        have g1 : decide (f < 0) = false := by simpa using hf
        have hli := fun w => cListT_abs w zs hw hl (.fn 128 0 [.ptr (.lst (zs.map by8)), .ptr (.i ((257 : Int) - (d + 1 : Nat)))]) (rT d) (fun l x c hwl h => (rT_back d l hwl x c h).1) (rT_er d) (fun w q hq => ⟨_, _, _, rfl, cGetT1_abs w zs d (by omega) (fun q => rT d (zs.drop q)) (fun w q hq => ih (by omega) w q hq) q hq⟩) (q + c) (by omega)
        refine afun_of (rs := tupT q T) Tryz.func95 Tryz.ntmps95 rfl rfl rfl rfl ?_
        intro w U hW
        refine aS (aR ?_)
        (refine nx (a_box (gN rfl) rfl rfl rfl rfl rfl) rfl ?_)
        (refine nx (a_box (gN rfl) rfl rfl rfl rfl rfl) rfl ?_)
        (refine nx (a_alloc (gN rfl) rfl rfl rfl rfl rfl rfl rfl rfl rfl rfl) rfl ?_)
        (refine nx (aA (gN rfl) rfl rfl rfl rfl rfl) rfl ?_)
        (refine nx (aA (gN rfl) rfl rfl rfl rfl rfl) rfl ?_)
        show AWp _ _ _ _ _ _ _
        refine aS (aS (aR ?_))
        (refine nx (aL (gN rfl) rfl rfl rfl rfl rfl rfl rfl rfl rfl rfl rfl rfl) rfl ?_)
        (refine nx (a_gtr (gN rfl) rfl rfl rfl rfl rfl rfl) rfl ?_)
        show AWp _ _ _ _ _ _ _
        refine aC rfl (fun hc => by rw [go] at hc; cases hc) (fun hc => aK ?_)
        show AWp _ _ _ _ _ _ _
        refine aS (aR ?_)
        (refine nx (aL (gN rfl) rfl rfl rfl rfl rfl rfl rfl rfl rfl rfl rfl rfl) rfl ?_)
        (refine nx (aM (gN rfl) rfl rfl rfl rfl rfl) rfl ?_)
        (refine nx (a_call (gN rfl) rfl rfl rfl rfl rfl (hh w)) rfl ?_)
        (refine nx (aM (gN rfl) rfl rfl rfl rfl rfl) rfl ?_)
        (refine nx (aX (gN rfl) rfl rfl rfl rfl rfl rfl) rfl ?_)
        (refine nx (aX (gN rfl) rfl rfl rfl rfl rfl rfl) rfl ?_)
        (refine nx (aX (gN rfl) rfl rfl rfl rfl rfl rfl) rfl ?_)
        (refine nx (a_alloc (gN rfl) rfl rfl rfl rfl rfl rfl rfl rfl rfl rfl) rfl ?_)
        (refine nx (aSt (gN rfl) rfl rfl rfl rfl rfl rfl rfl rfl rfl rfl) rfl ?_)
        (refine nx (aA (gN rfl) rfl rfl rfl rfl rfl) rfl ?_)
        (refine nx (aA (gN rfl) rfl rfl rfl rfl rfl) rfl ?_)
        show AWp _ _ _ _ _ _ _
        refine aS (aS (aR ?_))
        (refine nx (aM (gN rfl) rfl rfl rfl rfl rfl) rfl ?_)
        (refine nx (a_neq (gN rfl) rfl rfl rfl rfl rfl rfl) rfl ?_)
        (refine nx (aM (gN rfl) rfl rfl rfl rfl rfl) rfl ?_)
        (refine nx (aL (gd_on rfl rfl rfl rfl (by first | rfl | assumption | (simp; done))) rfl rfl rfl rfl rfl rfl rfl rfl rfl rfl rfl rfl) rfl ?_)
        (refine nx (a_call (gd_on rfl rfl rfl rfl (by first | rfl | assumption | (simp; done))) rfl rfl rfl rfl rfl (cIsVar_abs w ⟨f, []⟩)) rfl ?_)
        (refine ⟨_, _, _, aPf (gN rfl) rfl rfl rfl rfl rfl ?hb rfl, rfl, ?_⟩; case hb => (first | rfl | assumption | (simp; done)))
        show AWp _ _ _ _ _ _ _
        refine aC rfl (fun hc => by rw [g1] at hc; cases hc) (fun hc => aK ?_)
        show AWp _ _ _ _ _ _ _
        refine AWp.wk ((wk_freeze 3 rfl rfl rfl (s' := [(1, .val (.i ((q + c : Nat) : Int))), (5, .bp 5 0 []), (100005, .bx (.i ((257 : Int) - (d + 1 : Nat)))), (6, .bp 6 0 []), (100006, ⟨5, .row [.i 0, .lst []], 1, 0, [1]⟩), (9, .bp 9 0 []), (100009, .bx (.row [.i f, .lst []]))]) ⟨rfl, rfl, rfl, rfl, rfl, rfl, rfl, trivial⟩ rfl rfl rfl).trans (wk_freeze 5 rfl rfl rfl (s' := [(3, .val (.ptr (.lst (zs.map by8)))), (1, .val (.i ((q + c : Nat) : Int))), (6, .bp 6 0 []), (100006, ⟨5, .row [.i 0, .lst []], 1, 0, [1]⟩), (9, .bp 9 0 []), (100009, .bx (.row [.i f, .lst []]))]) ⟨rfl, rfl, rfl, rfl, rfl, rfl, trivial⟩ rfl rfl rfl)) ?_
        have hli := hli w
        cases hrl : rList (rT d) (zs.drop (q + c)) with
        | error e =>
          rw [hrl] at hli hT'
          simp only at hT'
          rw [hT']
          have he0 : e ≠ 0 := by rcases rList_er (rT_er d) _ _ hrl with h | h <;> omega
          have g2 : decide ((e : Int) ≠ 0) = true := by rw [decide_eq_true_eq]; omega
          refine aS (aR ?_)
          (refine nx (a_load_ptr (gN rfl) rfl rfl rfl rfl rfl rfl rfl rfl rfl) rfl ?_)
          (refine nx (aM (gN rfl) rfl rfl rfl rfl rfl) rfl ?_)
          (refine nx (a_mkfunc (gN rfl) rfl rfl rfl rfl rfl rfl) rfl ?_)
          (refine nx (a_call (gN rfl) rfl rfl rfl rfl rfl (hli)) rfl ?_)
          (refine nx (aM (gN rfl) rfl rfl rfl rfl rfl) rfl ?_)
          (refine nx (aX (gN rfl) rfl rfl rfl rfl rfl rfl) rfl ?_)
          (refine nx (aX (gN rfl) rfl rfl rfl rfl rfl rfl) rfl ?_)
          (refine nx (aX (gN rfl) rfl rfl rfl rfl rfl rfl) rfl ?_)
          (refine nx (aF (gN rfl) rfl rfl rfl rfl rfl rfl rfl rfl rfl) rfl ?_)
          (refine nx (a_store (gN rfl) rfl rfl rfl rfl rfl rfl rfl rfl rfl rfl) rfl ?_)
          (refine nx (aA (gN rfl) rfl rfl rfl rfl rfl) rfl ?_)
          (refine nx (aA (gN rfl) rfl rfl rfl rfl rfl) rfl ?_)
          show AWp _ _ _ _ _ _ _
          refine aS (aS (aR ?_))
          (refine nx (aM (gN rfl) rfl rfl rfl rfl rfl) rfl ?_)
          (refine nx (a_neq (gN rfl) rfl rfl rfl rfl rfl rfl) rfl ?_)
          show AWp _ _ _ _ _ _ _
          refine aC rfl (fun hc => ?_) (fun hc => Bool.noConfusion (g2.symm.trans hc))
          refine aS (aR ?_)
          (refine nx (a_build (gN rfl) rfl rfl rfl rfl rfl rfl rfl rfl rfl rfl rfl) rfl ?_)
          (refine nx (aM (gN rfl) rfl rfl rfl rfl rfl) rfl ?_)
          (refine nx (aSt (gN rfl) rfl rfl rfl rfl rfl rfl rfl rfl rfl rfl) rfl ?_)
          (refine nx (aA (gN rfl) rfl rfl rfl rfl rfl) rfl ?_)
          (refine nx (aA (gN rfl) rfl rfl rfl rfl rfl) rfl ?_)
          show AWp _ _ _ _ _ _ _
          exact aT (And.intro (.inr rfl) rfl)
        | ok xc =>
          obtain ⟨xs, c'⟩ := xc
          rw [hrl] at hli hT'
          simp only at hT'
          rw [hT']
          refine aS (aR ?_)
          (refine nx (a_load_ptr (gN rfl) rfl rfl rfl rfl rfl rfl rfl rfl rfl) rfl ?_)
          (refine nx (aM (gN rfl) rfl rfl rfl rfl rfl) rfl ?_)
          (refine nx (a_mkfunc (gN rfl) rfl rfl rfl rfl rfl rfl) rfl ?_)
          (refine nx (a_call (gN rfl) rfl rfl rfl rfl rfl (hli)) rfl ?_)
          (refine nx (aM (gN rfl) rfl rfl rfl rfl rfl) rfl ?_)
          (refine nx (aX (gN rfl) rfl rfl rfl rfl rfl rfl) rfl ?_)
          (refine nx (aX (gN rfl) rfl rfl rfl rfl rfl rfl) rfl ?_)
          (refine nx (aX (gN rfl) rfl rfl rfl rfl rfl rfl) rfl ?_)
          (refine nx (aF (gN rfl) rfl rfl rfl rfl rfl rfl rfl rfl rfl) rfl ?_)
          (refine nx (a_store (gN rfl) rfl rfl rfl rfl rfl rfl rfl rfl rfl rfl) rfl ?_)
          (refine nx (aA (gN rfl) rfl rfl rfl rfl rfl) rfl ?_)
          (refine nx (aA (gN rfl) rfl rfl rfl rfl rfl) rfl ?_)
          show AWp _ _ _ _ _ _ _
          refine aS (aS (aR ?_))
          (refine nx (aM (gN rfl) rfl rfl rfl rfl rfl) rfl ?_)
          (refine nx (a_neq (gN rfl) rfl rfl rfl rfl rfl rfl) rfl ?_)
          show AWp _ _ _ _ _ _ _
          refine aC rfl (fun hc => by cases hc) (fun hc => aK ?_)
          show AWp _ _ _ _ _ _ _
          refine aS (aR ?_)
          (refine nx (aL (gN rfl) rfl rfl rfl rfl rfl rfl rfl rfl rfl rfl rfl rfl) rfl ?_)
          (refine nx (aM (gN rfl) rfl rfl rfl rfl rfl) rfl ?_)
          (refine nx (aSt (gN rfl) rfl rfl rfl rfl rfl rfl rfl rfl rfl rfl) rfl ?_)
          (refine nx (aA (gN rfl) rfl rfl rfl rfl rfl) rfl ?_)
          (refine nx (aA (gN rfl) rfl rfl rfl rfl rfl) rfl ?_)
          show AWp _ _ _ _ _ _ _
          refine aT (And.intro (.inr rfl) ?_)
          show some [CV.row [.i f, .lst (xs.map Tm.cv)], .i ((q + c + c' : Nat) : Int), by8 0] = some [CV.row [.i f, .lst (xs.map Tm.cv)], .i ((q + (c + c') : Nat) : Int), by8 0]
          rw [Nat.add_assoc]
-- 
set_option maxHeartbeats 2000000 in
theorem cGetL_abs (W : World) (zs : List Int) (hw : wfB zs) (hl : zs.length ≤ 1000000) (q : Nat) (hq : q ≤ zs.length) : AFun Tryz.prog W 62 [.lst (zs.map by8), .i (q : Int)] (.tup (tupG q (rL (zs.drop q)))) := by
  have hn := fun w => cGetN_abs w zs hw hl q hq 1
  obtain ⟨R, hR⟩ : ∃ R, R = rL (zs.drop q) := ⟨_, rfl⟩
  rw [← hR]
  unfold rL at hR
  refine afun_of (rs := tupG q R) Tryz.func62 Tryz.ntmps62 rfl rfl rfl rfl ?_
  intro w U hW
  have hn := hn w
  refine aS (aR ?_)
  (refine nx (a_alloc (gN rfl) rfl rfl rfl rfl rfl rfl rfl rfl rfl rfl) rfl ?_)
  (refine nx (aA (gN rfl) rfl rfl rfl rfl rfl) rfl ?_)
  (refine nx (aA (gN rfl) rfl rfl rfl rfl rfl) rfl ?_)
  show AWp _ _ _ _ _ _ _
  cases hrn : rN 1 (zs.drop q) with
  | error e =>
    rw [hrn] at hn hR
    simp only at hR
    rw [hR]
    have he0 : e ≠ 0 := by rcases rN_er _ hrn with h | h <;> omega
    have g2 : decide ((e : Int) ≠ 0) = true := by rw [decide_eq_true_eq]; omega
    refine aS (aR ?_)
    (refine nx (aM (gN rfl) rfl rfl rfl rfl rfl) rfl ?_)
    (refine nx (aM (gN rfl) rfl rfl rfl rfl rfl) rfl ?_)
    (refine nx (a_call (gN rfl) rfl rfl rfl rfl rfl (hn)) rfl ?_)
    (refine nx (aM (gN rfl) rfl rfl rfl rfl rfl) rfl ?_)
    (refine nx (aX (gN rfl) rfl rfl rfl rfl rfl rfl) rfl ?_)
    (refine nx (aX (gN rfl) rfl rfl rfl rfl rfl rfl) rfl ?_)
    (refine nx (aX (gN rfl) rfl rfl rfl rfl rfl rfl) rfl ?_)
    (refine nx (aA (gN rfl) rfl rfl rfl rfl rfl) rfl ?_)
    (refine nx (aA (gN rfl) rfl rfl rfl rfl rfl) rfl ?_)
    (refine nx (aA (gN rfl) rfl rfl rfl rfl rfl) rfl ?_)
    show AWp _ _ _ _ _ _ _
    refine aS (aS (aR ?_))
    (refine nx (aM (gN rfl) rfl rfl rfl rfl rfl) rfl ?_)
    (refine nx (a_neq (gN rfl) rfl rfl rfl rfl rfl rfl) rfl ?_)
    show AWp _ _ _ _ _ _ _
    refine aC rfl (fun hc => ?_) (fun hc => Bool.noConfusion (g2.symm.trans hc))
    refine aS (aR ?_)
    (refine nx (a_build (gN rfl) rfl rfl rfl rfl rfl rfl rfl rfl rfl rfl rfl) rfl ?_)
    (refine nx (aM (gN rfl) rfl rfl rfl rfl rfl) rfl ?_)
    (refine nx (aSt (gN rfl) rfl rfl rfl rfl rfl rfl rfl rfl rfl rfl) rfl ?_)
    (refine nx (aA (gN rfl) rfl rfl rfl rfl rfl) rfl ?_)
    (refine nx (aA (gN rfl) rfl rfl rfl rfl rfl) rfl ?_)
    show AWp _ _ _ _ _ _ _
    exact aT (And.intro (.inr rfl) rfl)
  | ok vc =>
  obtain ⟨n, c⟩ := vc
  rw [hrn] at hn hR
  simp only at hR
  obtain ⟨hcl, _⟩ := rN_back (hw.drop q) n c hrn
  rw [List.length_drop] at hcl
  rw [List.drop_drop] at hR
  have hta := cGetT_abs zs hw hl 257 (Nat.le_refl _) w (q + c) (by omega)
  rw [show (257 : Int) - (257 : Nat) = 0 from rfl] at hta
  refine aS (aR ?_)
  (refine nx (aM (gN rfl) rfl rfl rfl rfl rfl) rfl ?_)
  (refine nx (aM (gN rfl) rfl rfl rfl rfl rfl) rfl ?_)
  (refine nx (a_call (gN rfl) rfl rfl rfl rfl rfl (hn)) rfl ?_)
  (refine nx (aM (gN rfl) rfl rfl rfl rfl rfl) rfl ?_)
  (refine nx (aX (gN rfl) rfl rfl rfl rfl rfl rfl) rfl ?_)
  (refine nx (aX (gN rfl) rfl rfl rfl rfl rfl rfl) rfl ?_)
  (refine nx (aX (gN rfl) rfl rfl rfl rfl rfl rfl) rfl ?_)
  (refine nx (aA (gN rfl) rfl rfl rfl rfl rfl) rfl ?_)
  (refine nx (aA (gN rfl) rfl rfl rfl rfl rfl) rfl ?_)
  (refine nx (aA (gN rfl) rfl rfl rfl rfl rfl) rfl ?_)
  show AWp _ _ _ _ _ _ _
  refine aS (aS (aR ?_))
  (refine nx (aM (gN rfl) rfl rfl rfl rfl rfl) rfl ?_)
  (refine nx (a_neq (gN rfl) rfl rfl rfl rfl rfl rfl) rfl ?_)
  show AWp _ _ _ _ _ _ _
  refine aC rfl (fun hc => by cases hc) (fun hc => aK ?_)
  show AWp _ _ _ _ _ _ _
  cases hra : rT 257 (zs.drop (q + c)) with
  | error e =>
    rw [hra] at hta hR
    simp only at hR
    rw [hR]
    have he0 : e ≠ 0 := by rcases rT_er _ _ _ hra with h | h <;> omega
    have g2 : decide ((e : Int) ≠ 0) = true := by rw [decide_eq_true_eq]; omega
    refine aS (aR ?_)
    (refine nx (aM (gN rfl) rfl rfl rfl rfl rfl) rfl ?_)
    (refine nx (aM (gN rfl) rfl rfl rfl rfl rfl) rfl ?_)
    (refine nx (a_call (gN rfl) rfl rfl rfl rfl rfl (hta)) rfl ?_)
    (refine nx (aM (gN rfl) rfl rfl rfl rfl rfl) rfl ?_)
    (refine nx (aX (gN rfl) rfl rfl rfl rfl rfl rfl) rfl ?_)
    (refine nx (aX (gN rfl) rfl rfl rfl rfl rfl rfl) rfl ?_)
    (refine nx (aX (gN rfl) rfl rfl rfl rfl rfl rfl) rfl ?_)
    (refine nx (a_alloc (gN rfl) rfl rfl rfl rfl rfl rfl rfl rfl rfl rfl) rfl ?_)
    (refine nx (aSt (gN rfl) rfl rfl rfl rfl rfl rfl rfl rfl rfl rfl) rfl ?_)
    (refine nx (aA (gN rfl) rfl rfl rfl rfl rfl) rfl ?_)
    (refine nx (aA (gN rfl) rfl rfl rfl rfl rfl) rfl ?_)
    show AWp _ _ _ _ _ _ _
    refine aS (aS (aR ?_))
    (refine nx (aM (gN rfl) rfl rfl rfl rfl rfl) rfl ?_)
    (refine nx (a_neq (gN rfl) rfl rfl rfl rfl rfl rfl) rfl ?_)
    show AWp _ _ _ _ _ _ _
    refine aC rfl (fun hc => ?_) (fun hc => Bool.noConfusion (g2.symm.trans hc))
    refine aS (aR ?_)
    (refine nx (a_build (gN rfl) rfl rfl rfl rfl rfl rfl rfl rfl rfl rfl rfl) rfl ?_)
    (refine nx (aM (gN rfl) rfl rfl rfl rfl rfl) rfl ?_)
    (refine nx (aSt (gN rfl) rfl rfl rfl rfl rfl rfl rfl rfl rfl rfl) rfl ?_)
    (refine nx (aA (gN rfl) rfl rfl rfl rfl rfl) rfl ?_)
    (refine nx (aA (gN rfl) rfl rfl rfl rfl rfl) rfl ?_)
    show AWp _ _ _ _ _ _ _
    exact aT (And.intro (.inr rfl) rfl)
  | ok ac =>
  obtain ⟨a, c1⟩ := ac
  rw [hra] at hta hR
  simp only at hR
  obtain ⟨hc1, _⟩ := rT_back 257 (zs.drop (q + c)) (hw.drop _) a c1 hra
  rw [List.length_drop] at hc1
  rw [List.drop_drop, show q + (c + c1) = q + c + c1 by omega] at hR
  have htb := cGetT_abs zs hw hl 257 (Nat.le_refl _) w (q + c + c1) (by omega)
  rw [show (257 : Int) - (257 : Nat) = 0 from rfl] at htb
  refine aS (aR ?_)
  (refine nx (aM (gN rfl) rfl rfl rfl rfl rfl) rfl ?_)
  (refine nx (aM (gN rfl) rfl rfl rfl rfl rfl) rfl ?_)
  (refine nx (a_call (gN rfl) rfl rfl rfl rfl rfl (hta)) rfl ?_)
  (refine nx (aM (gN rfl) rfl rfl rfl rfl rfl) rfl ?_)
  (refine nx (aX (gN rfl) rfl rfl rfl rfl rfl rfl) rfl ?_)
  (refine nx (aX (gN rfl) rfl rfl rfl rfl rfl rfl) rfl ?_)
  (refine nx (aX (gN rfl) rfl rfl rfl rfl rfl rfl) rfl ?_)
  (refine nx (a_alloc (gN rfl) rfl rfl rfl rfl rfl rfl rfl rfl rfl rfl) rfl ?_)
  (refine nx (aSt (gN rfl) rfl rfl rfl rfl rfl rfl rfl rfl rfl rfl) rfl ?_)
  (refine nx (aA (gN rfl) rfl rfl rfl rfl rfl) rfl ?_)
  (refine nx (aA (gN rfl) rfl rfl rfl rfl rfl) rfl ?_)
  show AWp _ _ _ _ _ _ _
  refine aS (aS (aR ?_))
  (refine nx (aM (gN rfl) rfl rfl rfl rfl rfl) rfl ?_)
  (refine nx (a_neq (gN rfl) rfl rfl rfl rfl rfl rfl) rfl ?_)
  show AWp _ _ _ _ _ _ _
  refine aC rfl (fun hc => by cases hc) (fun hc => aK ?_)
  show AWp _ _ _ _ _ _ _
  cases hrb : rT 257 (zs.drop (q + c + c1)) with
  | error e =>
    rw [hrb] at htb hR
    simp only at hR
    rw [hR]
    have he0 : e ≠ 0 := by rcases rT_er _ _ _ hrb with h | h <;> omega
    have g2 : decide ((e : Int) ≠ 0) = true := by rw [decide_eq_true_eq]; omega
    refine aS (aR ?_)
    (refine nx (aM (gN rfl) rfl rfl rfl rfl rfl) rfl ?_)
    (refine nx (aM (gN rfl) rfl rfl rfl rfl rfl) rfl ?_)
    (refine nx (a_call (gN rfl) rfl rfl rfl rfl rfl (htb)) rfl ?_)
    (refine nx (aM (gN rfl) rfl rfl rfl rfl rfl) rfl ?_)
    (refine nx (aX (gN rfl) rfl rfl rfl rfl rfl rfl) rfl ?_)
    (refine nx (aX (gN rfl) rfl rfl rfl rfl rfl rfl) rfl ?_)
    (refine nx (aX (gN rfl) rfl rfl rfl rfl rfl rfl) rfl ?_)
    (refine nx (a_alloc (gN rfl) rfl rfl rfl rfl rfl rfl rfl rfl rfl rfl) rfl ?_)
    (refine nx (aSt (gN rfl) rfl rfl rfl rfl rfl rfl rfl rfl rfl rfl) rfl ?_)
    (refine nx (aA (gN rfl) rfl rfl rfl rfl rfl) rfl ?_)
    (refine nx (aA (gN rfl) rfl rfl rfl rfl rfl) rfl ?_)
    show AWp _ _ _ _ _ _ _
    refine aS (aS (aR ?_))
    (refine nx (aM (gN rfl) rfl rfl rfl rfl rfl) rfl ?_)
    (refine nx (a_neq (gN rfl) rfl rfl rfl rfl rfl rfl) rfl ?_)
    show AWp _ _ _ _ _ _ _
    refine aC rfl (fun hc => ?_) (fun hc => Bool.noConfusion (g2.symm.trans hc))
    refine aS (aR ?_)
    (refine nx (a_build (gN rfl) rfl rfl rfl rfl rfl rfl rfl rfl rfl rfl rfl) rfl ?_)
    (refine nx (aM (gN rfl) rfl rfl rfl rfl rfl) rfl ?_)
    (refine nx (aSt (gN rfl) rfl rfl rfl rfl rfl rfl rfl rfl rfl rfl) rfl ?_)
    (refine nx (aA (gN rfl) rfl rfl rfl rfl rfl) rfl ?_)
    (refine nx (aA (gN rfl) rfl rfl rfl rfl rfl) rfl ?_)
    show AWp _ _ _ _ _ _ _
    exact aT (And.intro (.inr rfl) rfl)
  | ok bc =>
  obtain ⟨b, c2⟩ := bc
  rw [hrb] at htb hR
  simp only at hR
  rw [hR]
  refine aS (aR ?_)
  (refine nx (aM (gN rfl) rfl rfl rfl rfl rfl) rfl ?_)
  (refine nx (aM (gN rfl) rfl rfl rfl rfl rfl) rfl ?_)
  (refine nx (a_call (gN rfl) rfl rfl rfl rfl rfl (htb)) rfl ?_)
  (refine nx (aM (gN rfl) rfl rfl rfl rfl rfl) rfl ?_)
  (refine nx (aX (gN rfl) rfl rfl rfl rfl rfl rfl) rfl ?_)
  (refine nx (aX (gN rfl) rfl rfl rfl rfl rfl rfl) rfl ?_)
  (refine nx (aX (gN rfl) rfl rfl rfl rfl rfl rfl) rfl ?_)
  (refine nx (a_alloc (gN rfl) rfl rfl rfl rfl rfl rfl rfl rfl rfl rfl) rfl ?_)
  (refine nx (aSt (gN rfl) rfl rfl rfl rfl rfl rfl rfl rfl rfl rfl) rfl ?_)
  (refine nx (aA (gN rfl) rfl rfl rfl rfl rfl) rfl ?_)
  (refine nx (aA (gN rfl) rfl rfl rfl rfl rfl) rfl ?_)
  show AWp _ _ _ _ _ _ _
  refine aS (aS (aR ?_))
  (refine nx (aM (gN rfl) rfl rfl rfl rfl rfl) rfl ?_)
  (refine nx (a_neq (gN rfl) rfl rfl rfl rfl rfl rfl) rfl ?_)
  show AWp _ _ _ _ _ _ _
  refine aC rfl (fun hc => by cases hc) (fun hc => aK ?_)
  show AWp _ _ _ _ _ _ _
  refine aS (aR ?_)
  (refine nx (aM (gN rfl) rfl rfl rfl rfl rfl) rfl ?_)
  (refine nx (a_eql (gN rfl) rfl rfl rfl rfl rfl rfl) rfl ?_)
  (refine nx (aL (gN rfl) rfl rfl rfl rfl rfl rfl rfl rfl rfl rfl rfl rfl) rfl ?_)
  (refine nx (aL (gN rfl) rfl rfl rfl rfl rfl rfl rfl rfl rfl rfl rfl rfl) rfl ?_)
  (refine nx (a_build (gN rfl) rfl rfl rfl rfl rfl rfl rfl rfl rfl rfl rfl) rfl ?_)
  (refine nx (aM (gN rfl) rfl rfl rfl rfl rfl) rfl ?_)
  (refine nx (aSt (gN rfl) rfl rfl rfl rfl rfl rfl rfl rfl rfl rfl) rfl ?_)
  (refine nx (aA (gN rfl) rfl rfl rfl rfl rfl) rfl ?_)
  (refine nx (aA (gN rfl) rfl rfl rfl rfl rfl) rfl ?_)
  show AWp _ _ _ _ _ _ _
  refine aT (And.intro (.inr rfl) ?_)
  show some [CV.row [.b (decide ((n : Int) = 1)), a.cw, b.cw], .i ((q + c + c1 + c2 : Nat) : Int), by8 0] = some [CV.row [.b (decide (n = 1)), a.cw, b.cw], .i ((q + (c + c1 + c2) : Nat) : Int), by8 0]
  rw [show q + (c + c1 + c2) = q + c + c1 + c2 by omega, show decide ((n : Int) = 1) = decide (n = 1) from decide_eq_decide.2 (by omega)]
-- 
theorem cGet1_abs (W : World) (zs : List Int) (hw : wfB zs) (hl : zs.length ≤ 1000000) (q : Nat) (hq : q ≤ zs.length) : AFun Tryz.prog W 61 [.i (q : Int), .ptr (.lst (zs.map by8))] (.tup (tupG q (rL (zs.drop q)))) := by
  have hc := fun w => cGetL_abs w zs hw hl q hq
  refine afun_of (rs := tupG q (rL (zs.drop q))) Tryz.func61 Tryz.ntmps61 rfl rfl rfl rfl ?_
  intro w U hW
  have hc := hc w
  cases hrq : rL (zs.drop q) with
  | error er =>
    rw [hrq] at hc
    refine aS (aR ?_)
    (refine nx (a_alloc (gN rfl) rfl rfl rfl rfl rfl rfl rfl rfl rfl rfl) rfl ?_)
    (refine nx (aA (gN rfl) rfl rfl rfl rfl rfl) rfl ?_)
    (refine nx (aA (gN rfl) rfl rfl rfl rfl rfl) rfl ?_)
    show AWp _ _ _ _ _ _ _
    refine aS (aR ?_)
    (refine nx (a_load_ptr (gN rfl) rfl rfl rfl rfl rfl rfl rfl rfl rfl) rfl ?_)
    (refine nx (aM (gN rfl) rfl rfl rfl rfl rfl) rfl ?_)
    (refine nx (a_call (gN rfl) rfl rfl rfl rfl rfl (hc)) rfl ?_)
    (refine nx (aX (gN rfl) rfl rfl rfl rfl rfl rfl) rfl ?_)
    (refine nx (aX (gN rfl) rfl rfl rfl rfl rfl rfl) rfl ?_)
    (refine nx (aX (gN rfl) rfl rfl rfl rfl rfl rfl) rfl ?_)
    (refine nx (aSt (gN rfl) rfl rfl rfl rfl rfl rfl rfl rfl rfl rfl) rfl ?_)
    (refine nx (aA (gN rfl) rfl rfl rfl rfl rfl) rfl ?_)
    (refine nx (aA (gN rfl) rfl rfl rfl rfl rfl) rfl ?_)
    show AWp _ _ _ _ _ _ _
    exact aT (And.intro (.inr rfl) rfl)
  | ok xc =>
    obtain ⟨x, c⟩ := xc
    rw [hrq] at hc
    refine aS (aR ?_)
    (refine nx (a_alloc (gN rfl) rfl rfl rfl rfl rfl rfl rfl rfl rfl rfl) rfl ?_)
    (refine nx (aA (gN rfl) rfl rfl rfl rfl rfl) rfl ?_)
    (refine nx (aA (gN rfl) rfl rfl rfl rfl rfl) rfl ?_)
    show AWp _ _ _ _ _ _ _
    refine aS (aR ?_)
    (refine nx (a_load_ptr (gN rfl) rfl rfl rfl rfl rfl rfl rfl rfl rfl) rfl ?_)
    (refine nx (aM (gN rfl) rfl rfl rfl rfl rfl) rfl ?_)
    (refine nx (a_call (gN rfl) rfl rfl rfl rfl rfl (hc)) rfl ?_)
    (refine nx (aX (gN rfl) rfl rfl rfl rfl rfl rfl) rfl ?_)
    (refine nx (aX (gN rfl) rfl rfl rfl rfl rfl rfl) rfl ?_)
    (refine nx (aX (gN rfl) rfl rfl rfl rfl rfl rfl) rfl ?_)
    (refine nx (aSt (gN rfl) rfl rfl rfl rfl rfl rfl rfl rfl rfl rfl) rfl ?_)
    (refine nx (aA (gN rfl) rfl rfl rfl rfl rfl) rfl ?_)
    (refine nx (aA (gN rfl) rfl rfl rfl rfl rfl) rfl ?_)
    show AWp _ _ _ _ _ _ _
    exact aT (And.intro (.inr rfl) rfl)
-- 
theorem cListE_abs (W : World) (zs : List Int) (hl : zs.length ≤ 1000000) (fc : CV) (p : Int) (h : p < 0 ∨ p > zs.length) : AFun Tryz.prog W 60 [.lst (zs.map by8), .i p, fc] (.tup [.lst [], .i 0, by8 1]) := by
  have hn := fun w => cGetE_abs w zs p 4096 1 (by decide) (fun w => cUintA_abs w zs hl p h)
  refine afun_of (rs := [.lst [], .i 0, by8 1]) Tryz.func60 Tryz.ntmps60 rfl rfl rfl rfl ?_
  intro w U hW
  refine aS (aR ?_)
  (refine nx (aA (gN rfl) rfl rfl rfl rfl rfl) rfl ?_)
  (refine nx (aA (gN rfl) rfl rfl rfl rfl rfl) rfl ?_)
  (refine nx (aA (gN rfl) rfl rfl rfl rfl rfl) rfl ?_)
  show AWp _ _ _ _ _ _ _
  refine aS (aR ?_)
  (refine nx (aM (gN rfl) rfl rfl rfl rfl rfl) rfl ?_)
  (refine nx (aM (gN rfl) rfl rfl rfl rfl rfl) rfl ?_)
  (refine nx (a_call (gN rfl) rfl rfl rfl rfl rfl (hn w)) rfl ?_)
  (refine nx (aM (gN rfl) rfl rfl rfl rfl rfl) rfl ?_)
  (refine nx (aX (gN rfl) rfl rfl rfl rfl rfl rfl) rfl ?_)
  (refine nx (aX (gN rfl) rfl rfl rfl rfl rfl rfl) rfl ?_)
  (refine nx (aX (gN rfl) rfl rfl rfl rfl rfl rfl) rfl ?_)
  (refine nx (aA (gN rfl) rfl rfl rfl rfl rfl) rfl ?_)
  (refine nx (aA (gN rfl) rfl rfl rfl rfl rfl) rfl ?_)
  (refine nx (aA (gN rfl) rfl rfl rfl rfl rfl) rfl ?_)
  show AWp _ _ _ _ _ _ _
  refine aS (aS (aR ?_))
  (refine nx (aM (gN rfl) rfl rfl rfl rfl rfl) rfl ?_)
  (refine nx (a_neq (gN rfl) rfl rfl rfl rfl rfl rfl) rfl ?_)
  show AWp _ _ _ _ _ _ _
  refine aC rfl (fun hc => ?_) (fun hc => by cases hc)
  refine aS (aR ?_)
  (refine nx (aM (gN rfl) rfl rfl rfl rfl rfl) rfl ?_)
  (refine nx (aA (gN rfl) rfl rfl rfl rfl rfl) rfl ?_)
  (refine nx (aA (gN rfl) rfl rfl rfl rfl rfl) rfl ?_)
  (refine nx (aA (gN rfl) rfl rfl rfl rfl rfl) rfl ?_)
  show AWp _ _ _ _ _ _ _
  exact aT (And.intro (.inr rfl) rfl)
def gC (zs : List Int) (p : Int) : Except Nat (List Lt × Nat) := if p < 0 ∨ p > zs.length then .error 1 else rC (zs.drop p.toNat)
-- 
theorem cGet_abs (W : World) (zs : List Int) (hw : wfB zs) (hl : zs.length ≤ 1000000) (p : Int) : AFun Tryz.prog W 31 [.lst (zs.map by8), .i p] (.tup (tupLG p.toNat (gC zs p))) := by
  have hc : ∀ w, AFun Tryz.prog w 60 [.lst (zs.map by8), .i p, .fn 61 0 [.ptr (.lst (zs.map by8))]] (.tup (tupLG p.toNat (gC zs p))) := fun w => by
    unfold gC
    by_cases hp : p < 0 ∨ p > zs.length
    · rw [if_pos hp]
      exact cListE_abs w zs hl _ p hp
    · rw [if_neg hp]
      obtain ⟨q, rfl⟩ : ∃ q : Nat, p = q := ⟨p.toNat, by omega⟩
      exact cListG_abs w zs hw hl _ rL (fun l x c hwl h => (rL_back l hwl x c h).1) rL_er (fun w q hq => ⟨_, _, _, rfl, cGet1_abs w zs hw hl q hq⟩) q (by omega)
  obtain ⟨R, hR⟩ : ∃ R, R = gC zs p := ⟨_, rfl⟩
  rw [← hR] at hc ⊢
  refine afun_of (rs := tupLG p.toNat R) Tryz.func31 Tryz.ntmps31 rfl rfl rfl rfl ?_
  intro w U hW
  refine aS (aR ?_)
  (refine nx (a_box (gN rfl) rfl rfl rfl rfl rfl) rfl ?_)
  (refine nx (aA (gN rfl) rfl rfl rfl rfl rfl) rfl ?_)
  (refine nx (aA (gN rfl) rfl rfl rfl rfl rfl) rfl ?_)
  (refine nx (aA (gN rfl) rfl rfl rfl rfl rfl) rfl ?_)
  show AWp _ _ _ _ _ _ _
  refine AWp.wk (wk_freeze 2 rfl rfl rfl (s' := [(1, .val (.i p))]) ⟨rfl, trivial⟩ rfl rfl rfl) ?_
  refine aS (aR ?_)
  (refine nx (a_load_ptr (gN rfl) rfl rfl rfl rfl rfl rfl rfl rfl rfl) rfl ?_)
  (refine nx (aM (gN rfl) rfl rfl rfl rfl rfl) rfl ?_)
  (refine nx (a_mkfunc (gN rfl) rfl rfl rfl rfl rfl rfl) rfl ?_)
  (refine nx (a_call (gN rfl) rfl rfl rfl rfl rfl (hc w)) rfl ?_)
  (refine nx (aX (gN rfl) rfl rfl rfl rfl rfl rfl) rfl ?_)
  (refine nx (aX (gN rfl) rfl rfl rfl rfl rfl rfl) rfl ?_)
  (refine nx (aX (gN rfl) rfl rfl rfl rfl rfl rfl) rfl ?_)
  (refine nx (aA (gN rfl) rfl rfl rfl rfl rfl) rfl ?_)
  (refine nx (aA (gN rfl) rfl rfl rfl rfl rfl) rfl ?_)
  (refine nx (aA (gN rfl) rfl rfl rfl rfl rfl) rfl ?_)
  show AWp _ _ _ _ _ _ _
  exact aT (And.intro (.inr rfl) rfl)
def exC : Lt := ⟨false, ⟨3, [⟨-1, []⟩]⟩, ⟨1, []⟩⟩
theorem exC_ok : okC [exC] := fun l h => by
  rw [List.mem_singleton.1 h]
  exact ⟨by simp [exC, Tm.rng], by simp [exC, Tm.rng]⟩
theorem exC_wt : wtC [exC] = 3 := by simp [wtC, exC, Tm.size, Tm.flat]
theorem exC_taut : tautP [exC] = false := by
  have h1 : holdB exC = false := by
    show (!false && sameT _ _) = false
    rw [Bool.not_false, Bool.true_and, ← Bool.not_eq_true, sameT_iff]
    intro h
    have := congrArg Tm.f h
    rw [Tm.strip_f, Tm.strip_f] at this
    exact absurd this (by decide)
  unfold tautP
  have h2 : adjB (srtL ([exC].map trnL)) = false := by
    show adjB [trnL exC] = false
    simp [adjB, chkL]
  rw [h2]
  simp [h1]
theorem gC_nil : gC [] 0 = .error 10 := by
  unfold gC
  rw [if_neg (by simp)]
  rfl
-- 
set_option maxHeartbeats 1000000 in
theorem alive11_abs (W : World) : AFun Tryz.prog W 6 [] (.val (.b true)) := by
  refine afun_of (rs := [.b true]) Tryz.func6 Tryz.ntmps6 rfl rfl rfl rfl ?_
  intro w U hW
  have hg := cGet_abs w [] (fun z hz => by cases hz) (by simp) 0
  rw [gC_nil] at hg
  have hwt := cWeight_abs w [exC] (by simp) (by rw [exC_wt]; decide) exC_ok
  rw [exC_wt] at hwt
  have hta := cTaut_abs w [exC] (by simp) exC_ok
  rw [exC_taut] at hta
  have e : [exC].map Lt.cv = [.row [.b false, .row [.i 3, .lst [.row [.i (-1), .lst []]]], .row [.i 1, .lst []]]] := by simp [exC, Lt.cv, Tm.cv_eq]
  rw [e] at hwt hta
  refine aS (aR ?_)
  (refine nx (aA (gN rfl) rfl rfl rfl rfl rfl) rfl ?_)
  show AWp _ _ _ _ _ _ _
  refine aS (aR ?_)
  (refine nx (a_buildP (gN rfl) rfl rfl rfl rfl rfl rfl rfl rfl rfl rfl rfl) rfl ?_)
  (refine nx (a_bslice (gN rfl) rfl rfl rfl rfl rfl rfl rfl rfl rfl rfl rfl rfl rfl) rfl ?_)
  (refine nx (a_buildP (gN rfl) rfl rfl rfl rfl rfl rfl rfl rfl rfl rfl rfl) rfl ?_)
  (refine nx (a_buildP (gN rfl) rfl rfl rfl rfl rfl rfl rfl rfl rfl rfl rfl) rfl ?_)
  (refine nx (a_buildP (gN rfl) rfl rfl rfl rfl rfl rfl rfl rfl rfl rfl rfl) rfl ?_)
  (refine nx (a_bslice (gN rfl) rfl rfl rfl rfl rfl rfl rfl rfl rfl rfl rfl rfl rfl) rfl ?_)
  (refine nx (aA (gN rfl) rfl rfl rfl rfl rfl) rfl ?_)
  show AWp _ _ _ _ _ _ _
  refine aS (aR ?_)
  (refine nx (a_call (gN rfl) rfl rfl rfl rfl rfl (hg)) rfl ?_)
  (refine nx (aM (gN rfl) rfl rfl rfl rfl rfl) rfl ?_)
  (refine nx (aX (gN rfl) rfl rfl rfl rfl rfl rfl) rfl ?_)
  (refine nx (aX (gN rfl) rfl rfl rfl rfl rfl rfl) rfl ?_)
  (refine nx (aX (gN rfl) rfl rfl rfl rfl rfl rfl) rfl ?_)
  (refine nx (aA (gN rfl) rfl rfl rfl rfl rfl) rfl ?_)
  (refine nx (aA (gN rfl) rfl rfl rfl rfl rfl) rfl ?_)
  (refine nx (aA (gN rfl) rfl rfl rfl rfl rfl) rfl ?_)
  show AWp _ _ _ _ _ _ _
  refine aS (aR ?_)
  (refine nx (aM (gN rfl) rfl rfl rfl rfl rfl) rfl ?_)
  (refine nx (a_call (gN rfl) rfl rfl rfl rfl rfl (hwt)) rfl ?_)
  (refine nx (a_eql (gN rfl) rfl rfl rfl rfl rfl rfl) rfl ?_)
  (refine nx (aM (gN rfl) rfl rfl rfl rfl rfl) rfl ?_)
  (refine nx (aM (gd_on rfl rfl rfl rfl (by first | rfl | assumption | (simp; done))) rfl rfl rfl rfl rfl) rfl ?_)
  (refine nx (a_conv (gd_on rfl rfl rfl rfl (by first | rfl | assumption | (simp; done))) rfl rfl rfl rfl rfl rfl rfl (by first | rfl | (rw [IntKind.wrap_i64]; omega) | assumption)) rfl ?_)
  (refine nx (a_eql (gd_on rfl rfl rfl rfl (by first | rfl | assumption | (simp; done))) rfl rfl rfl rfl rfl rfl) rfl ?_)
  (refine ⟨_, _, _, aPt (gN rfl) rfl rfl rfl rfl rfl ?hb rfl, rfl, ?_⟩; case hb => (first | rfl | assumption | (simp; done)))
  (refine nx (aM (gN rfl) rfl rfl rfl rfl rfl) rfl ?_)
  (refine nx (aM (gd_on rfl rfl rfl rfl (by first | rfl | assumption | (simp; done))) rfl rfl rfl rfl rfl) rfl ?_)
  (refine nx (a_call (gd_on rfl rfl rfl rfl (by first | rfl | assumption | (simp; done))) rfl rfl rfl rfl rfl (hta)) rfl ?_)
  (refine nx (a_not (gd_on rfl rfl rfl rfl (by first | rfl | assumption | (simp; done))) rfl rfl rfl rfl rfl) rfl ?_)
  (refine ⟨_, _, _, aPt (gN rfl) rfl rfl rfl rfl rfl ?hb rfl, rfl, ?_⟩; case hb => (first | rfl | assumption | (simp; done)))
  (refine nx (aA (gN rfl) rfl rfl rfl rfl rfl) rfl ?_)
  show AWp _ _ _ _ _ _ _
  exact aT (And.intro (.inr rfl) rfl)
def finL (size : Int) (l : Lt) : Bool := decide (0 ≤ smallT l.a size 8) && decide (0 ≤ smallT l.b size 8)
def fineC (c : List Lt) (most : Nat) (size : Int) : Bool := decide (c.length ≤ most) && c.all (finL size)
-- 
set_option maxHeartbeats 1000000 in
theorem fine11_abs (W : World) (c : List Lt) (most : Nat) (size : Int) (hm : most ≤ 1000) (h0 : 0 ≤ size) (h1 : size ≤ 60) (hr : okC c) : AFun Tryz.prog W 7 [.lst (c.map Lt.cv), .i (most : Int), .i size] (.val (.b (fineC c most size))) := by
  have hsz := Lt.size_all c
  refine afun_of (rs := [.b (fineC c most size)]) Tryz.func7 Tryz.ntmps7 rfl rfl rfl rfl ?_
  intro w U hW
  refine aS (aR ?_)
  (refine nx (aA (gN rfl) rfl rfl rfl rfl rfl) rfl ?_)
  show AWp _ _ _ _ _ _ _
  refine aS (aS (aR ?_))
  (refine nx (aM (gN rfl) rfl rfl rfl rfl rfl) rfl ?_)
  (refine nx (a_len (gN rfl) rfl rfl rfl rfl rfl rfl rfl) rfl ?_)
  (refine nx (aM (gN rfl) rfl rfl rfl rfl rfl) rfl ?_)
  (refine nx (a_gtr (gN rfl) rfl rfl rfl rfl rfl rfl) rfl ?_)
  show AWp _ _ _ _ _ _ _
  refine aC rfl (fun hc => ?_) (fun hc => ?_)
  · have hno : fineC c most size = false := by
      have := of_decide_eq_true hc
      rw [List.length_map] at this
      unfold fineC
      rw [show decide (c.length ≤ most) = false by rw [decide_eq_false_iff_not]; omega]
      rfl
    rw [hno]
    refine aS (aR ?_)
    (refine nx (aA (gN rfl) rfl rfl rfl rfl rfl) rfl ?_)
    show AWp _ _ _ _ _ _ _
    exact aT (And.intro (.inr rfl) rfl)
  have hl : c.length ≤ most := by
    have := of_decide_eq_false hc
    rw [List.length_map] at this
    omega
  refine aK ?_
  show AWp _ _ _ _ _ _ _
  refine aS (aS (aR ?_))
  (refine nx (aA (gN rfl) rfl rfl rfl rfl rfl) rfl ?_)
  show AWp _ _ _ _ _ _ _
  refine aB (awp_countI c.length (fun k => ∀ l ∈ c.take k, finL size l = true) (fun k => [(0, .val (.lst (c.map Lt.cv))), (2, .val (.i size)), (7, .val (.i k))]) (wk_sub ⟨rfl, rfl, rfl, trivial⟩) (by simp) ?_)
  intro k hk hI
  refine aS (aS (aR ?_))
  (refine nx (aM (gN rfl) rfl rfl rfl rfl rfl) rfl ?_)
  (refine nx (aM (gN rfl) rfl rfl rfl rfl rfl) rfl ?_)
  (refine nx (a_len (gN rfl) rfl rfl rfl rfl rfl rfl rfl) rfl ?_)
  (refine nx (a_lss (gN rfl) rfl rfl rfl rfl rfl rfl) rfl ?_)
  show AWp _ _ _ _ _ _ _
  refine aC rfl (fun hlt => ?_) (fun hlt => ?_)
  · have hkl : k < c.length := by simpa using hlt
    obtain ⟨x, hx⟩ : ∃ x, c[k]? = some x := ⟨c[k], List.getElem?_eq_getElem hkl⟩
    have hx' := Lt.map_at hx
    have hxm := List.mem_of_getElem? hx
    have sa := small_abs w x.a size 8 (hr x hxm).1 h0 h1 (by decide) (by decide)
    have sb := small_abs w x.b size 8 (hr x hxm).2 h0 h1 (by decide) (by decide)
    have hno : finL size x = false → fineC c most size = false := fun h => by
      unfold fineC
      rw [show c.all (finL size) = false from List.all_eq_false.2 ⟨x, hxm, by rw [h]; simp⟩, Bool.and_false]
    refine aK ?_
    show AWp _ _ _ _ _ _ _
    by_cases ha : smallT x.a size 8 < 0
    · have ga : decide (smallT x.a size 8 < 0) = true := by simpa using ha
      rw [hno (by unfold finL; rw [show decide (0 ≤ smallT x.a size 8) = false by rw [decide_eq_false_iff_not]; omega]; rfl)]
      refine aS (aB (aS (aR ?_)))
      (refine nx (aM (gN rfl) rfl rfl rfl rfl rfl) rfl ?_)
      (refine nx (aM (gN rfl) rfl rfl rfl rfl rfl) rfl ?_)
      (refine nx (a_index (j := k) (gN rfl) rfl rfl rfl rfl rfl rfl rfl rfl rfl (hx') rfl (hsz)) rfl ?_)
      (refine nx (a_field_ad (gN rfl) rfl rfl rfl rfl rfl rfl rfl rfl rfl rfl rfl) rfl ?_)
      (refine nx (a_load_ad (gN rfl) rfl rfl rfl rfl rfl rfl rfl rfl rfl) rfl ?_)
      (refine nx (aM (gN rfl) rfl rfl rfl rfl rfl) rfl ?_)
      (refine nx (a_call (gN rfl) rfl rfl rfl rfl rfl (sa)) rfl ?_)
      (refine nx (a_lss (gN rfl) rfl rfl rfl rfl rfl rfl) rfl ?_)
      (refine nx (aM (gN rfl) rfl rfl rfl rfl rfl) rfl ?_)
      (refine ⟨_, _, _, a_off (go_off rfl rfl rfl rfl (by first | rfl | assumption | (simp; done) | (simp [*]; done))) rfl rfl rfl, rfl, ?_⟩)
      (refine ⟨_, _, _, a_off (go_off rfl rfl rfl rfl (by first | rfl | assumption | (simp; done) | (simp [*]; done))) rfl rfl rfl, rfl, ?_⟩)
      (refine ⟨_, _, _, a_off (go_off rfl rfl rfl rfl (by first | rfl | assumption | (simp; done) | (simp [*]; done))) rfl rfl rfl, rfl, ?_⟩)
      (refine ⟨_, _, _, a_off (go_off rfl rfl rfl rfl (by first | rfl | assumption | (simp; done) | (simp [*]; done))) rfl rfl rfl, rfl, ?_⟩)
      (refine ⟨_, _, _, a_off (go_off rfl rfl rfl rfl (by first | rfl | assumption | (simp; done) | (simp [*]; done))) rfl rfl rfl, rfl, ?_⟩)
      (refine ⟨_, _, _, a_off (go_off rfl rfl rfl rfl (by first | rfl | assumption | (simp; done) | (simp [*]; done))) rfl rfl rfl, rfl, ?_⟩)
      (refine ⟨_, _, _, a_off (go_off rfl rfl rfl rfl (by first | rfl | assumption | (simp; done) | (simp [*]; done))) rfl rfl rfl, rfl, ?_⟩)
      (refine ⟨_, _, _, a_off (go_off rfl rfl rfl rfl (by first | rfl | assumption | (simp; done) | (simp [*]; done))) rfl rfl rfl, rfl, ?_⟩)
      (refine ⟨_, _, _, aPt (gN rfl) rfl rfl rfl rfl rfl ?hb rfl, rfl, ?_⟩; case hb => (first | rfl | assumption | (simp; done)))
      show AWp _ _ _ _ _ _ _
      refine aC rfl (fun hc2 => ?_) (fun hc2 => by cases hc2)
      refine aS (aR ?_)
      (refine nx (aA (gN rfl) rfl rfl rfl rfl rfl) rfl ?_)
      show AWp _ _ _ _ _ _ _
      exact aT (And.intro (.inr rfl) rfl)
    · have ga : decide (smallT x.a size 8 < 0) = false := by simpa using ha
      refine aS (aB (aS (aR ?_)))
      (refine nx (aM (gN rfl) rfl rfl rfl rfl rfl) rfl ?_)
      (refine nx (aM (gN rfl) rfl rfl rfl rfl rfl) rfl ?_)
      (refine nx (a_index (j := k) (gN rfl) rfl rfl rfl rfl rfl rfl rfl rfl rfl (hx') rfl (hsz)) rfl ?_)
      (refine nx (a_field_ad (gN rfl) rfl rfl rfl rfl rfl rfl rfl rfl rfl rfl rfl) rfl ?_)
      (refine nx (a_load_ad (gN rfl) rfl rfl rfl rfl rfl rfl rfl rfl rfl) rfl ?_)
      (refine nx (aM (gN rfl) rfl rfl rfl rfl rfl) rfl ?_)
      (refine nx (a_call (gN rfl) rfl rfl rfl rfl rfl (sa)) rfl ?_)
      (refine nx (a_lss (gN rfl) rfl rfl rfl rfl rfl rfl) rfl ?_)
      (refine nx (aM (gN rfl) rfl rfl rfl rfl rfl) rfl ?_)
      (refine nx (aM (gd_on rfl rfl rfl rfl (by first | rfl | assumption | (simp; done))) rfl rfl rfl rfl rfl) rfl ?_)
      (refine nx (aM (gd_on rfl rfl rfl rfl (by first | rfl | assumption | (simp; done))) rfl rfl rfl rfl rfl) rfl ?_)
      (refine nx (a_index (j := k) (gd_on rfl rfl rfl rfl (by first | rfl | assumption | (simp; done))) rfl rfl rfl rfl rfl rfl rfl rfl rfl (hx') rfl (hsz)) rfl ?_)
      (refine nx (a_field_ad (gd_on rfl rfl rfl rfl (by first | rfl | assumption | (simp; done))) rfl rfl rfl rfl rfl rfl rfl rfl rfl rfl rfl) rfl ?_)
      (refine nx (a_load_ad (gd_on rfl rfl rfl rfl (by first | rfl | assumption | (simp; done))) rfl rfl rfl rfl rfl rfl rfl rfl rfl) rfl ?_)
      (refine nx (aM (gd_on rfl rfl rfl rfl (by first | rfl | assumption | (simp; done))) rfl rfl rfl rfl rfl) rfl ?_)
      (refine nx (a_call (gd_on rfl rfl rfl rfl (by first | rfl | assumption | (simp; done))) rfl rfl rfl rfl rfl (sb)) rfl ?_)
      (refine nx (a_lss (gd_on rfl rfl rfl rfl (by first | rfl | assumption | (simp; done))) rfl rfl rfl rfl rfl rfl) rfl ?_)
      (refine ⟨_, _, _, aPf (gN rfl) rfl rfl rfl rfl rfl ?hb rfl, rfl, ?_⟩; case hb => (first | rfl | assumption | (simp; done)))
      show AWp _ _ _ _ _ _ _
      refine aC rfl (fun hc2 => ?_) (fun hc2 => ?_)
      · have hb := of_decide_eq_true hc2
        rw [hno (by unfold finL; rw [show decide (0 ≤ smallT x.b size 8) = false by rw [decide_eq_false_iff_not]; omega]; simp)]
        refine aS (aR ?_)
        (refine nx (aA (gN rfl) rfl rfl rfl rfl rfl) rfl ?_)
        show AWp _ _ _ _ _ _ _
        exact aT (And.intro (.inr rfl) rfl)
      · have hb := of_decide_eq_false hc2
        refine aK ?_
        show AWp _ _ _ _ _ _ _
        refine aR ?_
        (refine nx (aM (gN rfl) rfl rfl rfl rfl rfl) rfl ?_)
        (refine nx (a_add (gN rfl) rfl rfl rfl rfl rfl rfl (by first | omega | (simp only [List.length_map, List.length_append, List.length_cons, List.length_nil] <;> omega) | (simp <;> omega))) rfl ?_)
        (refine nx (aA (gN rfl) rfl rfl rfl rfl rfl) rfl ?_)
        refine ⟨hkl, ?_, wk_sub ⟨rfl, rfl, rfl, trivial⟩⟩
        intro y hy
        rw [List.take_add_one, hx, List.mem_append] at hy
        rcases hy with hy | hy
        · exact hI y hy
        · simp at hy
          rw [hy]
          unfold finL
          rw [show decide (0 ≤ smallT x.a size 8) = true by rw [decide_eq_true_eq]; omega, show decide (0 ≤ smallT x.b size 8) = true by rw [decide_eq_true_eq]; omega]
          rfl
  · have hkl : k = c.length := by
      have : ¬ k < c.length := by simpa using hlt
      omega
    subst hkl
    rw [List.take_length] at hI
    have hyes : fineC c most size = true := by
      unfold fineC
      rw [show decide (c.length ≤ most) = true by simpa using hl, Bool.true_and]
      exact List.all_eq_true.2 hI
    rw [hyes]
    refine aE ?_
    show AWp _ _ _ _ _ _ _
    refine aS (aR ?_)
    (refine nx (aA (gN rfl) rfl rfl rfl rfl rfl) rfl ?_)
    show AWp _ _ _ _ _ _ _
    exact aT (And.intro (.inr rfl) rfl)
theorem fineC_facts {c : List Lt} {most : Nat} {size : Int} (h0 : 0 ≤ size) (h1 : size ≤ 60) (h : fineC c most size = true) : c.length ≤ most ∧ ∀ l ∈ c, ((l.a.sm ∧ l.a.rng ∧ l.a.ok) ∧ (l.a.wt : Int) ≤ size ∧ (l.a.size : Int) ≤ size) ∧ ((l.b.sm ∧ l.b.rng ∧ l.b.ok) ∧ (l.b.wt : Int) ≤ size ∧ (l.b.size : Int) ≤ size) := by
  unfold fineC at h
  rw [Bool.and_eq_true, decide_eq_true_eq] at h
  refine ⟨h.1, fun l hl => ?_⟩
  have hf := List.all_eq_true.1 h.2 l hl
  unfold finL at hf
  rw [Bool.and_eq_true, decide_eq_true_eq, decide_eq_true_eq] at hf
  have key : ∀ t : Tm, 0 ≤ smallT t size 8 → (t.sm ∧ t.rng ∧ t.ok) ∧ (t.wt : Int) ≤ size ∧ (t.size : Int) ≤ size := fun t ht => by
    have hsm := small_sm t _ _ ht
    have hwt : (t.wt : Int) ≤ size := by have := (small_bounds t size 8 h0).2.2 ht; omega
    have := t.size_wt
    exact ⟨⟨hsm, Tm.sm_rng hsm, Tm.wt_ok (t := t) (by omega)⟩, hwt, by omega⟩
  exact ⟨key _ hf.1, key _ hf.2⟩
-- 
set_option maxHeartbeats 1000000 in
theorem of11I_abs (W : World) (c : List Lt) (hl : c.length ≤ 1000000) (hc : ∀ l ∈ c, l.a.ok ∧ l.b.ok) : AFun Tryz.prog W 9 [.lst (c.map Lt.cv)] (.val (.lst ((c.map id).map Lt.cv))) := by
  have hsz := Lt.size_all c
  refine afun_of (rs := [.lst ((c.map id).map Lt.cv)]) Tryz.func9 Tryz.ntmps9 rfl rfl rfl rfl ?_
  intro w U hW
  refine aS (aR ?_)
  (refine nx (aA (gN rfl) rfl rfl rfl rfl rfl) rfl ?_)
  show AWp _ _ _ _ _ _ _
  refine aS (aR ?_)
  (refine nx (aA (gN rfl) rfl rfl rfl rfl rfl) rfl ?_)
  show AWp _ _ _ _ _ _ _
  refine aS (aS (aR ?_))
  (refine nx (aA (gN rfl) rfl rfl rfl rfl rfl) rfl ?_)
  show AWp _ _ _ _ _ _ _
  refine aB (awp_count c.length (fun k => [(0, .val (.lst (c.map Lt.cv))), (3, .own (.lst (((c.take k).map id).map Lt.cv)) 200031), (200031, .tok 63 5), (4, .val (.i k))]) ((wk_nil 3 200031 63 5 rfl rfl rfl rfl rfl rfl rfl).trans (wk_sub ⟨rfl, rfl, rfl, rfl, trivial⟩)) ?_)
  intro k hk
  have hks := Lt.size_all ((c.take k).map id)
  refine aS (aS (aR ?_))
  (refine nx (aM (gN rfl) rfl rfl rfl rfl rfl) rfl ?_)
  (refine nx (aM (gN rfl) rfl rfl rfl rfl rfl) rfl ?_)
  (refine nx (a_len (gN rfl) rfl rfl rfl rfl rfl rfl rfl) rfl ?_)
  (refine nx (a_lss (gN rfl) rfl rfl rfl rfl rfl rfl) rfl ?_)
  show AWp _ _ _ _ _ _ _
  refine aC rfl (fun hlt => ?_) (fun hlt => ?_)
  · have hkl : k < c.length := by simpa using hlt
    obtain ⟨x, hx⟩ : ∃ x, c[k]? = some x := ⟨c[k], List.getElem?_eq_getElem hkl⟩
    have hx' := Lt.map_at hx
    have hxm := List.mem_of_getElem? hx
    have hkn : (((c.take k).map id).map Lt.cv).length ≤ 1000000 := by rw [List.length_map, List.length_map, List.length_take]; omega
    refine aK ?_
    show AWp _ _ _ _ _ _ _
    refine aS (aB (aD (by kernel_rfl) (by kernel_rfl) ?_))
    (refine nx (aM (gN rfl) rfl rfl rfl rfl rfl) rfl ?_)
    (refine nx (aM (gN rfl) rfl rfl rfl rfl rfl) rfl ?_)
    (refine nx (aM (gN rfl) rfl rfl rfl rfl rfl) rfl ?_)
    (refine nx (a_index (j := k) (gN rfl) rfl rfl rfl rfl rfl rfl rfl rfl rfl (hx') rfl (hsz)) rfl ?_)
    (refine nx (a_field_ad (gN rfl) rfl rfl rfl rfl rfl rfl rfl rfl rfl rfl rfl) rfl ?_)
    (refine nx (a_load_ad (gN rfl) rfl rfl rfl rfl rfl rfl rfl rfl rfl) rfl ?_)
    (refine nx (aM (gN rfl) rfl rfl rfl rfl rfl) rfl ?_)
    (refine nx (aM (gN rfl) rfl rfl rfl rfl rfl) rfl ?_)
    (refine nx (a_index (j := k) (gN rfl) rfl rfl rfl rfl rfl rfl rfl rfl rfl (hx') rfl (hsz)) rfl ?_)
    (refine nx (a_field_ad (gN rfl) rfl rfl rfl rfl rfl rfl rfl rfl rfl rfl rfl) rfl ?_)
    (refine nx (a_load_ad (gN rfl) rfl rfl rfl rfl rfl rfl rfl rfl rfl) rfl ?_)
    (refine nx (a_call (gN rfl) rfl rfl rfl rfl rfl (of_abs w x.a (hc x hxm).1)) rfl ?_)
    (refine nx (aM (gN rfl) rfl rfl rfl rfl rfl) rfl ?_)
    (refine nx (aM (gN rfl) rfl rfl rfl rfl rfl) rfl ?_)
    (refine nx (a_index (j := k) (gN rfl) rfl rfl rfl rfl rfl rfl rfl rfl rfl (hx') rfl (hsz)) rfl ?_)
    (refine nx (a_field_ad (gN rfl) rfl rfl rfl rfl rfl rfl rfl rfl rfl rfl rfl) rfl ?_)
    (refine nx (a_load_ad (gN rfl) rfl rfl rfl rfl rfl rfl rfl rfl rfl) rfl ?_)
    (refine nx (a_call (gN rfl) rfl rfl rfl rfl rfl (of_abs w x.b (hc x hxm).2)) rfl ?_)
    (refine nx (a_build (gN rfl) rfl rfl rfl rfl rfl rfl rfl rfl rfl rfl rfl) rfl ?_)
    (refine nx (a_bslice (gN rfl) rfl rfl rfl rfl rfl rfl rfl rfl rfl rfl rfl rfl rfl) rfl ?_)
    (refine nx (a_app (gN rfl) rfl rfl rfl rfl rfl rfl rfl rfl rfl rfl rfl rfl rfl rfl rfl (by first | assumption | exact sZ rfl | exact Tm.size_all _ | exact Bd.size_all _ | exact ints_size _ | exact bys_size _ | exact Lt.size_all _) (by first | assumption | exact sZ rfl | exact Tm.size_all _ | exact Bd.size_all _ | exact ints_size _ | exact bys_size _ | exact Lt.size_all _) (by first | omega | (simp only [List.length_map, List.length_append, List.length_cons, List.length_nil] <;> omega) | (simp <;> omega))) rfl ?_)
    (refine nx (aA (gN rfl) rfl rfl rfl rfl rfl) rfl ?_)
    refine ⟨by kernel_rfl, ?_⟩
    show AWp _ _ _ _ _ _ _
    refine aR ?_
    (refine nx (aM (gN rfl) rfl rfl rfl rfl rfl) rfl ?_)
    (refine nx (a_add (gN rfl) rfl rfl rfl rfl rfl rfl (by first | omega | (simp only [List.length_map, List.length_append, List.length_cons, List.length_nil] <;> omega) | (simp <;> omega))) rfl ?_)
    (refine nx (aA (gN rfl) rfl rfl rfl rfl rfl) rfl ?_)
    refine ⟨hkl, Wk.trans (wk_sub (s' := [(0, .val (.lst (c.map Lt.cv))), (3, .own (.lst (((c.take (k + 1)).map id).map Lt.cv)) 300031), (300031, .tok 63 5), (4, .val (.i ((k + 1 : Nat) : Int)))]) ⟨rfl, ?_, rfl, rfl, trivial⟩) (wk_ren 300031 200031 rfl rfl rfl rfl)⟩
    rw [List.take_add_one, hx, List.map_append, List.map_append]
    rfl
  · have hkl : k = c.length := by
      have : ¬ k < c.length := by simpa using hlt
      omega
    subst hkl
    rw [List.take_length]
    refine aE ?_
    show AWp _ _ _ _ _ _ _
    refine aS (aR ?_)
    (refine nx (aM (gN rfl) rfl rfl rfl rfl rfl) rfl ?_)
    (refine nx (aA (gN rfl) rfl rfl rfl rfl rfl) rfl ?_)
    show AWp _ _ _ _ _ _ _
    exact aT (And.intro (.inr rfl) rfl)
theorem of11_abs (W : World) (c : List Lt) (hl : c.length ≤ 1000000) (hc : ∀ l ∈ c, l.a.ok ∧ l.b.ok) : AFun Tryz.prog W 9 [.lst (c.map Lt.cv)] (.val (.lst (c.map Lt.cv))) := by
  have := of11I_abs W c hl hc
  rw [List.map_id] at this
  exact this
def sameL (x y : Lt) : Bool := (x.neg == y.neg) && (sameT x.a y.a && sameT x.b y.b)
def sameC : List Lt → List Lt → Bool
  | [], [] => true
  | x :: l, y :: m => sameL x y && sameC l m
  | _, _ => false
theorem nv_len (t : Tm) : t.nv.length ≤ t.size := by
  have h : ∀ l : List Int, (nub l).length ≤ l.length := by
    intro l
    induction l using snoc_ind with
    | h0 => exact Nat.le_refl _
    | h1 l x ih => rw [nub_snoc]; split <;> simp <;> omega
  refine Nat.le_trans (h t.vs) ?_
  unfold Tm.vs vsL Tm.size
  rw [List.length_map]
  exact List.length_filter_le _ _
theorem zip_at {a b : List Int} {k : Nat} {v u : Int} (h1 : a[k]? = some v) (h2 : b[k]? = some u) : (zipB a b)[k]? = some ⟨v, varT u⟩ := by
  unfold zipB
  rw [List.getElem?_zipWith, h1, h2]
theorem zip_len {a b : List Int} (h : a.length = b.length) : (zipB a b).length = a.length := by
  unfold zipB
  rw [List.length_zipWith]; omega
theorem zip_mem {a b : List Int} {x : Bd} (h : x ∈ zipB a b) : ∃ u ∈ b, x.t = varT u := by
  unfold zipB at h
  obtain ⟨i, hi, e⟩ := List.mem_iff_getElem.1 h
  rw [List.getElem_zipWith] at e
  exact ⟨_, List.getElem_mem _, by rw [← e]⟩

def alikeB (p q : List Bd) (l : List Int) : Bool := l.all fun v => sameT (imgB p v) (imgB q v)
end Go.Proofs.YtmeegdomncadpaaGreat
namespace Go.Proofs.YtmeegdomncadpaaGreat
open Go.RowKit
set_option linter.unusedVariables false
set_option linter.unusedSimpArgs false
def lkT (t : Tm) : Tm := repT (fun _ => varT 0) t
def lkL (l : Lt) : Lt := Lt.rep (fun _ => varT 0) l
structure Sn where
  lit : Lt
  look : Lt
def trnS (l k : Lt) : Sn := if 0 ≤ cmpT k.a k.b then ⟨l, k⟩ else ⟨othL l, othL k⟩
def cmpSn (x y : Sn) : Int := cmpLt x.look y.look
def ltSn (x y : Sn) : Bool := decide (cmpSn x y < 0)
def inL (c : List Lt) : List Lt := (srtD ltSn (c.map fun l => trnS l (lkL l))).map Sn.lit
def sidT (c : List Lt) : Tm := ⟨0, sidL c⟩
def numB (c : List Lt) : List Bd := zipB (sidT c).nv (nums (sidT c).nv.length)
def nmP (c : List Lt) : List Lt := wdL ((inL c).map (Lt.rep (imgB (numB (inL c)))))
def rtL (l : Lt) : Lt := if cmpT (lkT l.a) (lkT l.b) < 0 then othL l else l
def befL (x y : Lt) : Bool := decide (cmpLt (lkL x) (lkL y) < 0)
def inD (c : List Lt) : List Lt := srtD befL (c.map rtL)
theorem trnS_lit (l : Lt) : (trnS l (lkL l)).lit = rtL l := by
  unfold trnS rtL
  show (if 0 ≤ cmpT (lkT l.a) (lkT l.b) then (⟨l, lkL l⟩ : Sn) else ⟨othL l, othL (lkL l)⟩).lit = _
  by_cases h : cmpT (lkT l.a) (lkT l.b) < 0
  · rw [if_neg (by omega), if_pos h]
  · rw [if_pos (by omega), if_neg h]
theorem trnS_look (l : Lt) : (trnS l (lkL l)).look = lkL (trnS l (lkL l)).lit := by
  unfold trnS
  split <;> rfl
theorem inL_eq (c : List Lt) : inL c = inD c := by
  unfold inL inD
  rw [srtD_map (lt2 := befL) Sn.lit, List.map_map]
  · congr 1
    exact List.map_congr_left fun l _ => trnS_lit l
  · intro x hx y hy
    obtain ⟨l, _, rfl⟩ := List.mem_map.1 hx
    obtain ⟨m, _, rfl⟩ := List.mem_map.1 hy
    unfold ltSn befL cmpSn
    rw [trnS_look, trnS_look]
theorem inD_len (c : List Lt) : (inD c).length = c.length := by
  unfold inD
  rw [(srtD_perm _ _).length_eq, List.length_map]
theorem inD_mem {c : List Lt} {x : Lt} : x ∈ inD c ↔ ∃ l ∈ c, rtL l = x := by
  unfold inD
  rw [(srtD_perm _ _).mem_iff, List.mem_map]
theorem rtL_or (l : Lt) : rtL l = l ∨ rtL l = othL l := by
  unfold rtL
  split
  · exact .inr rfl
  · exact .inl rfl
def whlL (l : Lt) : Tm := ⟨sgZ l.neg, [l.a, l.b]⟩
def whlT (c : List Lt) : Tm := ⟨0, c.map whlL⟩
theorem sid_vs (c : List Lt) : (sidT c).vs = c.flatMap fun l => l.a.vs ++ l.b.vs := by
  unfold sidT
  rw [Tm.vs_sym (show ¬ (0 : Int) < 0 by decide)]
  show (sidL c).flatMap Tm.vs = _
  induction c with
  | nil => rfl
  | cons l c ih =>
    show (l.a :: l.b :: sidL c).flatMap Tm.vs = _
    rw [List.flatMap_cons, List.flatMap_cons, List.flatMap_cons, ih, List.append_assoc]
theorem mem_sid_vs {c : List Lt} {l : Lt} (h : l ∈ c) {v : Int} (hv : v ∈ l.a.vs ∨ v ∈ l.b.vs) : v ∈ (sidT c).nv := by
  unfold Tm.nv
  rw [mem_nub, sid_vs, List.mem_flatMap]
  exact ⟨l, h, List.mem_append.2 hv⟩
def appL (s : List Bd) (l : Lt) : Lt := ⟨l.neg, appR s l.a, appR s l.b⟩
def nmD (c : List Lt) : List Lt := dedD sameL ((inD c).map (appL (numB (inD c))))
theorem dedD_mem {α : Type} {q : α → α → Bool} {c : List α} {x : α} (h : x ∈ dedD q c) : x ∈ c := by
  induction c using snoc_all with
  | h0 => cases h
  | h1 c y ih =>
    rw [dedD_snoc] at h
    split at h
    · exact List.mem_append_left _ (ih h)
    · rcases List.mem_append.1 h with h | h
      · exact List.mem_append_left _ (ih h)
      · exact List.mem_append_right _ h
theorem dedD_len {α : Type} {q : α → α → Bool} (c : List α) : (dedD q c).length ≤ c.length := by
  induction c using snoc_all with
  | h0 => exact Nat.le_refl _
  | h1 c y ih =>
    rw [dedD_snoc]
    split
    · rw [List.length_append]; omega
    · rw [List.length_append, List.length_append]; omega
theorem dedD_rep {q : Lt → Lt → Bool} (hq : ∀ x, q x x = true) {c : List Lt} {x : Lt} (h : x ∈ c) : ∃ y ∈ dedD q c, q y x = true := by
  induction c using snoc_all with
  | h0 => cases h
  | h1 c z ih =>
    rw [dedD_snoc]
    rcases List.mem_append.1 h with h | h
    · obtain ⟨y, hy, e⟩ := ih h
      split
      · exact ⟨y, hy, e⟩
      · exact ⟨y, List.mem_append_left _ hy, e⟩
    · rw [List.mem_singleton.1 h]
      split
      · rename_i ha
        obtain ⟨y, hy, e⟩ := List.any_eq_true.1 ha
        exact ⟨y, hy, e⟩
      · exact ⟨z, by simp, hq z⟩
-- Variants.
def vntC (c d : List Lt) : Bool := decide (c.map Lt.neg = d.map Lt.neg) && vntB (sidT c) (sidT d)
end Go.Proofs.YtmeegdomncadpaaGreat
