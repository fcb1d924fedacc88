/-
  A loop over an iterator whose body only collects: what the iterator hands over is told to the body (Ok), the body never leaves early: no function of the program is named here.
-/
import Derived.RangeFuncNested
import Derived.RangeFuncBound
import Derived.RangeFuncCalls
import Derived.RangeFuncLeaves
import Derived.RangeFuncBox
import Derived.Shelf.Abstract
import Derived.Shelf.RegionOpen
import Derived.WalkKit
import Derived.OwnWalkIn
import Derived.TacticsInMore
import Derived.LoopNIn
import Derived.LoopIn
namespace Go.Proofs.Ytmdhefepaolhcaa
open Go.RowKit
set_option linter.unusedVariables false

variable {α : Type} {P : Program}

/-- The function value (gf, lb) hands over a list of which S holds: each x is Ok where it is handed over, if every round keeps what Kp tells. -/
def Gives (P : Program) (gf : Nat) (lb : Array Value) (encs : α → Array Value) (Ok : List α → α → World → Prop) (Kp : World → World → Prop) (S : List α → Prop) (w : World) : Prop :=
  ∀ (l : Nat) (J : List α → World → Prop) (W : World), Below w.heap.size w W → (∀ pre A B, J pre A → Below A.heap.size A B → J pre B) →
    (∀ pre x V, J pre V → Ok pre x V → YieldAt Fence.wide 1 P l (encs x) V fun e V' => e = .returned (.bool true) ∧ J (pre ++ [x]) V' ∧ Kp V V') →
    J [] W → CallsIn Fence.wide 2 P gf (#[.func (.yield l) #[] #[]] ++ lb) W fun e W' => (∃ v, e = .returned v) ∧ ∃ xs, S xs ∧ J xs W'

/-- A round that falls off its end. -/
def collPost (Kp : World → World → Prop) (I : World → Prop) (W : World) : Exit → Act → World → Prop
  | .normal, _, W' => KeepsOthers W W' ∧ Kp W W' ∧ I W'
  | _, _, _ => False

/-- The record of a loop. -/
def recOf (fn : FuncId) (tmps : Array Value) (ps : Array Tmp) (assign body : Code) (D : Nat) (st : LoopState) : Loop :=
  { state := st, pending := none, fn := fn, tmps := tmps, params := ps, assign := assign, body := body, defers := D }

theorem wp_collect {g : Operand} {ps : Array Tmp} {assign body : Code} {Q : Exit → Act → World → Prop} {a : Act} {w : World} {gf : Nat} {lb : Array Value}
    (hg : a.eval g = .func (.func gf) #[] lb) (eg : ∀ args w, (callFunc gf args).run P w = .ok (.enter gf args) w)
    {encs : α → Array Value} {Ok : List α → α → World → Prop} {Kp : World → World → Prop} {S : List α → Prop} (hseq : Gives P gf lb encs Ok Kp S w)
    (hKt : ∀ {A B C : World}, Kp A B → Kp B C → Kp A C)
    (hKb : ∀ (W : World) (l : Nat) (o o' : Obj), w.heap.size ≤ l → W.heap[l]? = some o → o.isCells = false → Kp W (W.putObj l o'))
    (hOk : ∀ (pre : List α) (x : α) (W : World) (l : Nat) (o o' : Obj), Ok pre x W → W.heap[l]? = some o → o.isCells = false → Ok pre x (W.putObj l o'))
    (hps : ∀ x, (encs x).size = ps.size) (I : List α → World → Prop) (hI : ∀ pre A B, I pre A → Below A.heap.size A B → I pre B)
    (hIp : ∀ (pre : List α) (A : World) (l : Nat) (o o' : Obj), I pre A → w.heap.size ≤ l → A.heap[l]? = some o → o.isCells = false → I pre (A.putObj l o'))
    (h0 : I [] w) (a₁ : α → Act)
    (hassign : ∀ (l : Nat) (x : α) (W : World) (K : Act → World → Prop), K (a₁ x) W →
      assign.wpIn (Fence.wide.inRound l) 1 P (Exit.then K (fun _ _ _ => False)) { tmps := (ps.zip (encs x)).foldl (fun t (p, v) => t.setIfInBounds p v) a.tmps, defers := [] } W)
    (hbody : ∀ (l : Nat) (pre : List α) (x : α) (W : World), I pre W → Ok pre x W → body.wpIn (Fence.wide.inRound l) 1 P (collPost Kp (I (pre ++ [x])) W) (a₁ x) W)
    (hdone : ∀ (D : Nat) (xs : List α) (W : World), w.heap.size ≤ D → S xs → I xs W → W.heap[D]? = some (.deferred (some [])) → Q .normal { a with defers := { target := .collected D, args := #[] } :: a.defers } W) :
    (Code.rangeFunc g ps assign body).wpIn Fence.wide 3 P Q a w := by
  refine wpIn_rangeFunc fun fn hfn => ?_
  -- the two blocks that the statement lays: D for deferred calls, L the record
  have hD : ∃ D, D = w.heap.size := ⟨_, rfl⟩
  obtain ⟨D, hD⟩ := hD
  obtain ⟨W1, hW1⟩ : ∃ W1, W1 = (w.alloc (.deferred (some []))).alloc (.loop (recOf fn a.tmps ps assign body D .ready)) := ⟨_, rfl⟩
  have below1 : Below w.heap.size w W1 := by rw [hW1]; exact ((Below.refl _ w).alloc (Nat.le_refl _) _).alloc (by simp) _
  have atL : W1.heap[D + 1]? = some (.loop (recOf fn a.tmps ps assign body D .ready)) := by
    have := World.alloc_heap_new (w.alloc (.deferred (some []))) (.loop (recOf fn a.tmps ps assign body D .ready))
    rw [World.size_alloc, ← hD, ← hW1] at this
    exact this
  have atD : W1.heap[D]? = some (.deferred (some [])) := by
    have h := World.alloc_heap_new w (.deferred (some []))
    rw [← hD] at h
    rw [hW1, Below.heap_alloc _ _ _ (by simp; omega)]
    exact h
  refine ⟨D + 1, [{ target := .collected D, args := #[] }], W1, { target := .fn (.func gf) lb, args := #[.func (.yield (D + 1)) #[] #[]] }, W1, gf, #[.func (.yield (D + 1)) #[] #[]] ++ lb, W1, ?_, ?_, fun _ _ => trivial, ?_, (fun _ => by omega), ?_⟩
  · rw [hW1, hD]; exact run_enterLoop_outer _ _ _ _ _
  · simp only [resolve, hg]
    simp [go_sem]
  · simp [invoke, go_sem, eg]
  refine (hseq (D + 1) (fun pre V => I pre V ∧ V.heap[D + 1]? = some (.loop (recOf fn a.tmps ps assign body D .ready)) ∧ V.heap[D]? = some (.deferred (some []))) W1 below1 ?abides ?rounds ⟨hI _ _ _ h0 below1, atL, atD⟩).mono ?after
  case abides =>
    rintro pre A B ⟨h1, h2, h3⟩ hb
    exact ⟨hI _ _ _ h1 hb, (hb.block _ (Array.getElem?_eq_some_iff.1 h2).1).trans h2, (hb.block _ (Array.getElem?_eq_some_iff.1 h3).1).trans h3⟩
  case rounds =>
    rintro pre x V ⟨h1, h2, h3⟩ hx
    have hlt := (Array.getElem?_eq_some_iff.1 h2).1
    have hy := run_yield (P := P) (args := encs x) h2 (hps x)
    refine ⟨fn, _, assign, body, hy, roundIn_of_wpIn hfn (hassign _ x V _ ⟨_, run_beginRound h2 rfl, ?_⟩)⟩
    have hDL : w.heap.size ≤ D + 1 := by omega
    have b2 : (V.putObj (D + 1) (.loop (recOf fn a.tmps ps assign body D .busy))).heap[D + 1]? = some (.loop (recOf fn a.tmps ps assign body D .busy)) := World.putObj_heap_same hlt
    have b3 : (V.putObj (D + 1) (.loop (recOf fn a.tmps ps assign body D .busy))).heap[D]? = some (.deferred (some [])) := (World.putObj_heap_other (by omega)).trans h3
    refine wpIn_mono (hbody _ pre x (V.putObj (D + 1) (.loop (recOf fn a.tmps ps assign body D .busy))) (hIp _ _ _ _ _ h1 hDL h2 rfl) (hOk _ _ _ _ _ _ hx h2 rfl)) ?_
    rintro e a3 U hp
    cases e with
    | normal =>
      obtain ⟨k1, k2, k3⟩ := hp
      have u2 := k1.same _ _ b2 rfl
      have u3 := k1.same _ _ b3 rfl
      have hr := run_endRound (P := P) none u2
      refine ⟨_, _, hr, rfl, ⟨hIp _ _ _ _ _ k3 hDL u2 rfl, World.putObj_heap_same (Array.getElem?_eq_some_iff.1 u2).1, (World.putObj_heap_other (by omega)).trans u3⟩, ?_⟩
      exact hKt (hKt (hKb _ _ _ _ hDL h2 rfl) k2) (hKb _ _ _ _ hDL u2 rfl)
    | ret => exact hp.elim
    | exit _ => exact hp.elim
    | goto _ => exact hp.elim
    | panic _ => exact hp.elim
    | outgrown => exact hp.elim
  case after =>
    rintro e V ⟨⟨v, rfl⟩, xs, hS, h1, h2, h3⟩
    exact ⟨none, _, run_endLoop (P := P) h2 (by simp [recOf]), hdone D xs _ (by omega) hS (hIp _ _ _ _ _ h1 (by omega) h2 rfl) ((World.putObj_heap_other (by omega)).trans h3)⟩
end Go.Proofs.Ytmdhefepaolhcaa
