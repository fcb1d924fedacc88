/-
  FrRange TmIter TmCount TmApp TmClone TmConcat TmPlaces TmVars TmOf TmFine AbBr SbMath AbOff AbObj AbCall AbObj2 AbFld AbMap AbFull AbArr SbFns SbApply SbVars TmSm SbSmall TmOrd RfSame RfLess RfFlat RfVars AbOf SbVnt SbRen SbSort
-/
import Derived.Test.YtgmllfjidhbjjabMg1
import Derived.RangeFuncNested
import Derived.RangeFuncBound
import Derived.RangeFuncCalls
import Derived.RangeFuncLeaves
import Derived.RangeFuncBox
import Derived.Shelf.Abstract
import Derived.Shelf.RegionOpen
import Derived.WalkKit
import Derived.OwnWalkIn
import Derived.TacticsInMore
import Derived.LoopNIn
import Derived.LoopIn
import Derived.RangeFuncWrites
import Derived.Maps.AppendAt
import Derived.Lib.AppendZeros
import Derived.Maps.OwnIn
import Derived.Maps.OwnSet
import Derived.Maps.Views
import Derived.Deep.RegionLaw
import Derived.MapKept
import Derived.Laws.NewFold
namespace Go.Proofs.Ytgmllfjidhbjjab
open Go.RowKit
set_option linter.unusedVariables false

variable {α : Type} {P : Program}

/-- The function value (gf, lb) hands over a list of which S holds: each x is Ok where it is handed over, if every round keeps what Kp tells. -/
def Gives (P : Program) (gf : Nat) (lb : Array Value) (encs : α → Array Value) (Ok : List α → α → World → Prop) (Kp : World → World → Prop) (S : List α → Prop) (w : World) : Prop :=
  ∀ (l : Nat) (J : List α → World → Prop) (W : World), Below w.heap.size w W → (∀ pre A B, J pre A → Below A.heap.size A B → J pre B) →
    (∀ pre x V, J pre V → Ok pre x V → YieldAt Fence.wide 1 P l (encs x) V fun e V' => e = .returned (.bool true) ∧ J (pre ++ [x]) V' ∧ Kp V V') →
    J [] W → CallsIn Fence.wide 2 P gf (#[.func (.yield l) #[] #[]] ++ lb) W fun e W' => (∃ v, e = .returned v) ∧ ∃ xs, S xs ∧ J xs W'

/-- A round that falls off its end. -/
def collPost (Kp : World → World → Prop) (I : World → Prop) (W : World) : Exit → Act → World → Prop
  | .normal, _, W' => KeepsOthers W W' ∧ Kp W W' ∧ I W'
  | _, _, _ => False

/-- The record of a loop. -/
def recOf (fn : FuncId) (tmps : Array Value) (ps : Array Tmp) (assign body : Code) (D : Nat) (st : LoopState) : Loop :=
  { state := st, pending := none, fn := fn, tmps := tmps, params := ps, assign := assign, body := body, defers := D }

end Go.Proofs.Ytgmllfjidhbjjab


namespace Go.Proofs.Ytgmllfjidhbjjab
open Go.RowKit Go.Shelf
set_option linter.unusedVariables false
attribute [local go_sem] Oper.semAt_some

/-- A term as it is handed over. -/
structure Tr where
  t : Tm
  a : Option Addr
  n : Nat
  c : Nat
def Tr.v (x : Tr) : Value := .agg #[.int .i64 x.t.f, .slice x.a x.n x.c]
def Tr.ok (n₀ : Nat) (x : Tr) (V : World) : Prop := Tat (· < n₀) V x.t x.a x.n x.c

/-- What a round keeps: all below n₀, and all blocks of terms. -/
def KpT (n₀ : Nat) (V V' : World) : Prop := Below n₀ V V' ∧ ∀ (g : Nat) cs fl, V.heap[g]? = some (Obj.cells cs 38 fl) → V'.heap[g]? = some (Obj.cells cs 38 fl)

theorem KpT.refl (n₀ : Nat) (V : World) : KpT n₀ V V := ⟨Below.refl _ _, fun _ _ _ h => h⟩
theorem KpT.trans {n₀ : Nat} {A B C : World} (h : KpT n₀ A B) (k : KpT n₀ B C) : KpT n₀ A C := ⟨h.1.trans k.1, fun g cs fl e => k.2 g cs fl (h.2 g cs fl e)⟩
theorem KpT.of_below {n₀ : Nat} {A B : World} (hn : n₀ ≤ A.heap.size) (h : Below A.heap.size A B) : KpT n₀ A B := ⟨h.mono hn, fun g cs fl e => by
  rw [h.block g (Array.getElem?_eq_some_iff.1 e).1]; exact e⟩

theorem cell_box {w : World} {b : Nat} {x y : Value} {t : TypeId} {fl : Nat × Nat} (h : w.heap[b]? = some (.cells #[x, y] t fl)) : w.cell? ⟨b, 0, none⟩ = some x ∧ w.cell? ⟨b, 1, none⟩ = some y := by
  constructor <;> simp [World.cell?, h]

theorem yieldAt_any {m : Nat} (m' : Nat) {P : Program} {l : Nat} {args : Array Value} {W : World} {R : Ending → World → Prop} (h : YieldAt Fence.wide m P l args W R) : YieldAt Fence.wide m' P l args W R := by
  obtain ⟨fn, tmps, assign, body, hy, hR⟩ := h
  exact ⟨fn, tmps, assign, body, hy, hR.1, fun c cs _ => hR.2 c cs (fun d h => by cases h)⟩

set_option maxRecDepth 100000 in
set_option maxHeartbeats 2000000 in
theorem walk_in (l n₀ N : Nat) (J : List Tr → World → Prop) (hJ : ∀ pre A B, J pre A → Below A.heap.size A B → J pre B)
    (hY : ∀ m pre (x : Tr) V, J pre V → x.ok n₀ V ∧ pre.length < N → YieldAt Fence.wide m Try.prog l #[x.v] V fun e V' => e = .returned (.bool true) ∧ J (pre ++ [x]) V' ∧ KpT n₀ V V') (t : Tm) :
    ∀ (d : Nat) (a : Option Addr) (n c : Nat) (pre : List Tr) (W : World), Tat (· < n₀) W t a n c → n₀ ≤ W.heap.size → J pre W → pre.length + t.size ≤ N →
      CallsIn Fence.wide d Try.prog 69 #[.agg #[.int .i64 t.f, .slice a n c], .func (.yield l) #[] #[]] W fun e W' => e = .returned (.bool true) ∧ ∃ xs : List Tr, xs.map Tr.t = t.flat ∧ J (pre ++ xs) W' ∧ KpT n₀ W W' := by
  induction t using Tm.indp with
  | h t ih =>
    intro d a n c pre W ht hn hpre hN
    have hs1 := t.size_pos
    have hdd : ∀ k : Nat, (Fence.wide.depth.isSome = true → 1 ≤ k) := fun k h => by cases h
    obtain ⟨W1, hW1⟩ : ∃ W1, W1 = W.alloc (.cells #[.int .i64 t.f, .slice a n c] 38) := ⟨_, rfl⟩
    have hb1 : Below W.heap.size W W1 := by rw [hW1]; exact bA (bW _) _
    have hbx : W1.heap[W.heap.size]? = some (.cells #[.int .i64 t.f, .slice a n c] 38 (0, 0)) := by rw [hW1]; exact World.alloc_heap_new _ _
    obtain ⟨c1, c2⟩ := cell_box hbx
    have ht1 : Tat (· < n₀) W1 t a n c := ht.bw hb1
    obtain ⟨fn, tmps, assign, body, hy, hR⟩ := hY (d - 1) pre ⟨t, a, n, c⟩ W1 (hJ _ _ _ hpre hb1) ⟨ht1, by omega⟩
    dsimp only [Tr.v] at hy
    have HW := hid hW1
    clear hW1
    refine callsIn_of_wp Try.func69 rfl trivial ?_ rfl
    simp only [Try.ntmps69, List.size_toArray, List.length_cons, List.length_nil, Nat.reduceAdd, Nat.reduceSub, Array.replicate_succ, Array.replicate_zero, List.push_toArray, List.append_toArray, List.nil_append, List.cons_append]
    rw [HW.out] at hy hR
    gi_wp2_with fail
    refine ⟨hdd _, hR.mono ?_⟩
    rw [← HW.out]
    rintro e W2 ⟨rfl, hJ2, hk2⟩
    obtain ⟨c1, c2⟩ := cell_box (hk2.2 _ _ _ hbx)
    have ht2 : Tat (· < n₀) W2 t a n c := ht1.below hk2.1 fun b h _ => h
    have hkk : KpT n₀ W W2 := (KpT.of_below hn hb1).trans hk2
    have hn2 : n₀ ≤ W2.heap.size := Nat.le_trans hn hkk.1.size
    gi_wp2_with (refine ⟨trivial, hdd _, ?_⟩; gi_at_call 65; refine (callsIn_wide.2 (parts_any ht2)).mono ?_; rintro e W3 ⟨hb3, a3, n3, c3, rfl, hl3⟩)
    have HL3 := hid hl3.len
    have hm3 : n3 ≤ 9223372036854775807 := by have := HL3.out; unfold maxLen at this; omega
    have hk3 : KpT n₀ W W3 := hkk.trans (KpT.of_below hn2 hb3)
    have hJ3 := hJ _ _ _ hJ2 hb3
    have HLs : Hid (∀ V, KpT n₀ W3 V → Las (· < n₀) V t.ps a3 n3 c3) := fun V h => hl3.below h.1 fun b hb _ => hb
    have hn3 : n₀ ≤ W3.heap.size := Nat.le_trans hn2 hb3.size
    have HN : Hid (pre.length + t.size ≤ N) := hN
    have HI := hid ih
    clear hl3 hJ2 hk2 hkk ht2 c1 c2 hb3 ih hN hY hy hR hbx ht1 hb1 ht
    gi_loopw [14] (fun i wr => ∃ (k : Nat) (xs : List Tr), i = .int .i64 (k : Int) ∧ k ≤ n3 ∧ xs.map Tr.t = t :: (t.ps.take k).flatMap Tm.flat ∧ J (pre ++ xs) wr ∧ KpT n₀ W3 wr) (fun i _ => n3 - (intOf i).toNat)
    case atStart => exact ⟨0, [⟨t, a, n, c⟩], rfl, by omega, by simp, hJ3, KpT.refl _ _⟩
    case round =>
      obtain ⟨k, xs, rfl, hk, hxs, hJr, hkr⟩ := hrel
      have HX := hid hxs
      clear hxs
      have hnr : n₀ ≤ wr.heap.size := Nat.le_trans hn3 hkr.1.size
      by_cases hlt : k < n3
      · obtain ⟨b, off, s, a', n', c', rfl, hU, hlt', hs, hT, e1, e2⟩ := (HLs.out wr hkr).at hlt
        have HS := hid hs
        clear hs
        have hb4 : Below wr.heap.size wr (wr.alloc (.cells #[.int .i64 s.f, .slice a' n' c'] 38)) := bA (bW _) _
        have HC : Hid (CallsIn Fence.wide (d - 1) Try.prog 69 #[.agg #[.int .i64 s.f, .slice a' n' c'], .func (.yield l) #[] #[]] (wr.alloc (.cells #[.int .i64 s.f, .slice a' n' c'] 38)) fun e W' => e = .returned (.bool true) ∧ ∃ ys : List Tr, ys.map Tr.t = s.flat ∧ J ((pre ++ xs) ++ ys) W' ∧ KpT n₀ (wr.alloc (.cells #[.int .i64 s.f, .slice a' n' c'] 38)) W') := by
          refine HI.out s (List.mem_of_getElem? HS.out) (d - 1) a' n' c' (pre ++ xs) _ (hT.bw hb4) (by simp; omega) (hJ _ _ _ hJr hb4) ?_
          have h1 := congrArg List.length HX.out
          simp only [List.length_map, List.length_cons] at h1
          rw [List.length_append, h1]
          have h2 := t.size_eq
          have h3 : (t.ps.flatMap Tm.flat).length = ((t.ps.take k).flatMap Tm.flat).length + (s.flat.length + ((t.ps.drop (k + 1)).flatMap Tm.flat).length) := by
            conv => lhs; rw [← List.take_append_drop k t.ps, drop_at HS.out, List.flatMap_append, List.flatMap_cons, List.length_append, List.length_append]
          have h4 := HN.out
          unfold Tm.size at *
          omega
        have HK5 : Hid (∀ V, KpT n₀ (wr.alloc (.cells #[.int .i64 s.f, .slice a' n' c'] 38)) V → KpT n₀ W3 V) := fun V h => (hkr.trans (KpT.of_below hnr hb4)).trans h
        gi_wp2_with (refine ⟨trivial, hdd _, ?_⟩; gi_at_call 69; refine HC.out.mono ?_; rintro e W4 ⟨rfl, ys, hys, hJ4, hk4⟩)
        go_roundw
        case rel =>
          refine ⟨k + 1, xs ++ ys, by go_num, by omega, ?_, by rw [← List.append_assoc]; exact hJ4, HK5.out _ hk4⟩
          rw [List.map_append, HX.out, hys, List.take_add_one, HS.out, List.flatMap_append]
          simp
        case measure => simp [intOf]; omega
      · gi_wp2
        go_ret
        refine ⟨rfl, xs, ?_, hJr, hk3.trans hkr⟩
        rw [HX.out, t.flat_eq, List.take_of_length_le (by have := HL3.out; omega)]
section
variable {α : Type} {P : Program}

/-- A round that falls off its end. -/
def collPostG (B : Nat) (Kp : World → World → Prop) (I : World → Prop) (W : World) : Exit → Act → World → Prop
  | .normal, _, W' => KeepsFrom B W W' ∧ Kp W W' ∧ I W'
  | _, _, _ => False

/-- The same where the loop's variable lies in a box of its own, a new one each round. -/
theorem wp_collectH {g : Operand} {ps : Array Tmp} {assign body : Code} {Q : Exit → Act → World → Prop} {a : Act} {w : World} {gf : Nat} {lb : Array Value}
    (hg : a.eval g = .func (.func gf) #[] lb) (eg : ∀ args w, (callFunc gf args).run P w = .ok (.enter gf args) w)
    {encs : α → Array Value} {Ok : List α → α → World → Prop} {Kp : World → World → Prop} {S : List α → Prop} (hseq : Gives P gf lb encs Ok Kp S w)
    (hKt : ∀ {A B C : World}, Kp A B → Kp B C → Kp A C)
    (hKb : ∀ (W : World) (l : Nat) (o o' : Obj), w.heap.size ≤ l → W.heap[l]? = some o → o.isCells = false → Kp W (W.putObj l o'))
    (hOk : ∀ (pre : List α) (x : α) (W : World) (l : Nat) (o o' : Obj), w.heap.size ≤ l → Ok pre x W → W.heap[l]? = some o → o.isCells = false → Ok pre x (W.putObj l o'))
    (hps : ∀ x, (encs x).size = ps.size) (I : List α → World → Prop) (hI : ∀ pre A B, I pre A → Below A.heap.size A B → I pre B)
    (hIp : ∀ (pre : List α) (A : World) (l : Nat) (o o' : Obj), I pre A → w.heap.size ≤ l → A.heap[l]? = some o → o.isCells = false → I pre (A.putObj l o'))
    (h0 : I [] w) (a₁ : α → Nat → Act) (ob : α → Obj) (hKa : ∀ (V : World) (x : α), w.heap.size ≤ V.heap.size → Kp V (V.alloc (ob x))) (hOka : ∀ (pre : List α) (x : α) (V : World), Ok pre x V → Ok pre x (V.alloc (ob x)))
    (hassign : ∀ (l : Nat) (x : α) (W : World) (K : Act → World → Prop), K (a₁ x W.heap.size) (W.alloc (ob x)) →
      assign.wpIn (Fence.wide.inRound l) 1 P (Exit.then K (fun _ _ _ => False)) { tmps := (ps.zip (encs x)).foldl (fun t (p, v) => t.setIfInBounds p v) a.tmps, defers := [] } W)
    (hbody : ∀ (l : Nat) (pre : List α) (x : α) (W : World) (b : Nat), w.heap.size ≤ b → W.heap[b]? = some (ob x) → I pre W → Ok pre x W → body.wpIn (Fence.wide.inRound l) 1 P (collPostG w.heap.size Kp (I (pre ++ [x])) W) (a₁ x b) W)
    (hdone : ∀ (D : Nat) (xs : List α) (W : World), w.heap.size ≤ D → S xs → I xs W → W.heap[D]? = some (.deferred (some [])) → Q .normal { a with defers := { target := .collected D, args := #[] } :: a.defers } W) :
    (Code.rangeFunc g ps assign body).wpIn Fence.wide 3 P Q a w := by
  refine wpIn_rangeFunc fun fn hfn => ?_
  -- the two blocks that the statement lays: D for deferred calls, L the record
  have hD : ∃ D, D = w.heap.size := ⟨_, rfl⟩
  obtain ⟨D, hD⟩ := hD
  obtain ⟨W1, hW1⟩ : ∃ W1, W1 = (w.alloc (.deferred (some []))).alloc (.loop (recOf fn a.tmps ps assign body D .ready)) := ⟨_, rfl⟩
  have below1 : Below w.heap.size w W1 := by rw [hW1]; exact ((Below.refl _ w).alloc (Nat.le_refl _) _).alloc (by simp) _
  have atL : W1.heap[D + 1]? = some (.loop (recOf fn a.tmps ps assign body D .ready)) := by
    have := World.alloc_heap_new (w.alloc (.deferred (some []))) (.loop (recOf fn a.tmps ps assign body D .ready))
    rw [World.size_alloc, ← hD, ← hW1] at this
    exact this
  have atD : W1.heap[D]? = some (.deferred (some [])) := by
    have h := World.alloc_heap_new w (.deferred (some []))
    rw [← hD] at h
    rw [hW1, Below.heap_alloc _ _ _ (by simp; omega)]
    exact h
  refine ⟨D + 1, [{ target := .collected D, args := #[] }], W1, { target := .fn (.func gf) lb, args := #[.func (.yield (D + 1)) #[] #[]] }, W1, gf, #[.func (.yield (D + 1)) #[] #[]] ++ lb, W1, ?_, ?_, fun _ _ => trivial, ?_, (fun _ => by omega), ?_⟩
  · rw [hW1, hD]; exact run_enterLoop_outer _ _ _ _ _
  · simp only [resolve, hg]
    simp [go_sem]
  · simp [invoke, go_sem, eg]
  refine (hseq (D + 1) (fun pre V => I pre V ∧ V.heap[D + 1]? = some (.loop (recOf fn a.tmps ps assign body D .ready)) ∧ V.heap[D]? = some (.deferred (some []))) W1 below1 ?abides ?rounds ⟨hI _ _ _ h0 below1, atL, atD⟩).mono ?after
  case abides =>
    rintro pre A B ⟨h1, h2, h3⟩ hb
    exact ⟨hI _ _ _ h1 hb, (hb.block _ (Array.getElem?_eq_some_iff.1 h2).1).trans h2, (hb.block _ (Array.getElem?_eq_some_iff.1 h3).1).trans h3⟩
  case rounds =>
    rintro pre x V0 ⟨g1, g2, g3⟩ gx
    have hlt0 := (Array.getElem?_eq_some_iff.1 g2).1
    have hlt1 := (Array.getElem?_eq_some_iff.1 g3).1
    have hy := run_yield (P := P) (args := encs x) g2 (hps x)
    obtain ⟨V, hV⟩ : ∃ V, V = V0.alloc (ob x) := ⟨_, rfl⟩
    have bV : Below V0.heap.size V0 V := by rw [hV]; exact (Below.refl _ V0).alloc (Nat.le_refl _) _
    have h1 : I pre V := hI _ _ _ g1 bV
    have h2 : V.heap[D + 1]? = some (.loop (recOf fn a.tmps ps assign body D .ready)) := (bV.block _ hlt0).trans g2
    have h3 : V.heap[D]? = some (.deferred (some [])) := (bV.block _ hlt1).trans g3
    have hx : Ok pre x V := by rw [hV]; exact hOka _ _ _ gx
    have hk0 : Kp V0 V := by rw [hV]; exact hKa _ _ (by omega)
    have hbx : V.heap[V0.heap.size]? = some (ob x) := by rw [hV]; exact World.alloc_heap_new _ _
    have hlt := (Array.getElem?_eq_some_iff.1 h2).1
    refine ⟨fn, _, assign, body, hy, roundIn_of_wpIn hfn (hassign _ x V0 _ ?_)⟩
    rw [← hV]
    refine ⟨_, run_beginRound h2 rfl, ?_⟩
    have hDL : w.heap.size ≤ D + 1 := by omega
    have b2 : (V.putObj (D + 1) (.loop (recOf fn a.tmps ps assign body D .busy))).heap[D + 1]? = some (.loop (recOf fn a.tmps ps assign body D .busy)) := World.putObj_heap_same hlt
    have b3 : (V.putObj (D + 1) (.loop (recOf fn a.tmps ps assign body D .busy))).heap[D]? = some (.deferred (some [])) := (World.putObj_heap_other (by omega)).trans h3
    have b4 : (V.putObj (D + 1) (.loop (recOf fn a.tmps ps assign body D .busy))).heap[V0.heap.size]? = some (ob x) := (World.putObj_heap_other (by omega)).trans hbx
    refine wpIn_mono (hbody _ pre x (V.putObj (D + 1) (.loop (recOf fn a.tmps ps assign body D .busy))) V0.heap.size (by omega) b4 (hIp _ _ _ _ _ h1 hDL h2 rfl) (hOk _ _ _ _ _ _ hDL hx h2 rfl)) ?_
    rintro e a3 U hp
    cases e with
    | normal =>
      obtain ⟨k1, k2, k3⟩ := hp
      have u2 := k1.same _ _ (by omega) b2 rfl
      have u3 := k1.same _ _ (by omega) b3 rfl
      have hr := run_endRound (P := P) none u2
      refine ⟨_, _, hr, rfl, ⟨hIp _ _ _ _ _ k3 hDL u2 rfl, World.putObj_heap_same (Array.getElem?_eq_some_iff.1 u2).1, (World.putObj_heap_other (by omega)).trans u3⟩, ?_⟩
      exact hKt hk0 (hKt (hKt (hKb _ _ _ _ hDL h2 rfl) k2) (hKb _ _ _ _ hDL u2 rfl))
    | ret => exact hp.elim
    | exit _ => exact hp.elim
    | goto _ => exact hp.elim
    | panic _ => exact hp.elim
    | outgrown => exact hp.elim
  case after =>
    rintro e V ⟨⟨v, rfl⟩, xs, hS, h1, h2, h3⟩
    exact ⟨none, _, run_endLoop (P := P) h2 (by simp [recOf]), hdone D xs _ (by omega) hS (hIp _ _ _ _ _ h1 (by omega) h2 rfl) ((World.putObj_heap_other (by omega)).trans h3)⟩
end

/-- The iterator of term.all, whatever the loop. -/
theorem all_gives {n₀ Bb : Nat} {t : Tm} {a : Option Addr} {n c : Nat} {w : World} (hn : n₀ ≤ w.heap.size) (hbx : w.heap[Bb]? = some (.cells #[.int .i64 t.f, .slice a n c] 38 (0, 0))) (ht : Tat (· < n₀) w t a n c) :
    Gives Try.prog 68 #[.pointer (some ⟨Bb, 0, none⟩)] (fun x : Tr => #[x.v]) (fun pre x V => x.ok n₀ V ∧ pre.length < t.size) (KpT n₀) (fun xs => xs.map Tr.t = t.flat) w := by
  intro l J W hW hJ hY h0
  have hdd : ∀ k : Nat, (Fence.wide.depth.isSome = true → 1 ≤ k) := fun k h => by cases h
  have hb : W.heap[Bb]? = some (.cells #[.int .i64 t.f, .slice a n c] 38 (0, 0)) := (hW.block Bb (Array.getElem?_eq_some_iff.1 hbx).1).trans hbx
  obtain ⟨c1, c2⟩ := cell_box hb
  have hwk := walk_in l n₀ t.size J hJ (fun m pre x V hj hx => yieldAt_any m (hY pre x V hj hx)) t 1 a n c [] W (ht.bw hW) (Nat.le_trans hn hW.size) h0 (by simp)
  refine callsIn_of_wp Try.func68 rfl trivial ?_ rfl
  simp only [Try.ntmps68, List.size_toArray, List.length_cons, List.length_nil, Nat.reduceAdd, Nat.reduceSub, Array.replicate_succ, Array.replicate_zero, List.push_toArray, List.append_toArray, List.nil_append, List.cons_append]
  gi_wp2_with (refine ⟨trivial, ?_⟩; gi_at_call 69; refine hwk.mono ?_; rintro e W1 ⟨rfl, xs, hxs, hJ1, hk1⟩)
  go_end0
  exact ⟨⟨_, rfl⟩, xs, hxs, by simpa using hJ1⟩

theorem all_in (f : Int) (a : Option Addr) (n c : Nat) (w : World) :
    CallsIn Fence.wide 2 Try.prog 41 #[.agg #[.int .i64 f, .slice a n c]] w fun e w' => e = .returned (.func (.func 68) #[] #[.pointer (some ⟨w.heap.size, 0, none⟩)]) ∧ w' = w.alloc (.cells #[.int .i64 f, .slice a n c] 38) := by
  refine callsIn_of_wp Try.func41 rfl trivial ?_ rfl
  simp only [Try.ntmps41, List.size_toArray, List.length_cons, List.length_nil, Nat.reduceAdd, Nat.reduceSub, Array.replicate_succ, Array.replicate_zero, List.push_toArray, List.append_toArray, List.nil_append, List.cons_append]
  gi_wp2
  go_ret
  exact ⟨rfl, rfl⟩
end Go.Proofs.Ytgmllfjidhbjjab


namespace Go.Proofs.Ytgmllfjidhbjjab
open Go.RowKit Go.Shelf
set_option linter.unusedVariables false
attribute [local go_sem] Oper.semAt_some

theorem kpt_set {n₀ B : Nat} {W : World} {ty : TypeId} {v : Value} (h : Boxed W B ty v) (hty : ty ≠ 38) (hn : n₀ ≤ B) (u : Value) : KpT n₀ W (W.setCell ⟨B, 0, none⟩ u) := by
  refine ⟨(Below.refl n₀ W).setCell (p := ⟨B, 0, none⟩) hn _, fun g cs fl e => ?_⟩
  rw [Below.heap_setCell _ _ _ g (fun e' => ?_)]
  · exact e
  · simp only at e'
    subst e'
    rw [show W.heap[g]? = _ from h] at e
    cases e
    exact hty rfl

theorem kpt_put {n₀ l : Nat} {W : World} {o : Obj} (o' : Obj) (hn : n₀ ≤ l) (h : W.heap[l]? = some o) (ho : o.isCells = false) : KpT n₀ W (W.putObj l o') := by
  refine ⟨⟨rfl, rfl, rfl, by simp [World.putObj], fun q hq => World.putObj_heap_other (by omega)⟩, fun g cs fl e => ?_⟩
  rw [World.putObj_heap_other]
  · exact e
  · rintro rfl
    rw [h] at e
    cases e
    cases ho

/-- A box that a loop writes. -/
def IntI (w : World) (B : Nat) (v : Value) (W : World) : Prop := Boxed W B 3 v ∧ Below w.heap.size w W
theorem IntI.abides {w A B : World} {b : Nat} {v : Value} (h : IntI w b v A) (hb : Below A.heap.size A B) : IntI w b v B :=
  ⟨(hb.block b h.1.lt).trans h.1, h.2.trans (hb.mono h.2.size)⟩
theorem IntI.putObj {w A : World} {b : Nat} {v : Value} (h : IntI w b v A) {l : Nat} {o : Obj} (o' : Obj) (hwl : w.heap.size ≤ l) (hl : A.heap[l]? = some o) (ho : o.isCells = false) : IntI w b v (A.putObj l o') := by
  refine ⟨(World.putObj_heap_other ?_).trans h.1, h.2.trans (kpt_put o' hwl hl ho).1⟩
  rintro rfl
  rw [show A.heap[_]? = _ from h.1] at hl
  cases hl
  cases ho
theorem IntI.set {w W : World} {B b : Nat} {v : Value} (h : IntI w b v W) (hb : w.heap.size ≤ b) (u : Value) : KeepsFrom B W (W.setCell ⟨b, 0, none⟩ u) ∧ KpT w.heap.size W (W.setCell ⟨b, 0, none⟩ u) ∧ IntI w b u (W.setCell ⟨b, 0, none⟩ u) :=
  ⟨(KeepsOthers.setCell _ _ _).from _, kpt_set h.1 (by decide) hb u, h.1.set u, h.2.trans (kpt_set h.1 (by decide) hb u).1⟩

theorem Tr.ok.kept {n₀ : Nat} {x : Tr} {V V' : World} (h : x.ok n₀ V) (hb : Below n₀ V V') : x.ok n₀ V' := h.below hb fun b h _ => h

/-- The box of a term that is handed over. -/
def Tr.ob (x : Tr) : Obj := .cells #[.int .i64 x.t.f, .slice x.a x.n x.c] 38 (0, 0)

/-- How often a head stands among these. -/
def cntF (f : Int) (l : List Tm) : Nat := (l.filter fun s => decide (s.f = f)).length
theorem boxed_put {A : World} {b : Nat} {ty : TypeId} {v : Value} (h : Boxed A b ty v) {l : Nat} {o : Obj} (o' : Obj) (hl : A.heap[l]? = some o) (ho : o.isCells = false) : Boxed (A.putObj l o') b ty v := by
  refine (World.putObj_heap_other ?_).trans h
  rintro rfl
  rw [show A.heap[_]? = _ from h] at hl
  cases hl
  cases ho

theorem keepsFrom_below {W W' : World} (h : Below W.heap.size W W') (B : Nat) : KeepsFrom B W W' := ⟨h.size, fun k o _ hk _ => (h.block k (Array.getElem?_eq_some_iff.1 hk).1).trans hk⟩

/-- The greatest number of a variable among these, -1 if there is none. -/
def topF (l : List Tm) : Int := l.foldl (fun m s => if s.f < 0 then max m (-1 - s.f) else m) (-1)
theorem topF_snoc (l : List Tm) (s : Tm) : topF (l ++ [s]) = if s.f < 0 then max (topF l) (-1 - s.f) else topF l := by simp [topF]

set_option maxRecDepth 100000 in
set_option maxHeartbeats 2000000 in
theorem top_in {U : Nat → Prop} (t : Tm) (a : Option Addr) (n c : Nat) (w : World) (h : Tat U w t a n c) :
    CallsIn Fence.wide 3 Try.prog 26 #[.agg #[.int .i64 t.f, .slice a n c]] w fun e W' => e = .returned (.int .i64 (topF t.flat)) ∧ Below w.heap.size w W' := by
  refine callsIn_of_wp_marks Try.func26 rfl trivial ?_ rfl
  simp only [Try.ntmps26, List.size_toArray, List.length_cons, List.length_nil, Nat.reduceAdd, Nat.reduceSub, Array.replicate_succ, Array.replicate_zero, List.push_toArray, List.append_toArray, List.nil_append, List.cons_append]
  gi_wp2_with (refine ⟨trivial, ?_⟩; gi_at_call 41; refine (all_in _ _ _ _ _).mono ?_; rintro e w' ⟨rfl, rfl⟩)
  obtain ⟨w1, hw1⟩ : ∃ w1, w1 = w.alloc (.cells #[.int .i64 t.f, .slice a n c] 38) := ⟨_, rfl⟩
  obtain ⟨w3, hw3⟩ : ∃ w3, w3 = w1.alloc (.cells #[.int .i64 (-1)] 3) := ⟨_, rfl⟩
  obtain ⟨wl, hwl⟩ : ∃ wl, wl = w3.alloc (.cells #[.int .i64 t.f, .slice a n c] 38) := ⟨_, rfl⟩
  have s1 : w1.heap.size = w.heap.size + 1 := by rw [hw1]; simp
  have s3 : w3.heap.size = w.heap.size + 2 := by rw [hw3]; simp; omega
  have hsz : wl.heap.size = w.heap.size + 3 := by rw [hwl]; simp; omega
  have hb0 : Below w.heap.size w wl := by rw [hwl, hw3, hw1]; exact bA (bA (bA (bW _) _) _) _
  have hbx : wl.heap[w.heap.size + 1 + 1]? = some (.cells #[.int .i64 t.f, .slice a n c] 38 (0, 0)) := by
    have := World.alloc_heap_new w3 (.cells #[.int .i64 t.f, .slice a n c] 38)
    rw [s3, ← hwl] at this
    exact this
  have hI0 : IntI w (w.heap.size + 1) (.int .i64 (topF (([] : List Tr).map Tr.t))) wl := by
    have b2 := Boxed.new w1 3 (.int .i64 (-1))
    rw [s1, ← hw3] at b2
    have b3 := b2.alloc (.cells #[.int .i64 t.f, .slice a n c] 38)
    rw [← hwl] at b3
    exact ⟨b3, hb0⟩
  have ht : Tat (· < w.heap.size) wl t a n c := (h.mono (V := (· < w.heap.size)) fun b _ hb => hb).below hb0 fun b hb _ => hb
  rw [← hw1, ← hw3, ← hwl]
  clear hwl h hw1 hw3 s1 s3
  refine wp_collectH (gf := 68) (lb := #[.pointer (some ⟨w.heap.size + 1 + 1, 0, none⟩)]) rfl (enters_of Try.func68 (by kernel_rfl) rfl)
    (all_gives (n₀ := w.heap.size) (by omega) hbx ht) (fun h k => h.trans k) (fun W l o o' hl h ho => kpt_put o' (by omega) h ho) (fun pre x W l o o' hl hx h ho => ⟨hx.1.kept (kpt_put o' (by omega) h ho).1, hx.2⟩) (fun _ => rfl)
    (fun pre W => IntI w (w.heap.size + 1) (.int .i64 (topF (pre.map Tr.t))) W) (fun pre A B h hb => h.abides hb) (fun pre A l o o' h hl h1 h2 => h.putObj o' (by omega) h1 h2) hI0
    (fun x b => { tmps := #[.agg #[.int .i64 t.f, .slice a n c], .pointer (some ⟨w.heap.size, 0, none⟩), .int .i64 0, .pointer (some ⟨w.heap.size + 1, 0, none⟩), .pointer (some ⟨b, 0, none⟩), .agg #[.int .i64 t.f, .slice a n c], .func (.func 68) #[] #[.pointer (some ⟨w.heap.size + 1 + 1, 0, none⟩)], x.v, undef, undef, undef, undef, undef, undef, undef], defers := [] })
    Tr.ob (fun V x hV => KpT.of_below (by omega) (bA (bW _) _)) (fun pre x V hx => ⟨hx.1.bw (bA (bW _) _), hx.2⟩) ?assign ?body ?done
  case assign =>
    intro l x W K hK
    obtain ⟨xt, xa, xn, xc⟩ := x
    simp only [Tr.v, Tr.ob] at hK ⊢
    gi_wp2
    exact hK
  case body =>
    rintro l pre x W b hb hbx' hI ⟨hx, hlt⟩
    have hx1 := hx.wf
    have hbl := (Array.getElem?_eq_some_iff.1 hbx').1
    obtain ⟨xt, xa, xn, xc⟩ := x
    simp only [Tr.v, Tr.ob] at *
    have HS := hid (topF_snoc (pre.map Tr.t) xt)
    obtain ⟨m, hm⟩ : ∃ m, m = topF (pre.map Tr.t) := ⟨_, rfl⟩
    rw [← hm] at hI HS
    clear hm
    obtain ⟨e1, e2⟩ := cell_box hbx'
    by_cases hq : xt.f < 0
    · have HS2 : Hid (topF (List.map Tr.t pre ++ [xt]) = max m (-1 - xt.f)) := by show _ = _; rw [HS.out, if_pos hq]
      gi_wp2_with (first
        | (refine ⟨trivial, ?_⟩; gi_at_call 42; refine (CallsIn.inRound l (callsIn_wide.2 (isVar_any _ _ _ _ _))).mono ?_; rintro e W1 ⟨rfl, hb1⟩; clear e1 e2; obtain ⟨e1, e2⟩ := cell_box ((hb1.block b hbl).trans hbx'); have hI1 := hI.abides hb1; have hc := hI1.1.cell; have hf := hI1.1.frozen))
      have hbl1 : b < W1.heap.size := Nat.lt_of_lt_of_le hbl hb1.size
      have hbx1 := (hb1.block b hbl).trans hbx'
      have hmx : Try.prog.follows .mixedOrders = true := by kernel_rfl
      have hk1 := KpT.of_below hI.2.size hb1
      have HK1 := hid hb1
      have hsI : w.heap.size ≤ W1.heap.size := hI1.2.size
      clear hbl hbx' hb1 hI hb
      gi_region_with_o (refine ⟨trivial, ?_⟩; gi_at_call 43; refine (CallsIn.inRound l (callsIn_wide.2 (number_any _ _ _ _ _ hx1.1 hq))).mono ?_; rintro e W2 ⟨rfl, hb2'⟩; have hb2 : Below W1.heap.size W1 W2 := bN (bD (bW _)) hb2'; have hI2 := hI1.abides hb2; have hc2 := hI2.1.cell; have hf2 := hI2.1.frozen; obtain ⟨e3, e4⟩ := cell_box ((hb2.block b hbl1).trans hbx1))
      all_goals gi_wp2
      all_goals refine ⟨(keepsFrom_below (bN HK1.out hb2) _).trans ((KeepsOthers.setCell _ _ _).from _), (hk1.trans (KpT.of_below hsI hb2)).trans (kpt_set hI2.1 (by decide) (by omega) _), ?_⟩
      all_goals rw [HS2.out]
      all_goals first
        | (rw [Int.max_eq_right (by omega)]; exact (hI2.set (B := 0) (by omega) _).2.2)
        | (rw [Int.max_eq_left (by omega)]; exact (hI2.set (B := 0) (by omega) _).2.2)
    · have HS2 : Hid (topF (List.map Tr.t pre ++ [xt]) = m) := by show _ = _; rw [HS.out, if_neg hq]
      gi_wp2_with (refine ⟨trivial, ?_⟩; gi_at_call 42; refine (CallsIn.inRound l (callsIn_wide.2 (isVar_any _ _ _ _ _))).mono ?_; rintro e W1 ⟨rfl, hb1⟩)
      refine ⟨keepsFrom_below hb1 _, KpT.of_below hI.2.size hb1, ?_⟩
      rw [show List.map Tr.t (pre ++ [⟨xt, xa, xn, xc⟩]) = List.map Tr.t pre ++ [xt] by simp, HS2.out]
      exact hI.abides hb1
  case done =>
    rintro D xs W hD hS hI hK
    have hc := hI.1.cell
    gi_wp2
    refine ⟨by simp, .inl ⟨_, _, rfl, run_takeDeferred hK, ?_⟩⟩
    refine ⟨_, results_tmp rfl _ _ _, ?_, ?_⟩
    · rw [← hS]
      rfl
    · exact hI.2.trans (kpt_put _ (by omega) hK rfl).1


theorem top_any {U : Nat → Prop} {t : Tm} {a : Option Addr} {n c : Nat} {w : World} (h : Tat U w t a n c) :
    Calls Try.prog 26 #[.agg #[.int .i64 t.f, .slice a n c]] w fun e W' => e = .returned (.int .i64 (topF t.flat)) ∧ Below w.heap.size w W' :=
  callsIn_wide.1 (top_in t a n c w h)
end Go.Proofs.Ytgmllfjidhbjjab


namespace Go.Proofs.Ytgmllfjidhbjjab
open Go.RowKit
set_option linter.unusedVariables false

/-- 'append(v, x...)' of rows of elements of several cells: where what comes of it lies. -/
theorem appRow_run {P : Program} (w : World) (t ty e : TypeId) (z : Value) (size bytes : Nat) (ht : P.underlying t = some (.slice e)) (hi : (P.info? e).map (fun i => (i.zero, i.size, i.bytes)) = some (some z, size, bytes)) (hzs : z.cells.size = size) (hsz : 0 < size)
    (v : Value) (n : Nat) (xs : List Value) (hown : w.ownsRow 0 e size v n xs) (ad : Addr) (m c : Nat) (ys : List Value) (hb : Cs w (some ad) ys) (hl : ys.length = m * size) (h1 : ∀ u ∈ ys, u.oneCell' = true) (h63 : n + m ≤ maxLen) (hbytes : (n + m) * bytes ≤ 140737488355328) :
    ∃ v' w', Sem.run P (Builtin.append_ #[t, t] ty #[v, .slice (some ad) m c]) w = .ok v' w' ∧ w'.ownsRow 0 e size v' (n + m) (xs ++ ys) ∧ w.grownBy w' v.ownBlock ∧ (v'.ownBlock = v.ownBlock ∨ ∀ g, v'.ownBlock = some g → w.heap.size ≤ g) := by
  obtain ⟨i, hi1, hi2, hi3, hi4⟩ := info_parts hi
  have hnews : ∀ j u, ys[j]? = some u → w.cell? (ad.add j) = some u := by
    intro j u hj
    have hjl : j < ys.length := by
      rcases Nat.lt_or_ge j ys.length with h | h
      · exact h
      · rw [List.getElem?_eq_none h] at hj; cases hj
    rcases hb with rfl | ⟨b, off, ha, hlt, hc⟩
    · simp at hjl
    · cases ha
      rw [show (⟨b, off, none⟩ : Addr).add j = ⟨b, off + j, none⟩ by simp [Addr.add], hc j hjl, hj]
  rcases hown.2 with ⟨rfl, rfl⟩ | ⟨g, cap, cur, rfl, hbg, hg, hnc, hcm, hcs, htake⟩
  · have hx : xs = [] := List.eq_nil_of_length_eq_zero (by simpa using hown.1)
    subst hx
    obtain ⟨v', w', hr, ho, hg, _⟩ := run_append_own (P := P) w w.heap.size t ty e i z size bytes ht hi1 hi2 hi3 hi4 hzs hsz (.slice none 0 0) 0 [] (World.ownsRow_nil _ _ _ _) ad m c ys hl hnews h1 h63 hbytes (Nat.le_refl _)
    exact ⟨v', w', hr, ownsRow_mono ho (Nat.zero_le _), hg, .inr (fun g hg => (ho.lt g hg).1)⟩
  · by_cases hroom : n + m ≤ cap
    · obtain ⟨w', hr, ho, hgr⟩ := run_append_fits (P := P) w 0 t ty e i size ht hi1 hi3 g n cap xs hown ad m c ys hl hnews h1 hroom
      exact ⟨_, w', hr, ho, hgr, .inl rfl⟩
    · obtain ⟨v', w', hr, ho, hgr⟩ := run_append_arg_grows (P := P) w t ty e i z size bytes ht hi1 hi2 hi3 hi4 hzs hsz ⟨g, 0, none⟩ n cap xs hown.1 (hown.cells (g := g) rfl) ad m c ys hl hnews (by omega) h63 hbytes
      exact ⟨v', w', hr, ownsRow_mono ho (Nat.zero_le _), hgr.but _, .inr (fun g hg => (ho.lt g hg).1)⟩

theorem wpList_appRun {P : Program} (w : World) {ops : Array Oper} {rest : List Oper} {o : Oper} {a : Act} {Q : Exit → Act → World → Prop} (hgd : Region.wanted o (yielded ops a.tmps) = true) (so x : Operand) (t : TypeId)
    (ho : o.op = .call { callee := .builtin .append, args := #[so, x], argTypes := #[t, t] }) (v y : Value) (hs : a.eval so = v) (hx : a.eval x = y) (v' : Value) (w' : World) (hrun : Sem.run P (Builtin.append_ #[t, t] o.type #[v, y]) w = .ok v' w') (h : wpList P ops Q rest (a.put o.dst v') w') : wpList P ops Q (o :: rest) a w := by
  refine wpList_wanted hgd fun K hK => ?_
  unfold Oper.wp
  simp [execOp, ho, resolve, invoke, builtin, hs, hx, hrun, Result.andThen]
  exact hK _ _ h


theorem appRow_base {w : World} {B : Nat} {e : TypeId} {size : Nat} {v : Value} {n : Nat} {xs : List Value} (h : w.ownsRow 0 e size v n xs) (hb : ∀ g, v.ownBlock = some g → B ≤ g) : w.ownsRow B e size v n xs := by
  obtain ⟨h1, h2⟩ := h
  refine ⟨h1, ?_⟩
  rcases h2 with h2 | ⟨g, cap, cur, rfl, hg, r⟩
  · exact .inl h2
  · exact .inr ⟨g, cap, cur, rfl, hb g rfl, r⟩

/-- 'append(v, x)', one element, v the call's own. -/
theorem app_one {P : Program} {w : World} {B : Nat} (hB : B ≤ w.heap.size) (t e : TypeId) (z : Value) (size bytes : Nat) (ht : P.underlying t = some (.slice e)) (hi : (P.info? e).map (fun i => (i.zero, i.size, i.bytes)) = some (some z, size, bytes)) (hzs : z.cells.size = size) (hsz : 0 < size)
    (v : Value) (n : Nat) (xs ys : List Value) (hrow : w.ownsRow B e size v n xs) (hl : ys.length = size) (h1 : ∀ u ∈ ys, u.oneCell' = true) (hn : n ≤ 10000000000) (hbt : bytes ≤ 1000) :
    ∃ a' c' w', Sem.run P (Builtin.append_ #[t, t] t #[v, .slice (some ⟨w.heap.size, 0, none⟩) 1 1]) (w.alloc (.cells ys.toArray e)) = .ok (.slice a' (n + 1) c') w' ∧ w'.ownsRow B e size (.slice a' (n + 1) c') (n + 1) (xs ++ ys) ∧ Below B w w' ∧ (∀ b, b < w.heap.size → v.ownBlock ≠ some b → w'.heap[b]? = w.heap[b]?) ∧ ∀ g, (Value.slice a' (n + 1) c').ownBlock = some g → v.ownBlock = some g ∨ w.heap.size ≤ g := by
  have hmul : (n + 1) * bytes ≤ 10000000001 * 1000 := Nat.mul_le_mul (by omega) hbt
  have hrow1 : (w.alloc (.cells ys.toArray e)).ownsRow 0 e size v n xs := ownsRow_mono (hrow.alloc _) (Nat.zero_le _)
  obtain ⟨v', w', hrun, ho, hg, hv⟩ := appRow_run (P := P) (w.alloc (.cells ys.toArray e)) t t e z size bytes ht hi hzs hsz v n xs hrow1 ⟨w.heap.size, 0, none⟩ 1 1 ys (Cs.new _ _ _) (by rw [hl, Nat.one_mul]) h1 (by unfold maxLen; omega) (by omega)
  obtain ⟨a', c', rfl, _⟩ := ownsRow_cs ho
  have hv' : ∀ g, (Value.slice a' (n + 1) c').ownBlock = some g → v.ownBlock = some g ∨ w.heap.size ≤ g := fun g hg' => by
    rcases hv with e | e
    · left; rw [← e]; exact hg'
    · right; have := e g hg'; rw [World.size_alloc] at this; omega
  refine ⟨a', c', w', hrun, appRow_base ho (fun g hg' => ?_), ?_, fun b hb hne => ?_, hv'⟩
  · rcases hv' g hg' with e | e
    · exact (hrow.lt g e).1
    · omega
  · exact ((Below.refl B w).alloc hB _).trans ((Below.refl _ _).grown hg (by simp; omega) fun k hk => (hrow.lt k hk).1)
  · rw [hg.block b (by simp; omega) (fun e => hne e.symm), Below.heap_alloc _ _ _ hb]

/-- A row of the call's own that holds terms, their parts in blocks of U beside it. -/
def OwnT (e : TypeId) (U : Nat → Prop) (w : World) (base : Nat) (v : Value) (l : List Tm) : Prop := ∃ xs, w.ownsRow base e 2 v l.length xs ∧ Ecs (fun b => U b ∧ v.ownBlock ≠ some b) w l xs

theorem OwnT.nil (e : TypeId) (U : Nat → Prop) (w : World) (base : Nat) : OwnT e U w base (.slice none 0 0) [] := ⟨[], World.ownsRow_nil _ _ _ _, Ecs.nil_iff.2 rfl⟩

theorem OwnT.las {e : TypeId} {U : Nat → Prop} {w : World} {base : Nat} {v : Value} {l : List Tm} (h : OwnT e U w base v l) (hU : ∀ b, base ≤ b → b < w.heap.size → U b) : ∃ a c, v = .slice a l.length c ∧ Las U w l a l.length c := by
  obtain ⟨xs, h1, h2⟩ := h
  obtain ⟨a, c, e1, e2, e3, e4, e5⟩ := ownsRow_cs h1
  refine ⟨a, c, e1, rfl, e2, e3, e4, xs, ?_, h2.mono fun b hb _ => hb.1⟩
  rcases e5 with h | ⟨b, off, ha, hlt, hc⟩
  · exact .inl h
  · refine .inr ⟨b, off, ha, hU b ?_ hlt, hlt, hc⟩
    subst ha
    obtain ⟨_, h3⟩ := h1
    rcases h3 with ⟨h3, _⟩ | ⟨g, cap, cur, h3, hb, _⟩
    · rw [e1] at h3; cases h3
    · rw [e1] at h3; cases h3; exact hb

theorem OwnT.lt {e : TypeId} {U : Nat → Prop} {w : World} {base : Nat} {v : Value} {l : List Tm} (h : OwnT e U w base v l) {g : Nat} (hg : v.ownBlock = some g) : base ≤ g ∧ g < w.heap.size := by
  obtain ⟨xs, h1, h2⟩ := h
  exact h1.lt g hg

theorem OwnT.bw {e : TypeId} {U : Nat → Prop} {w w' : World} {base : Nat} {v : Value} {l : List Tm} (h : OwnT e U w base v l) (hb : Below w.heap.size w w') : OwnT e U w' base v l := by
  obtain ⟨xs, h1, h2⟩ := h
  exact ⟨xs, ownsRow_below h1 hb (Nat.le_refl _), h2.below hb fun b _ h => h⟩

theorem OwnT.keep {e : TypeId} {U : Nat → Prop} {w w' : World} {base : Nat} {v : Value} {l : List Tm} (h : OwnT e U w base v l) (hU : ∀ b, U b → base ≤ b) (hs : ∀ b, base ≤ b → b < w.heap.size → w'.heap[b]? = w.heap[b]?) : OwnT e U w' base v l := by
  obtain ⟨xs, h1, h2⟩ := h
  refine ⟨xs, ?_, h2.keep fun b hb hlt => ⟨hb, hs b (hU b hb.1) hlt⟩⟩
  refine ⟨h1.1, ?_⟩
  rcases h1.2 with h3 | ⟨g, cap, cur, rfl, hg, hh, r⟩
  · exact .inl h3
  · exact .inr ⟨g, cap, cur, rfl, hg, (hs g hg (Array.getElem?_eq_some_iff.1 hh).1).trans hh, r⟩
theorem OwnT.mono {e : TypeId} {U V : Nat → Prop} {w : World} {base base' : Nat} {v : Value} {l : List Tm} (h : OwnT e U w base v l) (hb : base' ≤ base) (hU : ∀ b, U b → V b) : OwnT e V w base' v l := by
  obtain ⟨xs, h1, h2⟩ := h
  exact ⟨xs, ownsRow_mono h1 hb, h2.mono fun b hb _ => ⟨hU b hb.1, hb.2⟩⟩

/-- 'append(v, s)', s a term. -/
theorem app_tm {P : Program} {U : Nat → Prop} {w : World} {B : Nat} (hB : B ≤ w.heap.size) (t e : TypeId) (z : Value) (bytes : Nat) (ht : P.underlying t = some (.slice e)) (hi : (P.info? e).map (fun i => (i.zero, i.size, i.bytes)) = some (some z, 2, bytes)) (hzs : z.cells.size = 2) (hbt : bytes ≤ 1000)
    {v : Value} {l : List Tm} {s : Tm} {a : Option Addr} {n c : Nat} (h : OwnT e U w B v l) (hs : Tat (fun b => U b ∧ v.ownBlock ≠ some b) w s a n c) (hn : l.length ≤ 10000000000) :
    ∃ a' c' w', Sem.run P (Builtin.append_ #[t, t] t #[v, .slice (some ⟨w.heap.size, 0, none⟩) 1 1]) (w.alloc (.cells #[.int .i64 s.f, .slice a n c] e)) = .ok (.slice a' (l.length + 1) c') w' ∧ OwnT e U w' B (.slice a' (l.length + 1) c') (l ++ [s]) ∧ Below B w w' ∧ (∀ b, b < w.heap.size → v.ownBlock ≠ some b → w'.heap[b]? = w.heap[b]?) ∧ ∀ g, (Value.slice a' (l.length + 1) c').ownBlock = some g → v.ownBlock = some g ∨ w.heap.size ≤ g := by
  obtain ⟨xs, h1, h2⟩ := h
  obtain ⟨a', c', w', hr, ho, hb, hk, hv⟩ := app_one (P := P) hB t e z 2 bytes ht hi hzs (by decide) v l.length xs [.int .i64 s.f, .slice a n c] h1 rfl (by simp [Value.oneCell']) hn hbt
  have hkeep : ∀ b, (U b ∧ v.ownBlock ≠ some b) → b < w.heap.size → (U b ∧ (Value.slice a' (l.length + 1) c').ownBlock ≠ some b) ∧ w'.heap[b]? = w.heap[b]? := fun b h3 h4 => by
    refine ⟨⟨h3.1, fun e => ?_⟩, hk b h4 h3.2⟩
    rcases hv b e with e' | e'
    · exact h3.2 e'
    · omega
  refine ⟨a', c', w', hr, ⟨xs ++ [.int .i64 s.f, .slice a n c], ?_, (h2.keep hkeep).append (Ecs.single (hs.keep hkeep))⟩, hb, hk, hv⟩
  rw [List.length_append]
  exact ho
end Go.Proofs.Ytgmllfjidhbjjab


namespace Go.Proofs.Ytgmllfjidhbjjab
open Go.RowKit
set_option linter.unusedVariables false
set_option linter.unusedSimpArgs false

theorem info_tm : (Try.prog.info? 38).map (fun i => (i.zero, i.size, i.bytes)) = some (some (.agg #[.int .i64 0, .slice none 0 0]), 2, 32) := by kernel_rfl

theorem info_tm_size : (Try.prog.info? 38).map (fun i => i.size) = some 2 := by kernel_rfl

/-- What Clone tells. -/
def CloneSays (w : World) (t : Tm) (e : Ending) (w' : World) : Prop := ∃ a c, e = .returned (.agg #[.int .i64 t.f, .slice a t.ps.length c]) ∧ OwnT 38 (fun b => w.heap.size ≤ b) w' w.heap.size (.slice a t.ps.length c) (t.ps.map Tm.strip) ∧ Below w.heap.size w w'

theorem CloneSays.tat {w w' : World} {t : Tm} {e : Ending} (h : CloneSays w t e w') (hf : -9223372036854775808 ≤ t.f ∧ t.f ≤ 9223372036854775807) : ∃ a n c, e = .returned (.agg #[.int .i64 t.f, .slice a n c]) ∧ Tat (fun b => w.heap.size ≤ b) w' t.strip a n c ∧ Below w.heap.size w w' := by
  obtain ⟨a0, c0, h1, h2, h3⟩ := h
  obtain ⟨a, c, e1, h4⟩ := h2.las fun b h _ => h
  rw [e1] at h1
  refine ⟨a, _, c, h1, tat_iff.2 ⟨by rw [Tm.strip_f]; exact hf, ?_⟩, h3⟩
  rw [Tm.strip_l]
  exact h4

set_option maxRecDepth 100000 in
set_option maxHeartbeats 800000 in
theorem cloneAll_any {U : Nat → Prop} {l : List Tm} {a : Option Addr} {n c : Nat} {w : World} (h : Las U w l a n c) (hn : n ≤ 1000000000)
    (hC : ∀ t ∈ l, ∀ (a : Option Addr) (n c : Nat) (w' : World), Tat U w' t a n c → Calls Try.prog 50 #[.agg #[.int .i64 t.f, .slice a n c]] w' (CloneSays w' t)) :
    Calls Try.prog 53 #[.slice a n c] w fun e w' => ∃ a c, e = .returned (.slice a l.length c) ∧ OwnT 38 (fun b => w.heap.size ≤ b) w' w.heap.size (.slice a l.length c) (l.map Tm.strip) ∧ Below w.heap.size w w' := by
  have HL := hid h.len
  have HA : Hid (∀ w', Below w.heap.size w w' → Las U w' l a n c) := fun w' hb => h.bw hb
  have HC := hid hC
  clear h hC
  go_enter Try.func53, Try.ntmps53
  go_wp2
  go_loopw [3, 8] (fun vv i wr => ∃ (k : Nat) (av : Option Addr) (cv : Nat), vv = .slice av k cv ∧ i = .int .i64 (k : Int) ∧ k ≤ n ∧ OwnT 38 (fun b => w.heap.size ≤ b) wr w.heap.size (.slice av k cv) ((l.take k).map Tm.strip) ∧ Below w.heap.size w wr) (fun _ i _ => n - (intOf i).toNat)
  case atStart => exact ⟨0, _, _, rfl, rfl, by omega, OwnT.nil _ _ _ _, bW _⟩
  case round =>
    obtain ⟨k, av, cv, rfl, rfl, hk, ho, hbr⟩ := hrel
    by_cases hlt : k < n
    · obtain ⟨b, off, s, a', n', c', rfl, hU, hlt', hs, hT, e1, e2⟩ := (HA.out wr hbr).at hlt
      have HS := hid hs
      clear hs
      have hb1 : Below wr.heap.size wr (wr.alloc (.cells #[.int .i64 s.f, .slice a' n' c'] 38)) := bA (bW _) _
      have HCall := hid (HC.out s (List.mem_of_getElem? HS.out) a' n' c' _ (hT.bw hb1))
      have HF := hid hT.wf
      have HApp : Hid (∀ w1 a1 n1 c1, Below wr.heap.size wr w1 → Tat (fun b => wr.heap.size + 1 ≤ b) w1 s.strip a1 n1 c1 → ∃ a' c' w', Sem.run Try.prog (Builtin.append_ #[36, 36] 36 #[.slice av k cv, .slice (some ⟨w1.heap.size, 0, none⟩) 1 1]) (w1.alloc (.cells #[.int .i64 s.f, .slice a1 n1 c1] 38)) = .ok (.slice a' (k + 1) c') w' ∧ OwnT 38 (fun b => w.heap.size ≤ b) w' w.heap.size (.slice a' (k + 1) c') ((l.take (k + 1)).map Tm.strip) ∧ Below w.heap.size w w') := by
        intro w1 a1 n1 c1 hw1 ht1
        have ho1 := ho.bw hw1
        have hs1 : Tat (fun b => w.heap.size ≤ b ∧ (Value.slice av k cv).ownBlock ≠ some b) w1 s.strip a1 n1 c1 := ht1.mono fun b hb _ => ⟨by have := hbr.size; omega, fun e => by have := (ho.lt e).2; omega⟩
        have hkl : ((l.take k).map Tm.strip).length = k := by rw [List.length_map, List.length_take]; have := HL.out; omega
        obtain ⟨a', c', w', hr, h1, h2, _, _⟩ := app_tm (P := Try.prog) (U := fun b => w.heap.size ≤ b) (B := w.heap.size) (Nat.le_trans hbr.size hw1.size) 36 38 _ 32 Try.underlying36 info_tm rfl (by decide) ho1 hs1 (by omega)
        rw [Tm.strip_f, hkl] at hr
        rw [hkl] at h1
        refine ⟨a', c', w', hr, ?_, (hbr.trans (hw1.mono hbr.size)).trans h2⟩
        rw [List.take_add_one, HS.out, List.map_append]
        exact h1
      clear ho hT
      go_wp2_with (first
        | (go_at_call 50; refine HCall.out.mono ?_; rintro e w1 hcs; obtain ⟨a1, n1, c1, rfl, ht1, hb1'⟩ := hcs.tat HF.out; rw [World.size_alloc] at ht1; obtain ⟨a2, c2, w2, hr2, ho2, hb2⟩ := HApp.out w1 a1 n1 c1 (bN hb1 hb1') ht1; clear hcs ht1)
        | (at_builtin; refine wpList_appRun _ rfl _ _ _ rfl _ _ rfl rfl _ _ hr2 ?_))
      go_wp2
      go_roundw
      case rel => exact ⟨k + 1, _, _, rfl, by go_num, by omega, ho2, hb2⟩
      case measure => simp [intOf]; omega
    · have HE : Hid (l.take k = l) := List.take_of_length_le (by have := HL.out; omega)
      rw [HE.out] at ho
      have HK : Hid (k = l.length) := by show _ = _; have := HL.out; omega
      go_wp2
      go_ret
      exact ⟨av, cv, by rw [← HK.out]; rfl, by rw [← HK.out]; exact ho, hbr⟩

theorem two_block {W : World} {g : Nat} {x y : Value} {t : TypeId} (h : W.heap[g]? = some (.cells #[x, y] t (0, 0))) (x' y' : Value) : ((W.setCell ⟨g, 0, none⟩ x').setCell ⟨g, 1, none⟩ y').heap[g]? = some (.cells #[x', y'] t (0, 0)) := by
  obtain ⟨hlt, hk⟩ := Array.getElem?_eq_some_iff.1 h
  have h1 : (W.setCell ⟨g, 0, none⟩ x').heap[g]? = some (.cells #[x', y] t (0, 0)) := by
    show (W.heap.modify g _)[g]? = _
    rw [Array.getElem?_eq_getElem (by rw [Array.size_modify]; exact hlt), Array.getElem_modify_self, hk]
    rfl
  obtain ⟨hlt2, hk2⟩ := Array.getElem?_eq_some_iff.1 h1
  show ((W.setCell ⟨g, 0, none⟩ x').heap.modify g _)[g]? = _
  rw [Array.getElem?_eq_getElem (by rw [Array.size_modify]; exact hlt2), Array.getElem_modify_self, hk2]
  rfl

theorem frozen_box {w : World} {b : Nat} {x y : Value} {t : TypeId} (h : w.heap[b]? = some (.cells #[x, y] t (0, 0))) : w.frozen? ⟨b, 0, none⟩ = false ∧ w.frozen? ⟨b, 1, none⟩ = false := by
  constructor <;> simp [World.frozen?, h]

theorem results_clone {tmps : Array Value} {w : World} {g : Nat} {x y : Value} (hp : tmps.getD 2 undef = .pointer (some ⟨g, 0, none⟩)) (hg : w.heap[g]? = some (.cells #[x, y] 38 (0, 0))) :
    (results Try.f50 tmps).run Try.prog w = .ok (.agg #[x, y]) w := by
  have hp' : tmps[2]?.getD undef = .pointer (some ⟨g, 0, none⟩) := by simpa using hp
  simp [results, hp', asAddr, run_loadVar_row w g _ 38 #[x, y] (0, 0) _ hg Try.underlying38 rfl info_tm_size]

set_option maxRecDepth 100000 in
set_option maxHeartbeats 800000 in
theorem clone_any {U : Nat → Prop} : ∀ (t : Tm) (a : Option Addr) (n c : Nat) (w : World), Tat U w t a n c → t.size ≤ 1000000000 → Calls Try.prog 50 #[.agg #[.int .i64 t.f, .slice a n c]] w (CloneSays w t) := by
  intro t
  induction t using Tm.indp with
  | h t ih =>
    intro a n c w ht hsz
    obtain ⟨w0, hw0⟩ : ∃ w0, w0 = (w.alloc (.cells #[.int .i64 t.f, .slice a n c] 38)).alloc (.cells #[.int .i64 0, .slice none 0 0] 38) := ⟨_, rfl⟩
    have HX : Hid (∀ w1, Below w0.heap.size w0 w1 → w1.heap[w.heap.size + 1]? = some (.cells #[.int .i64 0, .slice none 0 0] 38 (0, 0))) := fun w1 hb => by
      have h1 := World.alloc_heap_new (w.alloc (.cells #[.int .i64 t.f, .slice a n c] 38)) (.cells #[.int .i64 0, .slice none 0 0] 38)
      rw [World.size_alloc, ← hw0] at h1
      exact (hb.block _ (Array.getElem?_eq_some_iff.1 h1).1).trans h1
    have HB : Hid (∀ w1, Below w0.heap.size w0 w1 → ((w1.cell? ⟨w.heap.size, 0, none⟩ = some (.int .i64 t.f) ∧ w1.cell? ⟨w.heap.size, 1, none⟩ = some (.slice a n c)) ∧ (w1.cell? ⟨w.heap.size + 1, 0, none⟩ = some (.int .i64 0) ∧ w1.cell? ⟨w.heap.size + 1, 1, none⟩ = some (.slice none 0 0))) ∧ (w1.frozen? ⟨w.heap.size + 1, 0, none⟩ = false ∧ w1.frozen? ⟨w.heap.size + 1, 1, none⟩ = false)) := fun w1 hb => by
      refine ⟨?_, frozen_box (HX.out w1 hb)⟩
      rw [hw0] at hb; exact box2 hb
    have HW := hid hw0
    have HB0 : Hid (Below w.heap.size w w0) := by rw [hw0]; exact bA (bA (bW _) _) _
    clear hw0
    have HP : Hid (∀ w1, Below w0.heap.size w0 w1 → Calls Try.prog 65 #[.agg #[.int .i64 t.f, .slice a n c]] w1 fun e w' => Below w1.heap.size w1 w' ∧ ∃ a' n' c', e = .returned (.slice a' n' c') ∧ Las U w' t.ps a' n' c') := fun w1 hb => parts_any (ht.bw (bN HB0.out hb))
    have hlp := t.len_ps
    have HC : Hid (∀ w1 a' n' c', Las U w1 t.ps a' n' c' → Calls Try.prog 53 #[.slice a' n' c'] w1 fun e w' => ∃ a c, e = .returned (.slice a t.ps.length c) ∧ OwnT 38 (fun b => w1.heap.size ≤ b) w' w1.heap.size (.slice a t.ps.length c) (t.ps.map Tm.strip) ∧ Below w1.heap.size w1 w') := fun w1 a' n' c' h => cloneAll_any h (by have := h.1; omega) (fun s hs a n c w' h' => ih s hs a n c w' h' (by have := Tm.size_part hs; omega))
    have HST : Hid (∀ w1 x y, Below w0.heap.size w0 w1 → ((w1.setCell ⟨w.heap.size + 1, 0, none⟩ x).setCell ⟨w.heap.size + 1, 1, none⟩ y).cell? ⟨w.heap.size, 0, none⟩ = some (.int .i64 t.f) ∧ ((w1.setCell ⟨w.heap.size + 1, 0, none⟩ x).setCell ⟨w.heap.size + 1, 1, none⟩ y).cell? ⟨w.heap.size, 1, none⟩ = some (.slice a n c)) := fun w1 x y hb => by
      have h1 := (HB.out w1 hb).1.1
      have h2 : ((w1.setCell ⟨w.heap.size + 1, 0, none⟩ x).setCell ⟨w.heap.size + 1, 1, none⟩ y).heap[w.heap.size]? = w1.heap[w.heap.size]? := by
        rw [Below.heap_setCell _ _ _ _ (by show w.heap.size ≠ w.heap.size + 1; omega), Below.heap_setCell _ _ _ _ (by show w.heap.size ≠ w.heap.size + 1; omega)]
      exact ⟨(cell_congr h2).trans h1.1, (cell_congr h2).trans h1.2⟩
    have hq : Below w0.heap.size w0 w0 := bW _
    obtain ⟨⟨⟨c1, c2⟩, c3, c4⟩, c5, c6⟩ := HB.out w0 hq
    clear ih ht
    go_enter Try.func50, Try.ntmps50
    go_wp2_with fail
    rw [← HW.out]
    go_region_held3 (fun w' => w'.cell? ⟨w.heap.size, 0, none⟩ = some (.int .i64 t.f) ∧ w'.cell? ⟨w.heap.size, 1, none⟩ = some (.slice a n c)) (first | (refine (HB.out _ ?_).1.1; with_reducible exact hq) | (refine (HB.out _ ?_).1.1; with_reducible exact bD hq) | (refine HST.out _ _ _ ?_; with_reducible exact hq))
      (first
        | (go_at_call 65; refine (HP.out _ (by first | with_reducible exact hq | with_reducible exact bD hq)).mono ?_; rintro e w2 ⟨hb2, a2, n2, c2, rfl, hl2⟩; replace hq := bN (by first | with_reducible exact hq | with_reducible exact bD hq) hb2; clear hb2; dsimp only)
        | (go_at_call 53; refine (HC.out _ _ _ _ hl2).mono ?_; rintro e w3 ⟨a3, c3, rfl, ho3, hb3⟩; have hq2 := hq; replace hq := bN (by first | with_reducible exact hq | with_reducible exact bD hq) hb3; obtain ⟨⟨_, d3, d4⟩, d5, d6⟩ := HB.out _ hq; dsimp only))
    go_wp2_with fail
    refine bodyPost_ret (results_clone (g := w.heap.size + 1) rfl (two_block (HX.out _ hq) _ _)) rfl ?_
    have hle : w0.heap.size ≤ w2.heap.size := hq2.size
    have hw0 : w0.heap.size = w.heap.size + 2 := by rw [HW.out]; simp
    refine ⟨a3, c3, rfl, ?_, ?_⟩
    · refine (ho3.keep (fun b h => h) fun b hb hlt => ?_).mono (by omega) (fun b h => by omega)
      rw [Below.heap_setCell _ _ _ _ (by show b ≠ w.heap.size + 1; omega), Below.heap_setCell _ _ _ _ (by show b ≠ w.heap.size + 1; omega)]
    · exact ((bN HB0.out hq).setCell (p := ⟨w.heap.size + 1, 0, none⟩) (by show w.heap.size ≤ w.heap.size + 1; omega) _).setCell (p := ⟨w.heap.size + 1, 1, none⟩) (by show w.heap.size ≤ w.heap.size + 1; omega) _
end Go.Proofs.Ytgmllfjidhbjjab


namespace Go.Proofs.Ytgmllfjidhbjjab
open Go.RowKit
set_option linter.unusedVariables false

/-- The first k rows, one behind the other; how many elements. -/
def joinV (R : Nat → List Value) : Nat → List Value
  | 0 => []
  | k + 1 => joinV R k ++ R k
def lenJ (L : Nat → Nat) : Nat → Nat
  | 0 => 0
  | k + 1 => lenJ L k + L k
/-- A slice of slices, its rows read as cells. -/
def Rw (size : Nat) (w : World) (a : Option Addr) (m : Nat) (A : Nat → Option Addr) (L C : Nat → Nat) (R : Nat → List Value) : Prop :=
  (∀ r, r < m → (A r = none → L r = 0 ∧ C r = 0) ∧ Cs w (A r) (R r) ∧ (R r).length = L r * size ∧ (∀ u ∈ R r, u.oneCell' = true)) ∧
  (m = 0 ∨ ∃ b off, a = some ⟨b, off, none⟩ ∧ b < w.heap.size ∧ ∀ r, r < m → w.cell? ⟨b, off + r, none⟩ = some (.slice (A r) (L r) (C r)))

theorem Rw.below {B size : Nat} {w w' : World} {a : Option Addr} {m : Nat} {A : Nat → Option Addr} {L C : Nat → Nat} {R : Nat → List Value} (h : Rw size w a m A L C R) (hb : Below B w w') (hB : w.heap.size ≤ B) : Rw size w' a m A L C R := by
  refine ⟨fun r hr => ⟨(h.1 r hr).1, (h.1 r hr).2.1.below hb hB, (h.1 r hr).2.2⟩, ?_⟩
  rcases h.2 with h0 | ⟨b, off, rfl, hlt, hc⟩
  · exact .inl h0
  · exact .inr ⟨b, off, rfl, Nat.lt_of_lt_of_le hlt hb.size, fun r hr => by rw [hb.cell (by show b < B; omega)]; exact hc r hr⟩

end Go.Proofs.Ytgmllfjidhbjjab


namespace Go.Proofs.Ytgmllfjidhbjjab
open Go.RowKit
set_option linter.unusedVariables false
set_option linter.unusedSimpArgs false

/-- Each list behind its number. -/
def placesW : List (List (List Int)) → Nat → List (List Int)
  | [], _ => []
  | ps :: rest, k => ps.map (fun p => (k : Int) :: p) ++ placesW rest (k + 1)
/-- All places, in order. -/
def Tm.places : Tm → List (List Int)
  | ⟨f, l⟩ => [] :: (if f < 0 then [] else placesW (l.map Tm.places) 0)
def Tm.placesL (l : List Tm) (k : Nat) : List (List Int) := placesW (l.map Tm.places) k
/-- A row of ints, as it is held. -/
structure Pr where
  a : Option Addr
  n : Nat
  c : Nat
  p : List Int
def Pr.v (x : Pr) : Value := .slice x.a x.n x.c
def ints (p : List Int) : List Value := p.map fun z => .int .i64 z
def Pr.ok (U : Nat → Prop) (w : World) (x : Pr) : Prop := x.n = x.p.length ∧ x.n ≤ x.c ∧ x.c ≤ maxLen ∧ (x.a = none → x.n = 0 ∧ x.c = 0) ∧ Cu U w x.a (ints x.p)
theorem Pr.ok.keep {U V : Nat → Prop} {w w' : World} {x : Pr} (h : x.ok U w) (hs : ∀ b, U b → b < w.heap.size → V b ∧ w'.heap[b]? = w.heap[b]?) : x.ok V w' := ⟨h.1, h.2.1, h.2.2.1, h.2.2.2.1, h.2.2.2.2.keep hs⟩
/-- A row of the call's own whose elements are rows of ints beside it. -/
def PsT (w : World) (base : Nat) (v : Value) (ps : List (List Int)) : Prop :=
  ∃ xs : List Pr, w.ownsRow base 29 1 v ps.length (xs.map Pr.v) ∧ xs.map Pr.p = ps ∧ ∀ x ∈ xs, x.ok (fun b => base ≤ b ∧ v.ownBlock ≠ some b) w

/-- All but v's own block stays; v' lies where v lay or is new. -/
def Onto (v v' : Value) (w w' : World) : Prop := w.heap.size ≤ w'.heap.size ∧ (∀ b, b < w.heap.size → v.ownBlock ≠ some b → w'.heap[b]? = w.heap[b]?) ∧ ∀ g, v'.ownBlock = some g → v.ownBlock = some g ∨ w.heap.size ≤ g
theorem Onto.trans {v v1 v2 : Value} {w w1 w2 : World} (h : Onto v v1 w w1) (k : Onto v1 v2 w1 w2) : Onto v v2 w w2 := by
  refine ⟨Nat.le_trans h.1 k.1, fun b hb hne => ?_, fun g hg => ?_⟩
  · rw [k.2.1 b (Nat.lt_of_lt_of_le hb h.1) (fun e => ?_), h.2.1 b hb hne]
    rcases h.2.2 b e with e' | e'
    · exact hne e'
    · omega
  · rcases k.2.2 g hg with e | e
    · exact h.2.2 g e
    · have := h.1; exact .inr (by omega)
theorem Onto.of_below {v : Value} {w w' : World} (h : Below w.heap.size w w') : Onto v v w w' := ⟨h.size, fun b hb _ => h.block b hb, fun g hg => .inl hg⟩

theorem PsT.bw {w w' : World} {base : Nat} {v : Value} {ps : List (List Int)} (h : PsT w base v ps) (hb : Below w.heap.size w w') : PsT w' base v ps := by
  obtain ⟨xs, h1, h2, h3⟩ := h
  exact ⟨xs, ownsRow_below h1 hb (Nat.le_refl _), h2, fun x hx => (h3 x hx).keep fun b hb' hlt => ⟨hb', hb.block b hlt⟩⟩

end Go.Proofs.Ytgmllfjidhbjjab


namespace Go.Proofs.Ytgmllfjidhbjjab
open Go.RowKit Go.Shelf
set_option linter.unusedVariables false
set_option linter.unusedSimpArgs false
attribute [local go_sem] Oper.semAt_some

/-- One more term. -/
def varS (acc : List Int) (s : Tm) : List Int := if s.f < 0 then (if (-1 - s.f) ∈ acc then acc else acc ++ [-1 - s.f]) else acc
/-- The numbers of the variables among these. -/
def varsF (l : List Tm) : List Int := l.foldl varS []
/-- The keys of the map. -/
def keysV (acc : List Int) : List Lit := acc.map fun n => .int .i64 n
/-- What the loop of Vars holds. -/
def VarI (w : World) (acc : List Int) (v : Value) (W : World) : Prop :=
  Boxed W (w.heap.size + 1) 29 v ∧ W.ownsRow (w.heap.size + 5) 3 1 v acc.length (ints acc) ∧ Boxed W (w.heap.size + 1 + 1 + 1) 76 (.map (some (w.heap.size + 1 + 1))) ∧ W.ownsMap (H := Unit) Try.prog 3 unitElem (w.heap.size + 1 + 1) acc.length (Maps.setOf (.agg []) (keysV acc)) ∧ Below w.heap.size w W ∧ w.heap.size + 5 ≤ W.heap.size

theorem ownsMap_at {W W' : World} {P : Program} {k : TypeId} {R : Value → Option (DataW Unit × List MemPlace)} {b n : Nat} {D : DataW Unit} (h : W.ownsMap P k R b n D) (hb : W'.heap[b]? = W.heap[b]?) : W'.ownsMap P k R b n D := by
  obtain ⟨es, ck, h1, h2⟩ := h
  exact ⟨es, ck, hb.trans h1, h2⟩

theorem VarI.abides {w A B : World} {acc : List Int} {v : Value} (h : VarI w acc v A) (hb : Below A.heap.size A B) : VarI w acc v B := by
  obtain ⟨h1, h2, h3, h4, h5, h6⟩ := h
  exact ⟨(hb.block _ h1.lt).trans h1, ownsRow_below h2 hb (Nat.le_refl _), (hb.block _ h3.lt).trans h3, ownsMap_at h4 (hb.block _ (by omega)), h5.trans (hb.mono h5.size), Nat.le_trans h6 hb.size⟩
theorem VarI.putObj {w A : World} {acc : List Int} {v : Value} (h : VarI w acc v A) {l : Nat} {o : Obj} (o' : Obj) (hwl : w.heap.size + 5 ≤ l) (hl : A.heap[l]? = some o) (ho : o.isCells = false) : VarI w acc v (A.putObj l o') := by
  obtain ⟨h1, h2, h3, h4, h5, h6⟩ := h
  refine ⟨boxed_put h1 o' hl ho, ownsRow_putObj h2 o' hl ho, boxed_put h3 o' hl ho, ownsMap_at h4 (World.putObj_heap_other (by omega)), h5.trans (kpt_put o' (by omega) hl ho).1, by simpa [World.putObj] using h6⟩

end Go.Proofs.Ytgmllfjidhbjjab


namespace Go.Proofs.Ytgmllfjidhbjjab
open Go.RowKit Go.Shelf
set_option linter.unusedVariables false
set_option linter.unusedSimpArgs false

/-- How many heads, those in variables' parts too. -/
def Tm.wt : Tm → Nat
  | ⟨_, l⟩ => 1 + (l.map Tm.wt).sum
def Tm.wts (l : List Tm) : Nat := (l.map Tm.wt).sum
theorem wts_nil : Tm.wts [] = 0 := rfl
theorem wts_cons (t : Tm) (ts : List Tm) : Tm.wts (t :: ts) = t.wt + Tm.wts ts := by simp [Tm.wts]
theorem Tm.wt_eq (t : Tm) : t.wt = 1 + Tm.wts t.l := by cases t with | mk f l => rw [Tm.wt]; rfl
theorem Tm.wts_mem {l : List Tm} {s : Tm} (h : s ∈ l) : s.wt ≤ Tm.wts l := by
  induction l with
  | nil => cases h
  | cons y ys ih =>
    rw [wts_cons]
    rcases List.mem_cons.1 h with rfl | h
    · omega
    · have := ih h; omega
theorem Tm.wts_len (l : List Tm) : l.length ≤ Tm.wts l := by
  induction l with
  | nil => simp [wts_nil]
  | cons y ys ih => rw [wts_cons, y.wt_eq, List.length_cons]; omega
theorem Tm.size_wt (t : Tm) : t.size ≤ t.wt := by
  induction t using Tm.ind with
  | h f l ih =>
    rw [Tm.size_eq, Tm.wt_eq]
    have h1 : ∀ l : List Tm, (∀ s ∈ l, s.size ≤ s.wt) → (l.flatMap Tm.flat).length ≤ Tm.wts l := by
      intro l hl
      induction l with
      | nil => simp
      | cons y ys ih2 =>
        have h1 := hl y (by simp)
        unfold Tm.size at h1
        rw [List.flatMap_cons, List.length_append, wts_cons]
        have := ih2 (fun s hs => hl s (List.mem_cons_of_mem _ hs))
        omega
    unfold Tm.ps
    split
    · simp
    · have := h1 l ih; show 1 + (l.flatMap Tm.flat).length ≤ 1 + Tm.wts l; omega

theorem cell2 {w : World} {b : Nat} {x y : Value} {t : TypeId} {fl : Nat × Nat} (h : w.heap[b]? = some (.cells #[x, y] t fl)) : w.cell? ⟨b, 0, none⟩ = some x ∧ w.cell? ⟨b, 1, none⟩ = some y := by
  constructor <;> simp [World.cell?, h]
/-- What Of tells. -/
def OfSays (w : World) (t : Tm) (e : Ending) (w' : World) : Prop := ∃ a n c, e = .returned (.agg #[.int .i64 t.f, .slice a n c]) ∧ Tat (fun b => w.heap.size ≤ b) w' t a n c ∧ Below w.heap.size w w'

end Go.Proofs.Ytgmllfjidhbjjab


namespace Go.Proofs.Ytgmllfjidhbjjab
open Go.RowKit
set_option linter.unusedVariables false
set_option linter.unusedSimpArgs false

def smallW : List (Int → Int → Int) → Int → Int → Int
  | [], most, _ => most
  | c :: cs, most, deep => if most < 0 then most else smallW cs (c most deep) deep
/-- What is left of the number. -/
def smallT : Tm → Int → Int → Int
  | ⟨f, l⟩, most, deep => if deep < 0 ∨ f < -1000 ∨ 1000 < f ∨ 20 < l.length then -1 else smallW (l.map fun s => fun m d => smallT s m d) (most - 1) (deep - 1)
def smallL (l : List Tm) (most deep : Int) : Int := smallW (l.map fun s => fun m d => smallT s m d) most deep
theorem smallT_eq (f : Int) (l : List Tm) (most deep : Int) : smallT ⟨f, l⟩ most deep = if deep < 0 ∨ f < -1000 ∨ 1000 < f ∨ 20 < l.length then -1 else smallL l (most - 1) (deep - 1) := by rw [smallT]; rfl
theorem smallL_nil (most deep : Int) : smallL [] most deep = most := rfl
theorem smallL_cons (t : Tm) (ts : List Tm) (most deep : Int) : smallL (t :: ts) most deep = if most < 0 then most else smallL ts (smallT t most deep) deep := rfl
theorem smallL_neg (l : List Tm) {m : Int} (d : Int) (h : m < 0) : smallL l m d = m := by
  cases l with
  | nil => rw [smallL_nil]
  | cons t ts => rw [smallL_cons, if_pos h]

theorem small_bounds (t : Tm) : ∀ most deep, 0 ≤ most → -1 ≤ smallT t most deep ∧ smallT t most deep < most ∧ (0 ≤ smallT t most deep → smallT t most deep + t.wt ≤ most) := by
  induction t using Tm.ind with
  | h f l ih =>
    intro most deep hm
    rw [smallT_eq]
    split
    · exact ⟨by omega, by omega, by omega⟩
    · have : ∀ (l : List Tm) (m d : Int), (∀ t ∈ l, ∀ most deep, 0 ≤ most → -1 ≤ smallT t most deep ∧ smallT t most deep < most ∧ (0 ≤ smallT t most deep → smallT t most deep + t.wt ≤ most)) → -1 ≤ m → -1 ≤ smallL l m d ∧ smallL l m d ≤ m ∧ (0 ≤ smallL l m d → smallL l m d + Tm.wts l ≤ m) := by
        intro l
        induction l with
        | nil => intro m d _ h; rw [smallL_nil, wts_nil]; exact ⟨h, Int.le_refl _, by omega⟩
        | cons y ys ih2 =>
          intro m d hl h
          rw [smallL_cons, wts_cons]
          split
          · exact ⟨by omega, by omega, by omega⟩
          · have h1 := hl y (by simp) m d (by omega)
            have h2 := ih2 (smallT y m d) d (fun s hs => hl s (List.mem_cons_of_mem _ hs)) h1.1
            refine ⟨h2.1, by omega, fun h3 => ?_⟩
            have := h2.2.2 h3
            have := h1.2.2 (by omega)
            omega
      have h1 := this l (most - 1) (deep - 1) ih (by omega)
      refine ⟨h1.1, by omega, fun h2 => ?_⟩
      have := h1.2.2 h2
      rw [Tm.wt_eq]
      show _ + ((1 + Tm.wts l : Nat) : Int) ≤ _
      omega

set_option maxRecDepth 100000 in
set_option maxHeartbeats 1000000 in
theorem small_any : ∀ (t : Tm) (U : Nat → Prop) (a : Option Addr) (n c : Nat) (most deep : Int) (w : World), Tat U w t a n c → 0 ≤ most → most ≤ 60 → -1 ≤ deep → deep ≤ 20 →
    Calls Try.prog 16 #[.agg #[.int .i64 t.f, .slice a n c], .int .i64 most, .int .i64 deep] w fun e w' => e = .returned (.int .i64 (smallT t most deep)) ∧ Below w.heap.size w w' := by
  intro t
  induction t using Tm.ind with
  | h f l ih =>
    intro U a n c most deep w ht hm1 hm2 hd1 hd2
    obtain ⟨w1, hw1⟩ : ∃ w1, w1 = w.alloc (.cells #[.int .i64 f, .slice a n c] 24) := ⟨_, rfl⟩
    have b1 : Below w.heap.size w w1 := by rw [hw1]; exact bA (bW _) _
    have x1 : w1.heap[w.heap.size]? = some (.cells #[.int .i64 f, .slice a n c] 24 (0, 0)) := by rw [hw1]; exact World.alloc_heap_new _ _
    have hl : Las U w1 l a n c := ht.las.bw b1
    have HL := hid hl.len
    have hn : n ≤ 9223372036854775807 := by have := HL.out; unfold maxLen at this; omega
    have HX : Hid (∀ V, Below w1.heap.size w1 V → V.cell? ⟨w.heap.size, 0, none⟩ = some (.int .i64 f) ∧ V.cell? ⟨w.heap.size, 1, none⟩ = some (.slice a n c)) := fun V hb => cell2 ((hb.block _ (Array.getElem?_eq_some_iff.1 x1).1).trans x1)
    have HLs : Hid (∀ V, Below w1.heap.size w1 V → Las U V l a n c) := fun V hb => hl.bw hb
    have HI := hid ih
    have HW := hid hw1
    have HD : Hid (smallT (.mk f l) most deep = if deep < 0 ∨ f < -1000 ∨ 1000 < f ∨ 20 < l.length then -1 else smallL l (most - 1) (deep - 1)) := by show _ = _; rw [smallT_eq]
    obtain ⟨z, hz⟩ : ∃ z, z = smallT (.mk f l) most deep := ⟨_, rfl⟩
    rw [← hz] at HD ⊢
    obtain ⟨c1, c2⟩ := HX.out w1 (bW _)
    clear hz hw1 x1 hl ht ih
    simp only
    by_cases hbad : deep < 0 ∨ f < -1000 ∨ 1000 < f ∨ 20 < n
    · have HE : Hid (z = -1) := by show _ = _; rw [HD.out, if_pos (by have := HL.out.1; omega)]
      rw [HE.out]
      have HB0 : Hid (Below w.heap.size w w1) := b1
      by_cases q1 : deep < 0
      · go_enter Try.func16, Try.ntmps16
        go_wp2
        go_ret
        exact ⟨rfl, bA (bW _) _⟩
      · by_cases q2 : f < -1000
        · go_enter Try.func16, Try.ntmps16
          go_wp2
          go_ret
          exact ⟨rfl, bA (bW _) _⟩
        · by_cases q3 : 1000 < f
          · go_enter Try.func16, Try.ntmps16
            go_wp2
            go_ret
            exact ⟨rfl, bA (bW _) _⟩
          · have q4 : 20 < n := by omega
            go_enter Try.func16, Try.ntmps16
            go_wp2
            go_ret
            exact ⟨rfl, bA (bW _) _⟩
    · have HE : Hid (z = smallL l (most - 1) (deep - 1)) := by show _ = _; rw [HD.out, if_neg (by have := HL.out.1; omega)]
      have q1 : ¬ deep < 0 := by omega
      have q2 : ¬ f < -1000 := by omega
      have q3 : ¬ 1000 < f := by omega
      have q4 : ¬ 20 < n := by omega
      clear hbad HD
      go_enter Try.func16, Try.ntmps16
      go_wp2_with fail
      rw [← HW.out]
      go_loopw [1, 7] (fun u i wr => ∃ (k : Nat) (m : Int), u = .int .i64 m ∧ i = .int .i64 (k : Int) ∧ k ≤ n ∧ -1 ≤ m ∧ m ≤ 60 ∧ Below w1.heap.size w1 wr ∧ smallL (l.drop k) m (deep - 1) = z) (fun u i _ => n - (intOf i).toNat)
      case atStart => exact ⟨0, most - 1, rfl, rfl, by omega, by omega, by omega, bW _, by rw [HE.out]; simp⟩
      case round =>
        obtain ⟨k, m, rfl, rfl, hk, hm3, hm4, hbr, hsm⟩ := hrel
        have HSM := hid hsm
        obtain ⟨d1, d2⟩ := HX.out wr hbr
        clear hsm c1 c2
        by_cases hlt : k < n
        · by_cases hmn : 0 ≤ m
          · obtain ⟨b, off, s, a', n', c', rfl, hU, hlt', hs, hT, e1, e2⟩ := (HLs.out wr hbr).at hlt
            have HS := hid hs
            have hbd := small_bounds s m (deep - 1) hmn
            have HR : Hid (smallL (l.drop (k + 1)) (smallT s m (deep - 1)) (deep - 1) = z) := by
              show _ = _
              rw [← HSM.out, drop_at HS.out, smallL_cons, if_neg (by omega)]
            have HCall : Hid (Calls Try.prog 16 #[.agg #[.int .i64 s.f, .slice a' n' c'], .int .i64 m, .int .i64 (deep - 1)] wr fun e w' => e = .returned (.int .i64 (smallT s m (deep - 1))) ∧ Below wr.heap.size wr w') := HI.out s (List.mem_of_getElem? HS.out) U a' n' c' m (deep - 1) wr hT hmn hm4 (by omega) (by omega)
            obtain ⟨y, hy⟩ : ∃ y, y = smallT s m (deep - 1) := ⟨_, rfl⟩
            rw [← hy] at HR HCall hbd
            clear hs hT hy
            go_wp2_with (go_at_call 16; refine HCall.out.mono ?_; rintro e w2 ⟨rfl, hb2⟩)
            go_roundw
            case rel => exact ⟨k + 1, y, rfl, by go_num, by omega, by omega, by omega, bN hbr hb2, HR.out⟩
            case measure => simp [intOf]; omega
          · have HZ : Hid (z = m) := by show _ = _; rw [← HSM.out, smallL_neg _ _ (by omega)]
            go_wp2
            go_ret
            exact ⟨by rw [HZ.out]; rfl, bN b1 hbr⟩
        · have HZ : Hid (z = m) := by
            show _ = _
            rw [← HSM.out, List.drop_eq_nil_of_le (by have := HL.out.1; omega), smallL_nil]
          go_wp2
          go_ret
          exact ⟨by rw [HZ.out]; rfl, bN b1 hbr⟩
end Go.Proofs.Ytgmllfjidhbjjab


namespace Go.Proofs.Ytgmllfjidhbjjab
open Go.RowKit
set_option linter.unusedVariables false
set_option maxRecDepth 100000

def Tm.rng : Tm → Prop
  | ⟨f, l⟩ => (-9223372036854775808 ≤ f ∧ f ≤ 9223372036854775807) ∧ ∀ t ∈ l, Tm.rng t
theorem Tm.rng_iff (t : Tm) : t.rng ↔ (-9223372036854775808 ≤ t.f ∧ t.f ≤ 9223372036854775807) ∧ ∀ s ∈ t.l, s.rng := by cases t; rw [Tm.rng]

theorem sq_of_ecs {U : Nat → Prop} {w : World} : ∀ {l : List Tm} {xs : List Value}, (∀ t ∈ l, ∀ a n c, Tat U w t a n c → Rep (fun b _ => U b) w t.cv [.int .i64 t.f, .slice a n c]) → Ecs U w l xs → Sq ((l.map Tm.cv).map fun c => Rep (fun b _ => U b) w c) xs
  | [], xs, _, h => Ecs.nil_iff.1 h
  | t :: ts, xs, ht, h => by
    obtain ⟨a, n, c, ys, e, h1, h2⟩ := Ecs.cons_iff.1 h
    exact ⟨[.int .i64 t.f, .slice a n c], ys, by rw [e]; rfl, ht t (by simp) a n c h1, sq_of_ecs (fun s hs => ht s (List.mem_cons_of_mem _ hs)) h2⟩
theorem at_of_cu {U : Nat → Prop} {w : World} {a : Option Addr} {xs : List Value} (h : Cu U w a xs) : At (fun b _ => U b) w a xs := by
  rcases h with h | ⟨b, off, h1, h2, h3, h4⟩
  · exact .inl h
  · exact .inr ⟨b, off, h1, fun i hi => ⟨h2, h4 i hi⟩⟩
theorem rep_of_tat {U : Nat → Prop} {w : World} : ∀ {t : Tm} {a : Option Addr} {n c : Nat}, Tat U w t a n c → Rep (fun b _ => U b) w t.cv [.int .i64 t.f, .slice a n c] := by
  intro t
  induction t using Tm.ind with
  | h f l ih =>
    intro a n c h
    obtain ⟨_, h2, h3, h4, h5, xs, h6, h7⟩ := tat_iff.1 h
    rw [Tm.cv_eq]
    refine rep_row.2 ⟨[.int .i64 f], [.slice a n c], rfl, rep_int _ _, [.slice a n c], [], rfl, rep_lst.2 ⟨a, n, c, rfl, by rw [List.length_map]; exact h2, h3, h4, h5, xs, at_of_cu h6, sq_of_ecs (fun t ht a n c => ih t ht) h7⟩, rfl⟩
theorem vrep_of_tat {U : Nat → Prop} {w : World} {t : Tm} {a : Option Addr} {n c : Nat} (h : Tat U w t a n c) : VRep (fun b _ => U b) w t.cw (.agg #[.int .i64 t.f, .slice a n c]) := by
  have := rep_of_tat h
  rw [Tm.cv_eq] at this
  exact ⟨_, rfl, this⟩
theorem Tat.rng {U : Nat → Prop} {w : World} : ∀ {t : Tm} {a : Option Addr} {n c : Nat}, Tat U w t a n c → t.rng := by
  intro t
  induction t using Tm.ind with
  | h f l ih =>
    intro a n c h
    obtain ⟨h1, h2, h3, h4, h5, xs, h6, h7⟩ := tat_iff.1 h
    rw [Tm.rng_iff]
    refine ⟨h1, fun s hs => ?_⟩
    obtain ⟨i, hi, he⟩ := List.mem_iff_getElem.1 hs
    obtain ⟨s', a', n', c', e1, e2, _⟩ := h7.at (i := i) hi
    have hi' : i < l.length := hi
    rw [List.getElem?_eq_getElem hi'] at e1
    have e1 := Option.some.inj e1
    have he : l[i] = s := he
    rw [← he]
    exact ih _ (List.getElem_mem hi') (by rw [e1]; exact e2)

theorem ecs_of_sq {U : Nat → Nat → Prop} {w : World} : ∀ {l : List Tm} {xs : List Value}, (∀ t ∈ l, ∀ ys, Rep U w t.cv ys → ∃ a n c, ys = [.int .i64 t.f, .slice a n c] ∧ Tat (fun _ => True) w t a n c) → Sq ((l.map Tm.cv).map fun c => Rep U w c) xs → Ecs (fun _ => True) w l xs
  | [], xs, _, h => Ecs.nil_iff.2 h
  | t :: ts, xs, ht, ⟨ys, zs, e, h1, h2⟩ => by
    obtain ⟨a, n, c, e1, h3⟩ := ht t (by simp) ys h1
    exact Ecs.cons_iff.2 ⟨a, n, c, zs, by rw [e, e1]; rfl, h3, ecs_of_sq (fun s hs => ht s (List.mem_cons_of_mem _ hs)) h2⟩
theorem tat_of_rep {U : Nat → Nat → Prop} {w : World} : ∀ {t : Tm} {xs : List Value}, t.rng → Rep U w t.cv xs → ∃ a n c, xs = [.int .i64 t.f, .slice a n c] ∧ Tat (fun _ => True) w t a n c := by
  intro t
  induction t using Tm.ind with
  | h f l ih =>
    intro xs hr h
    rw [Tm.rng_iff] at hr
    rw [Tm.cv_eq] at h
    obtain ⟨y1, y2, e1, h1, y3, y4, e2, h2, h3⟩ := rep_row.1 h
    obtain ⟨rfl, _⟩ := rep_sc.1 h1
    obtain ⟨a, n, c, rfl, g2, g3, g4, g5, zs, g6, g7⟩ := rep_lst.1 h2
    have h3 : y4 = [] := h3
    subst h3
    refine ⟨a, n, c, by rw [e1, e2]; rfl, tat_iff.2 ⟨hr.1, by rw [List.length_map] at g2; exact g2, g3, g4, g5, zs, ?_, ecs_of_sq (fun t ht ys hy => ih t ht (hr.2 t ht) hy) g7⟩⟩
    rcases g6 with g6 | ⟨b, off, g6, g8⟩
    · exact .inl g6
    · by_cases hz : zs = []
      · exact .inl hz
      · refine .inr ⟨b, off, g6, trivial, ?_, fun i hi => (g8 i hi).2⟩
        have hpos : 0 < zs.length := List.length_pos_iff.2 hz
        have := (g8 0 hpos).2
        rw [List.getElem?_eq_getElem hpos] at this
        exact World.block_lt_of_cell? w _ this
theorem tat_of_vrep {U : Nat → Nat → Prop} {w : World} {t : Tm} {v : Value} (hr : t.rng) (h : VRep U w t.cw v) : ∃ a n c, v = .agg #[.int .i64 t.f, .slice a n c] ∧ Tat (fun _ => True) w t a n c := by
  obtain ⟨xs, h1, h2⟩ : ∃ xs : List Value, v = .agg xs.toArray ∧ Rep U w t.cw xs := h
  rw [← Tm.cv_eq] at h2
  obtain ⟨a, n, c, h3, h4⟩ := tat_of_rep hr h2
  exact ⟨a, n, c, by rw [h1, h3], h4⟩

theorem same_abs (W : World) {t s : Tm} (ht : t.rng) (hs : s.rng) : AFun Try.prog W 20 [t.cw, s.cw] (.val (.b (sameT t s))) := by
  refine ⟨ent_of Try.func20 rfl rfl, .inl rfl, rfl, ?_⟩
  rintro U w vs hW ⟨u1, us1, rfl, h1, u2, us2, rfl, h2, h3⟩
  have h3 : us2 = [] := h3
  subst h3
  obtain ⟨a, n, c, rfl, h4⟩ := tat_of_vrep ht h1
  obtain ⟨a', n', c', rfl, h5⟩ := tat_of_vrep hs h2
  refine (same_any t s a a' n c n' c' w h4 h5).mono ?_
  rintro e w' ⟨rfl, hb⟩
  exact ⟨_, rfl, vrep_sc.2 ⟨rfl, rfl⟩, hb⟩
theorem top_abs (W : World) {t : Tm} (ht : t.rng) : AFun Try.prog W 26 [t.cw] (.val (.i (topF t.flat))) := by
  refine ⟨ent_of Try.func26 rfl rfl, .inl rfl, rfl, ?_⟩
  rintro U w vs hW ⟨u1, us1, rfl, h1, h3⟩
  have h3 : us1 = [] := h3
  subst h3
  obtain ⟨a, n, c, rfl, h4⟩ := tat_of_vrep ht h1
  refine (top_any h4).mono ?_
  rintro e w' ⟨rfl, hb⟩
  exact ⟨_, rfl, vrep_sc.2 ⟨rfl, rfl⟩, hb⟩
theorem clone_abs (W : World) {t : Tm} (ht : t.rng) (hm : t.size ≤ 1000000000) : AFun Try.prog W 50 [t.cw] (.val t.strip.cw) := by
  refine ⟨ent_of Try.func50 rfl rfl, .inl rfl, rfl, ?_⟩
  rintro U w vs hW ⟨u1, us1, rfl, h1, h3⟩
  have h3 : us1 = [] := h3
  subst h3
  obtain ⟨a, n, c, rfl, h4⟩ := tat_of_vrep ht h1
  refine (clone_any t a n c w h4 hm).mono ?_
  rintro e w' h
  obtain ⟨a', n', c', rfl, h5, hb⟩ := h.tat h4.wf
  refine ⟨_, rfl, ?_, hb⟩
  have := vrep_of_tat h5
  rw [Tm.strip_f] at this
  exact this.mono fun b o h => .inr h
theorem small_abs (W : World) (t : Tm) (most deep : Int) (ht : t.rng) (h0 : 0 ≤ most) (h1 : most ≤ 60) (h2 : -1 ≤ deep) (h3 : deep ≤ 20) : AFun Try.prog W 16 [t.cw, .i most, .i deep] (.val (.i (smallT t most deep))) := by
  refine ⟨ent_of Try.func16 rfl rfl, .inl rfl, rfl, ?_⟩
  rintro U w vs hW ⟨u1, us1, rfl, g1, u2, us2, rfl, g2, u3, us3, rfl, g3, g4⟩
  have g4 : us3 = [] := g4
  subst g4
  obtain ⟨a, n, c, rfl, h4⟩ := tat_of_vrep ht g1
  obtain ⟨rfl, _⟩ := vrep_sc.1 g2
  obtain ⟨rfl, _⟩ := vrep_sc.1 g3
  refine (small_any t _ a n c most deep w h4 h0 h1 h2 h3).mono ?_
  rintro e w' ⟨rfl, hb⟩
  exact ⟨_, rfl, vrep_sc.2 ⟨rfl, rfl⟩, hb⟩
end Go.Proofs.Ytgmllfjidhbjjab


namespace Go.Proofs.Ytgmllfjidhbjjab
set_option linter.unusedVariables false

structure Bd where
  v : Int
  t : Tm
noncomputable abbrev Bd.cw (b : Bd) : CV := .row [.i b.v, b.t.cw]
noncomputable def Bd.cv (b : Bd) : CV := b.cw
theorem Bd.size_all (l : List Bd) : ∀ c ∈ l.map Bd.cv, c.size = 3 := by
  intro c hc
  obtain ⟨b, _, rfl⟩ := List.mem_map.1 hc
  rfl
theorem Bd.map_at {l : List Bd} {i : Nat} {b : Bd} (h : l[i]? = some b) : (l.map Bd.cv)[i]? = some b.cw := by rw [List.getElem?_map, h]; rfl

/-- The first one of a number. -/
def findB : List Bd → Int → Option Tm
  | [], _ => none
  | b :: l, v => if b.v = v then some b.t else findB l v
def varT (v : Int) : Tm := ⟨-1 - v, []⟩
def imgB (l : List Bd) (v : Int) : Tm := (findB l v).getD (varT v)
/-- Others in the place of variables. -/
def repT (img : Int → Tm) : Tm → Tm
  | ⟨f, l⟩ => if f < 0 then (img (-1 - f)).strip else ⟨f, l.map (repT img)⟩
theorem repT_var {img : Int → Tm} {t : Tm} (h : t.f < 0) : repT img t = (img (-1 - t.f)).strip := by cases t; rw [repT, if_pos h]
theorem repT_sym {img : Int → Tm} {t : Tm} (h : ¬ t.f < 0) : repT img t = ⟨t.f, t.l.map (repT img)⟩ := by cases t; rw [repT, if_neg h]
end Go.Proofs.Ytgmllfjidhbjjab


namespace Go.Proofs.Ytgmllfjidhbjjab
open Go.RowKit
set_option linter.unusedVariables false
section
variable {P : Program} {w0 : World} {U0 : UX} {nt : Nat} {ops : Array Oper} {o : Oper} {S : Nat → Option AV} {gs : List Nat} {d : Nat}
theorem a_offt {d' : Nat} (hg : Go w0 U0 nt ops o gs S) (hd : o.dst = some d') (hn : Nat.blt d' nt = true) (h5 : Nat.blt d' 100000 = true) : AOp P w0 U0 nt ops o gs [] S [(d', .tup [])] := by
  intro s hs _ a w ⟨D, hv, h⟩ Q K hK
  rw [if_neg (by rw [hg s hs a w D hv h]; simp), hd]
  exact hK _ _ ⟨D, hv, h.put (blt_lt hn) (blt_lt h5) (by unfold AVRep; exact ⟨[], rfl, rfl⟩)⟩
theorem go_off_t {j : Nat} {c : Bool} (hg : o.guard = some (j, c)) (hj : (ops[j]?).bind (·.dst) = some d) (h5 : Nat.blt d 100000 = true) (hS : S d = some (.tup [])) : Go w0 U0 nt ops o [d] S := fun s hs a w D hv h => by
  obtain ⟨v, h1, h2⟩ := h.slot d _ ((hs d (by simp)).trans hS) (blt_lt h5)
  obtain ⟨vs, h3, h4⟩ : ∃ vs : List Value, v = .tuple vs.toArray ∧ VReps (Us w0 U0 D) w [] vs := h2
  simp [Region.wanted, hg, yielded, hj, h1, h3]
end
end Go.Proofs.Ytgmllfjidhbjjab


namespace Go.Proofs.Ytgmllfjidhbjjab
open Go.RowKit
set_option linter.unusedVariables false
set_option linter.unusedSimpArgs false

theorem add_at (b off j : Nat) : (⟨b, off, none⟩ : Addr).add j = ⟨b, off + j, none⟩ := by unfold Addr.add; split <;> simp_all

section
variable {P : Program} {w0 : World} {U0 : UX} {nt : Nat} {ops : Array Oper} {o : Oper} {S : Nat → Option AV} {gs : List Nat} {d : Nat} {s : AS} {a : Act} {w : World} {D : Nat → Nat → Prop} {hv : Nat → Value}

theorem run_sizeOf {e : TypeId} {z : Nat} (hi : (P.info? e).map (·.size) = some z) : (sizeOf e).run P w = .ok z w := by
  cases hi' : P.info? e with
  | none => rw [hi'] at hi; simp at hi
  | some i => rw [hi'] at hi; simp at hi; simp [sizeOf, typeInfo, hi', hi]

/-- A row that may be written. -/
theorem SimG.mrow (h : SimG w0 U0 nt s a w D hv) {n e z : Nat} {l : List CV} (h1 : look s n = some (.mrow e z l)) (hn : RN n) : ∃ xs, w.ownsRow 0 e z (hv n) l.length xs ∧ 0 < z ∧ (∀ c ∈ l, c.size = z) ∧ Sq (l.map fun c => Rep (Us w0 U0 D) w c) xs := by
  have : OC (Us w0 U0 D) w hv (LiveN s) (.mrow e z l) (hv n) := h.obj n _ h1 (by unfold RN at hn; unfold oKey; omega)
  exact this
/-- One that has elements. -/
theorem own_some {e z : Nat} {v : Value} {k : Nat} {xs : List Value} (h : w.ownsRow 0 e z v k xs) (hk : 0 < k) : ∃ g cap cur, v = .slice (some ⟨g, 0, none⟩) k cap ∧ w.heap[g]? = some (.cells cur e (0, 0)) ∧ k ≤ cap ∧ cap ≤ maxLen ∧ cur.size = cap * z ∧ cur.toList.take (k * z) = xs ∧ blkOf v = g ∧ hb v = some g := by
  rcases h.2 with ⟨_, rfl⟩ | ⟨g, cap, cur, rfl, _, h3, h4, h5, h6, h7⟩
  · omega
  · exact ⟨g, cap, cur, rfl, h3, h4, h5, h6, h7, rfl, rfl⟩
theorem own_slice {e z : Nat} {v : Value} {k : Nat} {xs : List Value} (h : w.ownsRow 0 e z v k xs) : ∃ ao cap, v = .slice ao k cap ∧ k ≤ cap ∧ cap ≤ maxLen := by
  rcases h.2 with ⟨rfl, rfl⟩ | ⟨g, cap, cur, rfl, _, h3, h4, h5, h6, h7⟩
  · exact ⟨none, 0, rfl, Nat.le_refl _, by unfold maxLen; omega⟩
  · exact ⟨_, cap, rfl, h4, h5⟩

section
variable (hg : Gd w0 U0 nt ops o gs S) (hd : o.dst = some d) (hn : Nat.blt d nt = true) (h5 : Nat.blt d 100000 = true)
include hg hd hn h5
/-- The address of an element. -/
theorem a_indexM {x y : Operand} {ty e e' : TypeId} {l : List CV} {i : Int} {k n lo len z : Nat} {kd : IntKind} {n' q' p'} (ho : o.op = .indexAddr ty x y) (hu : P.underlying ty = some (.slice e)) (hi : (P.info? e).map (·.size) = some z) (hx : ev S x = some (.sl n lo len z)) (hy : ev S y = some ⟨0, .sc (.int kd i), n', q', p'⟩) (hm' : S n = some (.mrow e' z l)) (hk : i + (lo : Int) = (k : Int) ∧ lo ≤ k ∧ k < lo + len ∧ lo + len ≤ l.length) : AOp P w0 U0 nt ops o (gs ++ (rd x ++ (rd y ++ [n]))) [] S [(d, .el n (k * z) [k])] :=
  aop_val hg hd hn h5 (fun k hk => List.mem_append_left _ hk) fun s hs a w D hv hm => by
    obtain ⟨hij, hlo, hj, hl⟩ := hk
    obtain ⟨j, rfl⟩ : ∃ j, k = lo + j := ⟨k - lo, by omega⟩
    obtain ⟨hrn, ao, m, cap, ao', h1, h2, h3, h4, h6, _⟩ : RN n ∧ SlV (hv n) lo len z (a.eval x) := ev_rep hm (fun k hk => hs k (List.mem_append_right _ (List.mem_append_left _ hk))) hx
    have e2 := ev_sc hm (fun k hk => hs k (List.mem_append_right _ (List.mem_append_right _ (List.mem_append_left _ hk)))) hy
    obtain ⟨xs, g1, _⟩ := hm.mrow ((hs n (by simp)).trans hm') hrn
    obtain ⟨g, cap', cur, f1, f2, f3, f4, f6, f7, f8, f9⟩ := own_some g1 (by omega)
    rw [f1] at h1
    injection h1 with h1 h7 h8
    subst h1; subst h7; subst h8
    have ha : ao' = some ⟨g, lo * z, none⟩ := h6 (by omega) g rfl
    subst ha
    have hij : i = (j : Int) := by omega
    have hj : j < len := by omega
    subst hij
    have hsz := run_sizeOf (P := P) (w := w) hi
    refine ⟨.pointer (some ⟨g, (lo + j) * z, none⟩), ?_, ?_⟩
    · have hadd : (⟨g, lo * z, none⟩ : Addr).add (j * z) = ⟨g, (lo + j) * z, none⟩ := by rw [add_at, Nat.add_mul]
      generalize a.eval = ρ at h2 e2 ⊢
      simp [execOp, ho, Instr.indexAt, asIntOf, h2, e2, run_underlying hu, hj, hsz, hadd]
    · exact ⟨hrn, by show _ = Value.pointer (some ⟨blkOf (hv n), _, none⟩); rw [f8]⟩

/-- x[j:] -/
theorem a_fromM {x y : Operand} {t e : TypeId} {z : Nat} {k : IntKind} {i : Int} {j n lo len : Nat} {n' q' p'} (ho : o.op = .slice t x (some y) none none) (hu : P.underlying t = some (.slice e)) (hi : (P.info? e).map (·.size) = some z) (hx : ev S x = some (.sl n lo len z)) (hy : ev S y = some ⟨0, .sc (.int k i), n', q', p'⟩) (hij : i = (j : Int)) (hj : j ≤ len) : AOp P w0 U0 nt ops o (gs ++ (rd x ++ rd y)) [] S [(d, .sl n (lo + j) (len - j) z)] :=
  aop_val hg hd hn h5 (fun k hk => List.mem_append_left _ hk) fun s hs a w D hv hm => by
    obtain ⟨hrn, ao, m, cap, ao', h1, h2, h3, h4, h6, h7⟩ : RN n ∧ SlV (hv n) lo len z (a.eval x) := ev_rep hm (fun k hk => hs k (List.mem_append_right _ (List.mem_append_left _ hk))) hx
    have e2 := ev_sc hm (fun k hk => hs k (List.mem_append_right _ (List.mem_append_right _ hk))) hy
    have hsz := run_sizeOf (P := P) (w := w) hi
    refine ⟨.slice (if cap - lo = j then ao' else ao'.map (·.add (j * z))) (len - j) (cap - lo - j), ?_, hrn, ao, m, cap, _, h1, by rw [Nat.sub_sub]; rfl, by show lo + j + (len - j) ≤ cap; omega, fun h8 => ?_, fun h8 => ?_, ?_⟩
    · have hb := run_bound (P := P) (w := w) (k := k) (j := j) (y := len) (code := .sliceB) hj
      subst hij
      generalize a.eval = ρ at h2 e2 ⊢
      simp [execOp, ho, Instr.sliceAt, Instr.slice, run_underlying hu, h2, e2, Instr.sliceBounds, hb, hsz]
    · have h8 : lo + j = 0 := h8
      have hj0 : j = 0 := by omega
      subst hj0
      rw [h4 (by omega)]
      split
      · rfl
      · cases ao with
        | none => rfl
        | some ad => simp [Addr.add]
    · have h8 : lo + j < cap := h8
      intro g hg'
      rw [if_neg (by omega), h6 (by omega) g hg']
      show some ((⟨g, lo * z, none⟩ : Addr).add (j * z)) = some ⟨g, (lo + j) * z, none⟩
      rw [add_at, Nat.add_mul]
    · split
      · exact h7
      · rw [Option.map_eq_none_iff]; exact h7
/-- x[:j] -/
theorem a_uptoM {x y : Operand} {t e : TypeId} {z : Nat} {k : IntKind} {i : Int} {j n lo len : Nat} {n' q' p'} (ho : o.op = .slice t x none (some y) none) (hu : P.underlying t = some (.slice e)) (hi : (P.info? e).map (·.size) = some z) (hx : ev S x = some (.sl n lo len z)) (hy : ev S y = some ⟨0, .sc (.int k i), n', q', p'⟩) (hij : i = (j : Int)) (hj : j ≤ len) : AOp P w0 U0 nt ops o (gs ++ (rd x ++ rd y)) [] S [(d, .sl n lo j z)] :=
  aop_val hg hd hn h5 (fun k hk => List.mem_append_left _ hk) fun s hs a w D hv hm => by
    obtain ⟨hrn, ao, m, cap, ao', h1, h2, h3, h4, h6, h7⟩ : RN n ∧ SlV (hv n) lo len z (a.eval x) := ev_rep hm (fun k hk => hs k (List.mem_append_right _ (List.mem_append_left _ hk))) hx
    have e2 := ev_sc hm (fun k hk => hs k (List.mem_append_right _ (List.mem_append_right _ hk))) hy
    have hsz := run_sizeOf (P := P) (w := w) hi
    have hid : (if cap - lo = 0 then ao' else ao'.map (·.add (0 * z))) = ao' := by
      split
      · rfl
      · cases ao' with
        | none => rfl
        | some ad => simp [Addr.add]
    refine ⟨.slice ao' j (cap - lo), ?_, hrn, ao, m, cap, ao', h1, rfl, by show lo + j ≤ cap; omega, h4, h6, h7⟩
    have hb := run_bound (P := P) (w := w) (k := k) (j := j) (y := cap - lo) (code := .sliceAcap) (by omega)
    subst hij
    generalize a.eval = ρ at h2 e2 ⊢
    simp [execOp, ho, Instr.sliceAt, Instr.slice, run_underlying hu, h2, e2, Instr.sliceBounds, hb, hsz, hid] <;> simpa using hid
end

theorem mem_set_of {α : Type} {l : List α} {j : Nat} {c x : α} (h : x ∈ l.set j c) : x ∈ l ∨ x = c := by
  rcases List.mem_or_eq_of_mem_set h with h | h
  · exact .inl h
  · exact .inr h
end
end Go.Proofs.Ytgmllfjidhbjjab


namespace Go.Proofs.Ytgmllfjidhbjjab
open Go.RowKit
set_option linter.unusedVariables false
set_option linter.unusedSimpArgs false

/-- Values, one by one. -/
def AVReps (U : Nat → Nat → Prop) (w : World) (hv : Nat → Value) (lv : Nat → Prop) : List AV → List Value → Prop
  | [], vs => vs = []
  | c :: cs, vs => ∃ u us, vs = u :: us ∧ AVRep U w hv lv c u ∧ AVReps U w hv lv cs us
theorem AVReps.len {U : Nat → Nat → Prop} {w : World} {hv : Nat → Value} {lv : Nat → Prop} : ∀ {l : List AV} {vs : List Value}, AVReps U w hv lv l vs → vs.length = l.length
  | [], _, h => by have h : _ = [] := h; rw [h]; rfl
  | c :: cs, vs, ⟨u, us, e, h1, h2⟩ => by rw [e, List.length_cons, List.length_cons, AVReps.len h2]
theorem AVReps.at {U : Nat → Nat → Prop} {w : World} {hv : Nat → Value} {lv : Nat → Prop} : ∀ {l : List AV} {vs : List Value}, AVReps U w hv lv l vs → ∀ {i : Nat} {c : AV}, l[i]? = some c → ∃ v, vs[i]? = some v ∧ AVRep U w hv lv c v
  | [], _, _, i, c, hi => by simp at hi
  | c' :: cs, vs, ⟨u, us, e, h1, h2⟩, 0, c, hi => by
    simp only [List.getElem?_cons_zero, Option.some.injEq] at hi
    exact ⟨u, by rw [e]; rfl, hi ▸ h1⟩
  | c' :: cs, vs, ⟨u, us, e, h1, h2⟩, i + 1, c, hi => by
    obtain ⟨v, h3, h4⟩ := AVReps.at h2 (i := i) (c := c) (by simpa using hi)
    exact ⟨v, by rw [e]; simpa using h3, h4⟩
theorem AVReps.imp {U V : Nat → Nat → Prop} {w w' : World} {hv hv' : Nat → Value} {lv lv' : Nat → Prop} : ∀ {l : List AV} {vs : List Value}, (∀ c ∈ l, ∀ v, AVRep U w hv lv c v → AVRep V w' hv' lv' c v) → AVReps U w hv lv l vs → AVReps V w' hv' lv' l vs
  | [], _, _, h => h
  | c :: cs, vs, hc, ⟨u, us, e, h1, h2⟩ => ⟨u, us, e, hc c (by simp) u h1, AVReps.imp (fun x hx => hc x (List.mem_cons_of_mem _ hx)) h2⟩

/-- Lent these, with arguments like these, it returns this and leaves these. -/
def AFunO (P : Program) (f : FuncId) (pre : AS) (args : List AV) (r : AV) (post : AS) : Prop :=
  EntF P f ∧ ∀ (U : UX) (w : World) (hv : Nat → Value) (a0 : Act) (vs : List Value), (∀ k v, U.f k = some v → hasN (keysOf pre) k = true) → SimG w U 0 pre a0 w (fun _ _ => False) hv → AVReps (Us w U (fun _ _ => False)) w hv (LiveN pre) args vs →
    Calls P f vs.toArray w fun e w' => ∃ v D' hv' a', e = .returned v ∧ SimG w U 0 post a' w' D' hv' ∧ AVRep (Us w U D') w' hv' (LiveN post) r v

def evsA (S : Nat → Option AV) : List Operand → Option (List AV)
  | [] => some []
  | x :: xs => match ev S x, evsA S xs with
    | some c, some cs => some (c :: cs)
    | _, _ => none

/-- Each row of it is told by S. -/
def SubS (S : Nat → Option AV) : AS → Prop
  | [] => True
  | (k, av) :: s => S k = some av ∧ SubS S s
theorem SubS.look {S : Nat → Option AV} : ∀ {s : AS}, SubS S s → ∀ {k av}, look s k = some av → S k = some av
  | [], _, k, av, h => by simp [Go.Proofs.Ytgmllfjidhbjjab.look] at h
  | (k', av') :: s, ⟨h1, h2⟩, k, av, h => by
    rw [look_cons] at h
    split at h
    · rename_i e; subst e; cases h; exact h1
    · exact SubS.look h2 h

/-- What may be lent: rows, maps, boxes of names from 300000 on, and their fields. -/
def lendB (p : Nat × AV) : Bool := match Nat.ble 500000 p.1 with
  | true => true
  | false => Nat.ble 300000 p.1 && !Nat.beq p.2.t 6 && !Nat.beq p.2.t 7 && (Nat.blt p.1 450000 || Nat.beq p.2.t 5 || Nat.beq p.2.t 9)
/-- What may be left: nothing that is named is unknown. -/
def refB (ks : List Nat) (av : AV) : Bool := match Nat.beq av.t 0 || Nat.beq av.t 5 with
  | true => Nat.ble av.n 1
  | false => match Nat.beq av.t 2 || Nat.beq av.t 11 || Nat.beq av.t 12 || Nat.beq av.t 15 with
    | true => hasN ks (hk av)
    | false => true
def leaveB (ks : List Nat) (p : Nat × AV) : Bool := Nat.ble 200000 p.1 && !Nat.beq p.2.t 6 && refB ks p.2 && (match Nat.ble 500000 p.1 with | true => Nat.ble 350000 (fnm p.1) && Nat.blt (fnm p.1) 400000 && hasN ks (100000 + fnm p.1) | false => true)
/-- The names that are new, or are another's now. -/
def newN (pre post : List Nat) : List Nat → List (Nat × List Nat)
  | [] => []
  | k :: ks => match Nat.ble 500000 k, Nat.blt k 400000, Nat.blt k 450000, hasN pre k with
    | true, _, _, _ => newN pre post ks
    | false, true, _, _ => (k, pre ++ post) :: newN pre post ks
    | false, false, true, true => newN pre post ks
    | false, false, true, false => (k, pre ++ post) :: newN pre post ks
    | false, false, false, true => (k - 100000 + 1000000, pre ++ post) :: newN pre post ks
    | false, false, false, false => (k - 100000, pre ++ post) :: newN pre post ks

theorem ble_no {a b : Nat} (h : b < a) : Nat.ble a b = false := by
  cases e : Nat.ble a b with
  | false => rfl
  | true => have := Nat.le_of_ble_eq_true e; omega
theorem blt_no {a b : Nat} (h : b ≤ a) : Nat.blt a b = false := by
  cases e : Nat.blt a b with
  | false => rfl
  | true => have := blt_lt e; omega
theorem blt_yes {a b : Nat} (h : a < b) : Nat.blt a b = true := by simp [Nat.blt_eq, h]
theorem newN_tail {pre post : List Nat} {x : Nat} {ks : List Nat} {q : Nat × List Nat} (h : q ∈ newN pre post ks) : q ∈ newN pre post (x :: ks) := by
  unfold newN
  split
  · exact h
  · exact List.mem_cons_of_mem _ h
  · exact h
  · exact List.mem_cons_of_mem _ h
  · exact List.mem_cons_of_mem _ h
  · exact List.mem_cons_of_mem _ h
theorem newN_row {pre post : List Nat} : ∀ {ks : List Nat} {k : Nat}, k ∈ ks → k < 450000 → (k < 400000 ∨ hasN pre k = false) → (k, pre ++ post) ∈ newN pre post ks
  | x :: ks, k, h, hk, hp => by
    rcases List.mem_cons.1 h with rfl | h
    · unfold newN
      rw [ble_no (by omega : k < 500000)]
      by_cases h4 : k < 400000
      · rw [blt_yes h4]; simp
      · rw [blt_no (by omega : 400000 ≤ k), blt_yes hk]
        rcases hp with hp | hp
        · omega
        · rw [hp]; simp
    · exact newN_tail (newN_row h hk hp)
theorem newN_box {pre post : List Nat} : ∀ {ks : List Nat} {k : Nat}, k ∈ ks → 450000 ≤ k → k < 500000 → hasN pre k = false → (k - 100000, pre ++ post) ∈ newN pre post ks
  | x :: ks, k, h, hk, hk2, hp => by
    rcases List.mem_cons.1 h with rfl | h
    · unfold newN
      rw [ble_no (by omega : k < 500000), blt_no (by omega : 400000 ≤ k), blt_no hk, hp]
      simp
    · exact newN_tail (newN_box h hk hk2 hp)
theorem newN_lent {pre post : List Nat} : ∀ {ks : List Nat} {k : Nat}, k ∈ ks → 450000 ≤ k → k < 500000 → hasN pre k = true → (k - 100000 + 1000000, pre ++ post) ∈ newN pre post ks
  | x :: ks, k, h, hk, hk2, hp => by
    rcases List.mem_cons.1 h with rfl | h
    · unfold newN
      rw [ble_no (by omega : k < 500000), blt_no (by omega : 400000 ≤ k), blt_no hk, hp]
      simp
    · exact newN_tail (newN_lent h hk hk2 hp)

theorem mem_keys {s : AS} {k : Nat} {av : AV} (h : look s k = some av) : k ∈ keysOf s := List.mem_map.2 ⟨_, look_mem h, rfl⟩
theorem keys_look {s : AS} {k : Nat} (h : k ∈ keysOf s) : ∃ av, look s k = some av := by
  induction s with
  | nil => simp [keysOf] at h
  | cons p s ih =>
    obtain ⟨d, x⟩ := p
    by_cases e : d = k
    · exact ⟨x, by rw [look_cons, if_pos e]⟩
    · rw [look_ne e]
      refine ih ?_
      simp only [keysOf, List.map_cons, List.mem_cons] at h ⊢
      rcases h with h | h
      · exact absurd h.symm e
      · exact h
theorem look_append {e s : AS} {k : Nat} : look (e ++ s) k = (look e k).or (look s k) := by
  induction e with
  | nil => rfl
  | cons p e ih =>
    obtain ⟨d, x⟩ := p
    by_cases h : d = k
    · subst h; rw [List.cons_append, look_same, look_same]; rfl
    · rw [List.cons_append, look_ne h, look_ne h, ih]
theorem look_no {s : AS} {k : Nat} (h : hasN (keysOf s) k = false) : look s k = none := by
  cases e : look s k with
  | none => rfl
  | some av => rw [hasN_of (mem_keys e)] at h; cases h

theorem all_look {q : Nat × AV → Bool} {s : AS} (h : s.all q = true) {k : Nat} {av : AV} (h1 : look s k = some av) : q (k, av) = true := by
  rw [List.all_eq_true] at h
  exact h _ (look_mem h1)

section
variable {P : Program} {w0 : World} {U0 : UX} {nt : Nat} {ops : Array Oper} {o : Oper} {S : Nat → Option AV} {gs : List Nat} {d : Nat} {s : AS} {a : Act} {w : World} {D : Nat → Nat → Prop} {hv : Nat → Value}

theorem evsA_rep (h : SimG w0 U0 nt s a w D hv) : ∀ {xs : List Operand} {cs : List AV}, (∀ k ∈ rdl xs, look s k = S k) → evsA S xs = some cs → AVReps (Us w0 U0 D) w hv (LiveN s) cs (xs.map a.eval)
  | [], cs, _, he => by simp [evsA] at he; subst he; rfl
  | x :: xs, cs, hs, he => by
    unfold evsA at he
    split at he
    · rename_i c cs' h1 h2
      cases he
      exact ⟨a.eval x, xs.map a.eval, rfl, ev_rep h (fun k hk => hs k (List.mem_append_left _ hk)) h1, evsA_rep h (fun k hk => hs k (List.mem_append_right _ hk)) h2⟩
    · cases he

/-- What is lent, as the call gets it. -/
theorem SimG.lend (h : SimG w0 U0 nt s a w D hv) {pre : AS} (hp : Sub s pre) (hl : pre.all lendB = true) : ∃ V : UX, (∀ k v, V.f k = some v → hasN (keysOf pre) k = true) ∧ SimG w V 0 pre ⟨#[], []⟩ w (fun _ _ => False) hv ∧ (∀ b, V.x b ↔ ∃ k av, look pre k = some av ∧ oKey k ∧ hb (hv k) = some b) ∧ (∀ k, hasN (keysOf pre) k = true → 400000 ≤ k → k < 500000 → V.f k = some (hv k)) ∧ (∀ b o, V.m b o ↔ Us w0 U0 D b o) ∧ ∀ b o u, Us w0 U0 D b o → w.cell? ⟨b, o, none⟩ = some u → Us w V (fun _ _ => False) b o ∧ w.cell? ⟨b, o, none⟩ = some u := by
  classical
  have hlk : ∀ {k av}, look pre k = some av → oKey k → 300000 ≤ k ∧ av.t ≠ 6 ∧ av.t ≠ 7 ∧ (k < 450000 ∨ av.t = 5 ∨ av.t = 9) := fun {k av} h1 h2 => by
    have h3 := all_look hl h1
    unfold oKey at h2
    unfold lendB at h3
    have h4 : Nat.ble 500000 k = false := by
      cases e : Nat.ble 500000 k with
      | false => rfl
      | true => have := Nat.le_of_ble_eq_true e; omega
    simp only [h4, Bool.and_eq_true, Bool.or_eq_true, Bool.not_eq_true'] at h3
    obtain ⟨⟨⟨h5, h6⟩, h7⟩, h8⟩ := h3
    refine ⟨Nat.le_of_ble_eq_true h5, (fun e => by rw [e] at h6; cases h6), (fun e => by rw [e] at h7; cases h7), ?_⟩
    rcases h8 with (h8 | h8) | h8
    · exact .inl (blt_lt h8)
    · exact .inr (.inl (Nat.eq_of_beq_eq_true h8))
    · exact .inr (.inr (Nat.eq_of_beq_eq_true h8))
  let isB : Nat → Prop := fun k => 400000 ≤ k ∧ k < 500000 ∧ hasN (keysOf pre) k = true
  let V : UX := ⟨Us w0 U0 D, fun b => ∃ k av, look pre k = some av ∧ oKey k ∧ hb (hv k) = some b, fun k => if isB k then some (hv k) else none, fun k v (h1 : (if isB k then some (hv k) else none) = some v) => by
    split at h1
    · rename_i h2; exact ⟨h2.1, h2.2.1⟩
    · cases h1⟩
  have hkeep : ∀ b o u, Us w0 U0 D b o → w.cell? ⟨b, o, none⟩ = some u → Us w V (fun _ _ => False) b o ∧ w.cell? ⟨b, o, none⟩ = some u := fun b o u hu hc => by
    refine ⟨.inl ⟨World.block_lt_of_cell? w _ hc, hu, ?_⟩, hc⟩
    rintro ⟨k, av, h1, h2, h3⟩
    obtain ⟨g1, g2, g3, _⟩ := hlk h1 h2
    obtain ⟨f1, f2, f3⟩ := h.blk k av b (hp _ _ h1) h2 g3 h3
    exact us_ne hu f1 (f3 o fun e => absurd e g2) rfl
  have hln : ∀ n, LiveN pre n → LiveN s n := fun n h1 => h1.imp id fun ⟨e, he⟩ => ⟨e, hp _ _ he.1, he.2⟩
  refine ⟨V, fun n g h1 => ?_, ⟨BelowX.refl _ _, rfl, rfl, fun d av h1 h2 => ?_, fun n o av h1 h2 h3 h4 => ?_, fun n o o' av av' h1 h2 => h.fdis n o o' av av' (hp _ _ h1) (hp _ _ h2), fun k av h1 h2 => ?_, fun k av g h1 h2 h3 h4 => ?_, fun k k' av av' g h1 h2 => h.disj k k' av av' g (hp _ _ h1) (hp _ _ h2), fun n g h1 => ?_, fun b o hd => hd.elim⟩, fun b => Iff.rfl, fun k h1 h2 h3 => ?_, fun b o => Iff.rfl, hkeep⟩
  · have h1 : (if isB n then some (hv n) else none) = some g := h1
    split at h1
    · rename_i h2; exact h2.2.2
    · cases h1
  · have h3 := all_look hl h1
    unfold lendB at h3
    have h4 : Nat.ble 500000 d = false := by
      cases e : Nat.ble 500000 d with
      | false => rfl
      | true => have := Nat.le_of_ble_eq_true e; omega
    simp only [h4, Bool.and_eq_true] at h3
    have := Nat.le_of_ble_eq_true h3.1.1.1
    omega
  · obtain ⟨v, h6, h7⟩ := h.fld n o av (hp _ _ h1) h2 (hp _ _ h3) h4
    exact ⟨v, h6.move hkeep (fun _ => hln _) fun _ => rfl, h7⟩
  · exact (h.obj k av (hp _ _ h1) h2).move hkeep (fun _ h3 => ⟨hln _ h3, rfl⟩) fun _ _ => rfl
  · obtain ⟨g1, g2, g3, _⟩ := hlk h1 h2
    obtain ⟨f1, f2, f3⟩ := h.blk k av g (hp _ _ h1) h2 h3 h4
    exact ⟨.inr ⟨by rw [lcl_row g1]; exact g2, k, av, h1, h2, h4⟩, f2, fun _ _ h => h⟩
  · have h1 : (if isB n then some (hv n) else none) = some g := h1
    split at h1
    · cases h1; rfl
    · cases h1
  · show (if isB k then some (hv k) else none) = some (hv k)
    rw [if_pos ⟨h2, h3, h1⟩]

/-- The same, with what the call left. -/
theorem SimG.back (h : SimG w0 U0 nt s a w D hv) {pre post : AS} (hp : Sub s pre) (hl : pre.all lendB = true) (hq : post.all (leaveB (keysOf post)) = true) (hks : (keysOf pre).all (hasN (keysOf post)) = true) (hN : ∀ q ∈ newN (keysOf pre) (keysOf post) (keysOf post), NoRefE s q) (hnb : ∀ k v, U0.f k = some v → hasN (keysOf post) k = true → hasN (keysOf pre) k = true)
    {V : UX} (hVx : ∀ b, V.x b ↔ ∃ k av, look pre k = some av ∧ oKey k ∧ hb (hv k) = some b) (hVf : ∀ k, hasN (keysOf pre) k = true → 400000 ≤ k → k < 500000 → V.f k = some (hv k)) (hVm : ∀ b o, V.m b o ↔ Us w0 U0 D b o) (hpS : SimG w V 0 pre ⟨#[], []⟩ w (fun _ _ => False) hv)
    {w' : World} {D' : Nat → Nat → Prop} {hv' : Nat → Value} {a' : Act} (h' : SimG w V 0 post a' w' D' hv') :
    ∃ D'' hv'', SimG w0 U0 nt (post ++ s) a w' D'' hv'' ∧ ∀ r v, refB (keysOf post) r = true → AVRep (Us w V D') w' hv' (LiveN post) r v → AVRep (Us w0 U0 D'') w' hv'' (LiveN (post ++ s)) r v := by
  classical
  have hlk : ∀ {k av}, look pre k = some av → oKey k → 300000 ≤ k ∧ av.t ≠ 6 ∧ av.t ≠ 7 ∧ (k < 450000 ∨ av.t = 5 ∨ av.t = 9) := fun {k av} h1 h2 => by
    have h3 := all_look hl h1
    unfold oKey at h2
    unfold lendB at h3
    have h4 : Nat.ble 500000 k = false := by
      cases e : Nat.ble 500000 k with
      | false => rfl
      | true => have := Nat.le_of_ble_eq_true e; omega
    simp only [h4, Bool.and_eq_true, Bool.or_eq_true, Bool.not_eq_true'] at h3
    obtain ⟨⟨⟨h5, h6⟩, h7⟩, h8⟩ := h3
    refine ⟨Nat.le_of_ble_eq_true h5, (fun e => by rw [e] at h6; cases h6), (fun e => by rw [e] at h7; cases h7), ?_⟩
    rcases h8 with (h8 | h8) | h8
    · exact .inl (blt_lt h8)
    · exact .inr (.inl (Nat.eq_of_beq_eq_true h8))
    · exact .inr (.inr (Nat.eq_of_beq_eq_true h8))
  have hqk : ∀ {k av}, look post k = some av → 200000 ≤ k ∧ av.t ≠ 6 ∧ refB (keysOf post) av = true := fun {k av} h1 => by
    have h3 := all_look hq h1
    unfold leaveB at h3
    simp only [Bool.and_eq_true, Bool.not_eq_true'] at h3
    exact ⟨Nat.le_of_ble_eq_true h3.1.1.1, (fun e => by rw [e] at h3; exact absurd h3.1.1.2 (by decide)), h3.1.2⟩
  have hqf : ∀ {n o av}, look post (fKey n o) = some av → o < 100 → 350000 ≤ n ∧ n < 400000 ∧ hasN (keysOf post) (100000 + n) = true := fun {n o av} h1 h2 => by
    have h3 := all_look hq h1
    unfold leaveB at h3
    have h4 : Nat.ble 500000 (fKey n o) = true := Nat.ble_eq_true_of_le (by unfold fKey; omega)
    simp only [h4, fnm_key h2, Bool.and_eq_true] at h3
    exact ⟨Nat.le_of_ble_eq_true h3.2.1.1, blt_lt h3.2.1.2, h3.2.2⟩
  have hsub : ∀ {k}, hasN (keysOf pre) k = true → hasN (keysOf post) k = true := fun {k} h1 => by
    rw [List.all_eq_true] at hks
    exact hks k (hasN_mem h1)
  obtain ⟨D2, hD2⟩ : ∃ D2 : Nat → Nat → Prop, D2 = fun b o => D b o ∨ (w.heap.size ≤ b ∧ D' b o) := ⟨_, rfl⟩
  obtain ⟨hv2, hhv⟩ : ∃ hv2 : Nat → Value, hv2 = fun k => if hasN (keysOf post) k = true then hv' k else hv k := ⟨_, rfl⟩
  have hvy : ∀ {k}, hasN (keysOf post) k = true → hv2 k = hv' k := fun {k} h1 => by rw [hhv]; simp only [h1, if_true]
  have hvn : ∀ {k}, hasN (keysOf post) k = false → hv2 k = hv k := fun {k} h1 => by rw [hhv]; simp [h1]
  obtain ⟨s2, hs2⟩ : ∃ s2, s2 = post ++ s := ⟨_, rfl⟩
  have hly : ∀ {k av}, look post k = some av → look s2 k = some av := fun {k av} h1 => by rw [hs2, look_append, h1]; rfl
  have hlc : ∀ {k av}, look s2 k = some av → look post k = some av ∨ (hasN (keysOf post) k = false ∧ look s k = some av) := fun {k av} h1 => by
    cases e : hasN (keysOf post) k with
    | true =>
      obtain ⟨av', h2⟩ := keys_look (hasN_mem e)
      rw [hly h2] at h1
      cases h1
      exact .inl h2
    | false =>
      rw [hs2, look_append, look_no e] at h1
      exact .inr ⟨rfl, h1⟩
  have hlive : ∀ n e, Live s2 n e → hasN (keysOf post) n = false ∧ Live s n e := fun n e ⟨h1, h2⟩ => by
    rcases hlc h1 with h3 | ⟨h3, h4⟩
    · exact absurd rfl (hqk h3).2.1
    · exact ⟨h3, h4, h2⟩
  have hln : ∀ n, LiveN s2 n → LiveN s n := fun n h1 => h1.imp id fun ⟨e, he⟩ => ⟨e, (hlive n e he).2⟩
  have hbw := h'.below
  -- blocks that were not lent
  have hold : ∀ b, b < w.heap.size → ¬ V.x b → w'.heap[b]? = w.heap[b]? := hbw.block
  have hk1 : ∀ b o u, Us w0 U0 D b o → w.cell? ⟨b, o, none⟩ = some u → Us w0 U0 D2 b o ∧ w'.cell? ⟨b, o, none⟩ = some u := fun b o u hu hc => by
    refine ⟨hu.imp id fun h1 => ⟨h1.1, by rw [hD2]; exact .inl h1.2⟩, ?_⟩
    have hnx : ¬ V.x b := fun hx => by
      obtain ⟨k, av, h1, h2, h3⟩ := (hVx b).1 hx
      obtain ⟨g1, g2, g3, _⟩ := hlk h1 h2
      obtain ⟨f1, f2, f3⟩ := h.blk k av b (hp _ _ h1) h2 g3 h3
      exact us_ne hu f1 (f3 o fun e => absurd e g2) rfl
    rw [World.cell?_of_block (w := w) (hold b (World.block_lt_of_cell? w _ hc) hnx)]
    exact hc
  have hk2 : ∀ b o u, Us w V D' b o → w'.cell? ⟨b, o, none⟩ = some u → Us w0 U0 D2 b o ∧ w'.cell? ⟨b, o, none⟩ = some u := fun b o u hu hc => by
    refine ⟨?_, hc⟩
    rcases hu with ⟨h1, h2, h3⟩ | ⟨h1, h2⟩
    · exact ((hVm b o).1 h2).imp id fun h4 => ⟨h4.1, by rw [hD2]; exact .inl h4.2⟩
    · exact .inr ⟨Nat.le_trans h.below.size h1, by rw [hD2]; exact .inr ⟨h1, h2⟩⟩
  -- what was lent is where it was
  have hbx : ∀ k, 400000 ≤ k → k < 500000 → hasN (keysOf pre) k = true → hv' k = hv k := fun k h2 h3 h1 => h'.fix k _ (hVf k h1 h2 h3)
  have hrow : ∀ {k av n}, look s k = some av → hasN (keysOf post) k = false → RN n → hasN (keysOf post) n = true → (n < 400000 ∨ hasN (keysOf pre) n = false) → av.n ≠ n := fun {k av n} h1 h2 h3 h4 h6 => by
    have h5 := hN _ (newN_row (pre := keysOf pre) (post := keysOf post) (hasN_mem h4) h3.2 h6)
    refine (h5 k av h1 ?_).1
    cases e : hasN (keysOf pre ++ keysOf post) k with
    | false => rfl
    | true =>
      rcases List.mem_append.1 (hasN_mem e) with e | e
      · rw [hsub (hasN_of e)] at h2; cases h2
      · rw [hasN_of e] at h2; cases h2
  have hbox : ∀ {k av n}, look s k = some av → hasN (keysOf post) k = false → BN n → 350000 ≤ n → hasN (keysOf post) (100000 + n) = true → hasN (keysOf pre) (100000 + n) = false → av.n ≠ n ∧ fnm k ≠ n ∧ fnm k + 1000000 ≠ n := fun {k av n} h1 h2 h3 h6 h4 h5 => by
    unfold BN at h3
    have h7 := hN _ (newN_box (pre := keysOf pre) (post := keysOf post) (hasN_mem h4) (by omega) (by omega) h5)
    rw [show 100000 + n - 100000 = n by omega] at h7
    refine h7 k av h1 ?_
    cases e : hasN (keysOf pre ++ keysOf post) k with
    | false => rfl
    | true =>
      rcases List.mem_append.1 (hasN_mem e) with e | e
      · rw [hsub (hasN_of e)] at h2; cases h2
      · rw [hasN_of e] at h2; cases h2
  have hfno : ∀ {n o av}, look s (fKey n o) = some av → hasN (keysOf post) (fKey n o) = false → o < 100 → 350000 ≤ n → n < 400000 → hasN (keysOf post) (100000 + n) = true → False := fun {n o av} h1 h2 h3 h4 h5 h6 => by
    cases e : hasN (keysOf pre) (100000 + n) with
    | false =>
      have := (hbox h1 h2 (.inr ⟨h4, h5⟩) h4 h6 e).2.1
      rw [fnm_key h3] at this
      exact this rfl
    | true =>
      have h7 := hN _ (newN_lent (pre := keysOf pre) (post := keysOf post) (hasN_mem h6) (by omega) (by omega) e)
      have h8 := (h7 (fKey n o) av h1 (by
        cases e : hasN (keysOf pre ++ keysOf post) (fKey n o) with
        | false => rfl
        | true =>
          rcases List.mem_append.1 (hasN_mem e) with e | e
          · rw [hsub (hasN_of e)] at h2; cases h2
          · rw [hasN_of e] at h2; cases h2)).2.2
      rw [fnm_key h3] at h8
      apply h8
      show n + 1000000 = 100000 + n - 100000 + 1000000
      omega
  -- what the caller knew
  have hm1 : ∀ {k av v}, look s k = some av → hasN (keysOf post) k = false → AVRep (Us w0 U0 D) w hv (LiveN s) av v → AVRep (Us w0 U0 D2) w' hv2 (LiveN s2) av v := fun {k av v} h1 h2 h3 =>
    h3.move hk1 (fun _ => hln _) fun hR => by
      cases e : hasN (keysOf post) (hk av) with
      | false => exact hvn e
      | true =>
        rcases hR with ⟨r1, r2, r3⟩ | ⟨r1, r2⟩ | ⟨r1, r2⟩
        · rw [hk_eq.2 (by omega)] at e
          rcases r2 with r4 | ⟨_, r4⟩
          · exact absurd r4 r3
          · exact absurd rfl (hrow h1 h2 ⟨r4.2.1, Nat.lt_trans r4.2.2 (by omega)⟩ e (.inl r4.2.2))
        · rw [hk_eq.1 r1] at e ⊢
          rw [hvy e]
          cases e2 : hasN (keysOf pre) (100000 + av.n) with
          | true =>
            obtain ⟨av', h7⟩ := keys_look (hasN_mem e)
            have := (hqk h7).1
            unfold BN at r2
            exact hbx _ (by omega) (by omega) e2
          | false =>
            have h6 : 350000 ≤ av.n := by
              obtain ⟨av', h7⟩ := keys_look (hasN_mem e)
              have := (hqk h7).1
              unfold BN at r2
              omega
            exact absurd rfl (hbox h1 h2 r2 h6 e e2).1
        · rw [hk_eq.2 (by omega)] at e ⊢
          cases e2 : hasN (keysOf pre) av.n with
          | false => exact absurd rfl (hrow h1 h2 r2 e (.inr e2))
          | true =>
            by_cases h4 : av.n < 400000
            · exact absurd rfl (hrow h1 h2 r2 e (.inl h4))
            · have := r2.2
              rw [hvy e]
              exact hbx _ (by omega) (by omega) e2
  -- what the call left
  have hm2 : ∀ {av v}, refB (keysOf post) av = true → AVRep (Us w V D') w' hv' (LiveN post) av v → AVRep (Us w0 U0 D2) w' hv2 (LiveN s2) av v := fun {av v} h1 h2 => by
    unfold refB at h1
    refine h2.move hk2 (fun h3 h4 => ?_) fun hR => ?_
    · rw [h3] at h1
      have h1 : Nat.ble av.n 1 = true := h1
      have := Nat.le_of_ble_eq_true h1
      rcases liveN_rn h4 with h5 | h5
      · exact .inl h5
      · unfold RN at h5; omega
    · rcases hR with ⟨r1, r2, r3⟩ | ⟨r1, r2⟩ | ⟨r1, r2⟩
      · rw [r1] at h1
        have h1 : Nat.ble av.n 1 = true := h1
        have := Nat.le_of_ble_eq_true h1
        rcases liveN_rn r2 with h5 | h5
        · exact absurd h5 r3
        · unfold RN at h5; omega
      · rw [r1] at h1
        have h1 : hasN (keysOf post) (hk av) = true := h1
        exact hvy h1
      · rcases r1 with r1 | r1 | r1 <;> (rw [r1] at h1; have h1 : hasN (keysOf post) (hk av) = true := h1; exact hvy h1)
  refine ⟨D2, hv2, ?_, fun r v h1 h2 => by rw [← hs2]; exact hm2 h1 h2⟩
  rw [← hs2]
  -- the block of what was not lent
  have hnotx : ∀ {k av g}, look s k = some av → hasN (keysOf post) k = false → oKey k → av.t ≠ 7 → hb (hv k) = some g → ¬ V.x g := fun {k av g} h1 h2 h3 h4 h5 hx => by
    obtain ⟨k', av', f1, f2, f3⟩ := (hVx g).1 hx
    refine h.disj k k' av av' g h1 (hp _ _ f1) h3 f2 h4 (hlk f1 f2).2.2.1 (fun e => ?_) h5 f3
    rw [e, hsub (hasN_of (mem_keys f1))] at h2
    cases h2
  have hlent : ∀ {g}, V.x g → ∃ k av, look s k = some av ∧ oKey k ∧ av.t ≠ 7 ∧ av.t ≠ 6 ∧ hasN (keysOf post) k = true ∧ hb (hv k) = some g := fun {g} hx => by
    obtain ⟨k', av', f1, f2, f3⟩ := (hVx g).1 hx
    obtain ⟨g1, g2, g3, _⟩ := hlk f1 f2
    exact ⟨k', av', hp _ _ f1, f2, g3, g2, hsub (hasN_of (mem_keys f1)), f3⟩
  refine ⟨⟨hbw.os.trans h.below.os, hbw.tape.trans h.below.tape, hbw.output.trans h.below.output, Nat.le_trans h.below.size hbw.size, fun b hb hx => ?_⟩, h.dfr, h.size, fun d av h1 h2 => ?_, fun n o av h1 h2 h3 h4 => ?_, fun n o o' av av' h1 h2 h3 h4 h5 => ?_, fun k av h1 h2 => ?_, fun k av g h1 h2 h3 h4 => ?_, fun k k' av av' g h1 h2 h3 h4 h5 h6 hne => ?_, fun n g h1 => ?_, fun b o hd => ?_⟩
  · rw [hold b (Nat.lt_of_lt_of_le hb h.below.size) fun hv => ?_]
    · exact h.below.block b hb hx
    · obtain ⟨k, av, f1, f2, f3, f4, f5, f6⟩ := hlent hv
      rcases (h.blk k av b f1 f2 f3 f6).1 with f7 | f7
      · omega
      · exact hx f7.2
  · rcases hlc h1 with h3 | ⟨h3, h4⟩
    · have := (hqk h3).1; omega
    · obtain ⟨v, f1, f2⟩ := h.slot d av h4 h2
      exact ⟨v, f1, hm1 h4 h3 f2⟩
  · have hob := hlc h3
    rcases hlc h1 with h5 | ⟨h5, h6⟩
    · rcases hob with h7 | ⟨h7, h8⟩
      · obtain ⟨v, f1, f2, f3⟩ := h'.fld n o av h5 h2 h7 h4
        refine ⟨v, hm2 (hqk h5).2.2 f1, f2, ?_⟩
        rw [hvy (hasN_of (mem_keys h7))]
        exact f3
      · rw [(hqf h5 h2).2.2] at h7; cases h7
    · rcases hob with h7 | ⟨h7, h8⟩
      · have h8 := (hqk h7).1
        have h4' := h4
        unfold BN at h4'
        exact (hfno h6 h5 h2 (by omega) (by omega) (hasN_of (mem_keys h7))).elim
      · obtain ⟨v, f1, f2, f3⟩ := h.fld n o av h6 h2 h8 h4
        refine ⟨v, hm1 h6 h5 f1, f2, fun i hi => ?_⟩
        rw [hvn h7]
        have f4 := f3 i hi
        obtain ⟨g2, ys, ty2, e1, e2, e3⟩ := h.obj9 h8 h4
        rw [e2] at f4 ⊢
        rw [World.cell?_of_block (w := w) (hold g2 (Array.getElem?_eq_some_iff.1 e3).1 (hnotx h8 h7 (bn_okey h4) (by simp) (by rw [e1]; rfl)))]
        exact f4
  · rcases hlc h1 with f1 | ⟨f1, f2⟩
    · rcases hlc h2 with f3 | ⟨f3, f4⟩
      · exact h'.fdis n o o' av av' f1 f3 h3 h4 h5
      · obtain ⟨g1, g2, g3⟩ := hqf f1 h3
        exact (hfno f4 f3 h4 g1 g2 g3).elim
    · rcases hlc h2 with f3 | ⟨f3, f4⟩
      · obtain ⟨g1, g2, g3⟩ := hqf f3 h4
        exact (hfno f2 f1 h3 g1 g2 g3).elim
      · exact h.fdis n o o' av av' f2 f4 h3 h4 h5
  · rcases hlc h1 with h3 | ⟨h3, h4⟩
    · rw [hvy (hasN_of (mem_keys h3))]
      refine (h'.obj k av h3 h2).move hk2 (fun h5 h6 => ?_) fun _ _ => rfl
      have h7 := (hqk h3).2.2
      unfold refB at h7
      rw [h5] at h7
      have h7 : Nat.ble av.n 1 = true := h7
      have := Nat.le_of_ble_eq_true h7
      rcases liveN_rn h6 with h8 | h8
      · exact ⟨.inl h8, by rw [h8]; rfl⟩
      · unfold RN at h8; omega
    · rw [hvn h3]
      by_cases h7 : av.t = 7
      · exact oc_no h7
      · refine (h.obj k av h4 h2).move hk1 (fun h5 h6 => ⟨hln _ h6, ?_⟩) fun g hg => hold g (h.blk k av g h4 h2 h7 hg).2.1 (hnotx h4 h3 h2 h7 hg)
        unfold tokv
        by_cases h8 : av.n = 1
        · rw [if_pos h8, if_pos h8]
        · rw [if_neg h8, if_neg h8]
          rcases h6 with h6 | ⟨e, he⟩
          · exact absurd h6 h8
          · rw [hvn (hlive _ _ he).1]
  · rcases hlc h1 with h5 | ⟨h5, h6⟩
    · rw [hvy (hasN_of (mem_keys h5))] at h4 ⊢
      obtain ⟨f1, f2, f3⟩ := h'.blk k av g h5 h2 h3 h4
      have ht6 := (hqk h5).2.1
      refine ⟨?_, f2, fun o _ hd => ?_⟩
      · rcases f1 with f1 | ⟨f1, f4⟩
        · exact .inl (Nat.le_trans h.below.size f1)
        · obtain ⟨k1, av1, e1, e2, e3, e4, e5, e6⟩ := hlent f4
          rcases (h.blk k1 av1 g e1 e2 e3 e6).1 with e7 | e7
          · exact .inl e7
          · exact .inr ⟨f1, e7.2⟩
      · rw [hD2] at hd
        rcases hd with hd | hd
        · rcases f1 with f1 | ⟨f1, f4⟩
          · have := h.dlt _ _ hd; omega
          · obtain ⟨k1, av1, e1, e2, e3, e4, e5, e6⟩ := hlent f4
            exact (h.blk k1 av1 g e1 e2 e3 e6).2.2 o (fun e => absurd e e4) hd
        · exact f3 o (fun e => absurd e ht6) hd.2
    · rw [hvn h5] at h4 ⊢
      obtain ⟨f1, f2, f3⟩ := h.blk k av g h6 h2 h3 h4
      refine ⟨f1, Nat.lt_of_lt_of_le f2 hbw.size, fun o ho hd => ?_⟩
      rw [hD2] at hd
      rcases hd with hd | hd
      · exact f3 o ho hd
      · omega
  · have hmix : ∀ {k k' av av'}, look post k = some av → oKey k → av.t ≠ 7 → look s k' = some av' → hasN (keysOf post) k' = false → oKey k' → av'.t ≠ 7 → hb (hv' k) = some g → hb (hv k') ≠ some g := fun {k k' av av'} e1 e2 e3 e4 e5 e6 e7 e8 e9 => by
      rcases (h'.blk k av g e1 e2 e3 e8).1 with f1 | f1
      · have := (h.blk k' av' g e4 e6 e7 e9).2.1; omega
      · exact hnotx e4 e5 e6 e7 e9 f1.2
    rcases hlc h1 with e1 | ⟨e1, e2⟩
    · rw [hvy (hasN_of (mem_keys e1))]
      rcases hlc h2 with e3 | ⟨e3, e4⟩
      · rw [hvy (hasN_of (mem_keys e3))]
        exact h'.disj k k' av av' g e1 e3 h3 h4 h5 h6 hne
      · rw [hvn e3]
        exact hmix e1 h3 h5 e4 e3 h4 h6
    · rw [hvn e1]
      rcases hlc h2 with e3 | ⟨e3, e4⟩
      · rw [hvy (hasN_of (mem_keys e3))]
        exact fun f1 f2 => hmix e3 h4 h6 e2 e1 h3 h5 f2 f1
      · rw [hvn e3]
        exact h.disj k k' av av' g e2 e4 h3 h4 h5 h6 hne
  · cases e : hasN (keysOf post) n with
    | false => rw [hvn e]; exact h.fix n g h1
    | true =>
      rw [hvy e]
      have h2 := U0.hf n g h1
      rw [hbx n h2.1 h2.2 (hnb n g h1 e)]
      exact h.fix n g h1
  · rw [hD2] at hd
    rcases hd with hd | hd
    · exact Nat.lt_of_lt_of_le (h.dlt b o hd) hbw.size
    · exact h'.dlt b o hd.2

/-- No new boxes. -/
def nbB (pre post : List Nat) : Bool := post.all fun k => match Nat.ble 400000 k && Nat.blt k 500000 with | true => hasN pre k | false => true
theorem hnb_of {pre post : List Nat} (h : nbB pre post = true) : ∀ k v, U0.f k = some v → hasN post k = true → hasN pre k = true := fun k v h1 h2 => by
  have h3 := U0.hf k v h1
  unfold nbB at h
  rw [List.all_eq_true] at h
  have h4 := h _ (hasN_mem h2)
  rw [Nat.ble_eq_true_of_le h3.1, blt_yes h3.2] at h4
  exact h4
theorem a_callO {f : FuncId} {xs : Array Operand} {ts : Array TypeId} {avs : List AV} {r : AV} {pre post : AS} (hg : Gd w0 U0 nt ops o gs S) (hd : o.dst = some d) (hn : Nat.blt d nt = true) (h5 : Nat.blt d 100000 = true)
    (ho : o.op = .call { callee := .value (.func f), args := xs, argTypes := ts }) (hx : evsA S xs.toList = some avs) (hc : AFunO P f pre avs r post) (hp : SubS S pre) (hl : pre.all lendB = true) (hq : post.all (leaveB (keysOf post)) = true) (hks : (keysOf pre).all (hasN (keysOf post)) = true) (hr : refB (keysOf post) r = true) (hnb : ∀ k v, U0.f k = some v → hasN (keysOf post) k = true → hasN (keysOf pre) k = true) :
    AOp P w0 U0 nt ops o (gs ++ (rdl xs.toList ++ keysOf pre)) (newN (keysOf pre) (keysOf post) (keysOf post)) S ((d, r) :: post) := by
  intro s hs hN a w ⟨D, hv, h⟩ Q K hK
  rw [if_pos (hg s (fun k hk => hs k (List.mem_append_left _ hk)) a w D hv h)]
  have hargs := evsA_rep h (fun k hk => hs k (List.mem_append_right _ (List.mem_append_left _ hk))) hx
  have hsub : Sub s pre := fun k av h1 => (hs k (List.mem_append_right _ (List.mem_append_right _ (mem_keys h1)))).trans (hp.look h1)
  obtain ⟨V, v1, v2, v3, v4, v5, v6⟩ := h.lend hsub hl
  obtain ⟨h1, h2⟩ := hc
  have hcall := h2 V w hv ⟨#[], []⟩ _ v1 v2 (hargs.imp fun c _ v hcv => hcv.move v6 (fun _ h3 => h3.imp id fun ⟨e, he⟩ => ⟨e, hsub _ _ he.1, he.2⟩) fun _ => rfl)
  have he : (execOp a.eval o).run P w = .ok (.enter f (xs.toList.map a.eval).toArray) w := by
    have hf : a.eval (.func f) = .func (.func f) #[] #[] := rfl
    have hen := h1 (xs.map a.eval) w
    have harr : (xs.toList.map a.eval).toArray = xs.map a.eval := by apply Array.ext'; simp
    rw [harr]
    generalize a.eval = ρ at hf hen ⊢
    simp [execOp, ho, resolve, invoke, Deferred.ofValue, hf, hen]
  unfold Oper.wp
  rw [he, Oper.upon_enter]
  refine hcall.mono ?_
  rintro e w' ⟨v, D', hv', a', rfl, h6, h7⟩
  rw [hd]
  obtain ⟨D2, hv2, h8, h9⟩ := h.back hsub hl hq hks hN hnb v3 v4 v5 v2 h6
  exact hK _ _ ⟨D2, hv2, h8.put (blt_lt hn) (blt_lt h5) (h9 r v hr h7)⟩

/-- The arguments in their slots. -/
def argA : List AV → Nat → AS
  | [], _ => []
  | c :: cs, i => (i, c) :: argA cs (i + 1)
theorem look_argA : ∀ {cs : List AV} {i k : Nat} {av : AV}, look (argA cs i) k = some av → i ≤ k ∧ cs[k - i]? = some av
  | [], _, _, _, h => by simp [argA, look] at h
  | c :: cs, i, k, av, h => by
    rw [argA, look_cons] at h
    split at h
    · rename_i e; subst e; cases h; exact ⟨Nat.le_refl _, by simp⟩
    · rename_i e
      obtain ⟨h1, h2⟩ := look_argA h
      refine ⟨by omega, ?_⟩
      rw [show k - i = (k - (i + 1)) + 1 by omega]
      simpa using h2
/-- What is told at the end. -/
noncomputable def resA (P : Program) (s : AS) (rs : List ResultVar) : Option AV := match rs with
  | [.tmp t] => match Nat.blt t 100000, look s t with
    | true, some ⟨0, c, _, _, _⟩ => some (.val c)
    | true, some av => some av
    | _, _ => none
  | rs => match resO P s rs with | some cs => some (resAV cs) | none => none
theorem resA_run (h : SimG w0 U0 nt s a w D hv) {fn : Func} {r : AV} (hr : resA P s fn.results.toList = some r) : ∃ v, (results fn a.tmps).run P w = .ok v w ∧ AVRep (Us w0 U0 D) w hv (LiveN s) r v := by
  unfold resA at hr
  split at hr
  · rename_i t ht
    have hrs : fn.results = #[.tmp t] := by apply Array.ext'; simpa using ht
    have hres : ∀ v, a.tmps[t]? = some v → (results fn a.tmps).run P w = .ok v w := fun v hv => by
      rw [results_eq, hrs]
      simp [resF, Array.getD_eq_getD_getElem?, hv]
    split at hr
    · rename_i c n q p h1 h2
      cases hr
      obtain ⟨v, h3, h4⟩ := h.slot t _ h2 (blt_lt h1)
      exact ⟨v, hres v h3, avrep_val h4.1⟩
    · rename_i av h1 h2
      cases hr
      obtain ⟨v, h3, h4⟩ := h.slot t _ h2 (blt_lt h1)
      exact ⟨v, hres v h3, h4⟩
    · cases hr
  · split at hr
    · rename_i cs h1
      cases hr
      obtain ⟨v, h2, h3⟩ := res_run h h1
      refine ⟨v, h2, avrep_rr ?_ ?_ h3⟩
      · unfold resAV; split
        · exact .inl rfl
        · exact .inr rfl
      · unfold resAV; split <;> rfl
    · cases hr
def EndO (P : Program) (w0 : World) (U0 : UX) (nt : Nat) (fn : Func) (s : AS) (r : AV) (post : AS) : Prop := ∃ s', Wk w0 U0 nt s s' ∧ resA P s' fn.results.toList = some r ∧ SubL s' post

/-- A function's contract out of its body. -/
theorem afunO_of {f : FuncId} {fn : Func} {c : Code} {pre post : AS} {args : List AV} {r : AV} (hf : P.funcs[f]? = some fn) (hn : fn.ntmps = nt) (hname : (fn.name == "runtime.NumGoroutine") = false) (hb : fn.body = some c) (hl : Nat.ble args.length nt = true) (hnt : Nat.blt nt 100000 = true) (hpre : (keysOf pre).all (Nat.ble 100000) = true) (hpost : (keysOf post).all (Nat.ble 100000) = true)
    (h : ∀ (w : World) (U : UX), (∀ k v, U.f k = some v → hasN (keysOf pre) k = true) → AWp P w U nt c (fun e s' => (e = .normal ∨ e = .ret) ∧ EndO P w U nt fn s' r post) (argA args 0 ++ pre)) : AFunO P f pre args r post := by
  refine ⟨ent_of hf hname (by rw [hb]; rfl), fun U w hv a0 vs hU hpS hargs => ?_⟩
  have hlen := hargs.len
  refine calls_of_wp hf hb ?_
  have hle := Nat.le_of_ble_eq_true hl
  have hnt := blt_lt hnt
  have hlow : ∀ {k av}, look pre k = some av → 100000 ≤ k := fun {k av} h1 => by
    rw [List.all_eq_true] at hpre
    exact Nat.le_of_ble_eq_true (hpre k (mem_keys h1))
  have hlk : ∀ {k}, 100000 ≤ k → look (argA args 0 ++ pre) k = look pre k := fun {k} h1 => by
    rw [look_append]
    cases h2 : look (argA args 0) k with
    | none => rfl
    | some av =>
      obtain ⟨_, h3⟩ := look_argA h2
      rw [Nat.sub_zero, List.getElem?_eq_none (by omega)] at h3
      cases h3
  have hlive : LiveN (argA args 0 ++ pre) = LiveN pre := by
    funext n
    unfold LiveN Live
    apply propext
    constructor
    · rintro (h1 | ⟨e, h1, h2, h3⟩)
      · exact .inl h1
      · rw [hlk (by omega)] at h1; exact .inr ⟨e, h1, h2, h3⟩
    · rintro (h1 | ⟨e, h1, h2, h3⟩)
      · exact .inl h1
      · exact .inr ⟨e, by rw [hlk (by omega)]; exact h1, h2, h3⟩
  have hs : Sim w U nt (argA args 0 ++ pre) { tmps := vs.toArray ++ Array.replicate (fn.ntmps - vs.toArray.size) undef, defers := [] } w := by
    refine ⟨fun _ _ => False, hv, hpS.below, rfl, by simp [hn]; omega, fun d av h1 h2 => ?_, fun n o av h1 h2 h3 h4 => ?_, fun n o o' av av' h1 h2 => ?_, fun k av h1 h2 => ?_, fun k av g h1 h2 => ?_, fun k k' av av' g h1 h2 h3 h4 => ?_, hpS.fix, fun b o hd => hd.elim⟩
    · rw [look_append] at h1
      cases h3 : look (argA args 0) d with
      | none =>
        rw [h3] at h1
        have := hlow h1
        omega
      | some av' =>
        rw [h3] at h1
        cases h1
        obtain ⟨_, h4⟩ := look_argA h3
        rw [Nat.sub_zero] at h4
        obtain ⟨v, h6, h7⟩ := hargs.at h4
        have hdl : d < vs.length := by
          rcases Nat.lt_or_ge d vs.length with h | h
          · exact h
          · rw [List.getElem?_eq_none h] at h6; cases h6
        rw [hlive]
        refine ⟨v, ?_, h7⟩
        rw [Array.getElem?_append_left (by simpa using hdl)]
        simpa using h6
    · rw [hlk (by unfold fKey; omega)] at h1
      rw [hlk (by omega)] at h3
      rw [hlive]
      exact hpS.fld n o av h1 h2 h3 h4
    · rw [hlk (by unfold fKey; omega)] at h1 h2
      exact hpS.fdis n o o' av av' h1 h2
    · rw [hlk h2.1] at h1; rw [hlive]; exact hpS.obj k av h1 h2
    · rw [hlk h2.1] at h1; exact hpS.blk k av g h1 h2
    · rw [hlk h3.1] at h1; rw [hlk h4.1] at h2; exact hpS.disj k k' av av' g h1 h2 h3 h4
  refine wp_mono (h w U hU _ w hs) ?_
  rintro e a' w' ⟨s', ⟨h1, s2, g1, g2, g3⟩, h3⟩
  obtain ⟨D', hv', h4⟩ := g1 a' w' h3
  obtain ⟨v, h5, h6⟩ := resA_run h4 g2
  have hS := h4.sub g3.sub
  have hlow2 : ∀ {k av}, look post k = some av → 100000 ≤ k := fun {k av} h1 => by
    rw [List.all_eq_true] at hpost
    exact Nat.le_of_ble_eq_true (hpost k (mem_keys h1))
  have hS0 : SimG w U 0 post ⟨#[], []⟩ w' D' hv' := ⟨hS.below, rfl, rfl, fun d av h7 h8 => by have := hlow2 h7; omega, hS.fld, hS.fdis, hS.obj, hS.blk, hS.disj, hS.fix, hS.dlt⟩
  rcases h1 with rfl | rfl
  · exact ⟨h4.dfr, v, h5, v, D', hv', _, rfl, hS0, h6.move (fun _ _ _ h1 h2 => ⟨h1, h2⟩) (fun _ h7 => h7.imp id fun ⟨e, he⟩ => ⟨e, g3.sub _ _ he.1, he.2⟩) fun _ => rfl⟩
  · exact ⟨h4.dfr, v, h5, v, D', hv', _, rfl, hS0, h6.move (fun _ _ _ h1 h2 => ⟨h1, h2⟩) (fun _ h7 => h7.imp id fun ⟨e, he⟩ => ⟨e, g3.sub _ _ he.1, he.2⟩) fun _ => rfl⟩
end
end Go.Proofs.Ytgmllfjidhbjjab


namespace Go.Proofs.Ytgmllfjidhbjjab
open Go.RowKit
set_option linter.unusedVariables false
set_option linter.unusedSimpArgs false

/-- The zero value as a tree. -/
def zeroT (P : Program) (e : TypeId) : Option CV := match P.info? e with
  | some it => match it.zero with
    | some (.agg cs) => match P.underlying e with
      | some (.struct fs) => match szO P fs.toList 0 with
        | some sz => match zsO sz cs.toList with | some zs => some (.row zs) | none => none
        | none => none
      | _ => none
    | some v => match plainV v with | true => some (cellCV v) | false => none
    | none => none
  | none => none
theorem zeroT_spec {P : Program} {e : TypeId} {c : CV} (h : zeroT P e = some c) : ∃ it z, P.info? e = some it ∧ it.zero = some z ∧ ∀ U w, Rep U w c z.cells.toList := by
  unfold zeroT at h
  split at h
  · rename_i it hi
    split at h
    · rename_i cs hz
      refine ⟨it, _, hi, hz, fun U w => ?_⟩
      split at h
      · split at h
        · split at h
          · rename_i zs h0
            cases h
            obtain ⟨segs, e1, e2, e3, e4, e5⟩ := zsO_spec (U := U) (w := w) h0
            rw [rep_row]
            show Sq _ cs.toList
            rw [← e1]
            exact sq_of_segs e4 (fun i c hi => by obtain ⟨seg, f1, f2, _⟩ := e5 i c hi; exact ⟨seg, f1, f2⟩)
          · cases h
        · cases h
      · cases h
    · rename_i v hz hv
      refine ⟨it, _, hi, hv, fun U w => ?_⟩
      split at h
      · rename_i hp
        cases h
        have := rep_plain U w v hp
        have hc : v.cells = #[v] := by
          cases v with
          | agg cs => exact absurd rfl (hz cs)
          | _ => rfl
        rw [hc]
        exact this
      · cases h
    · cases h
  · cases h

section
variable {P : Program} {w0 : World} {U0 : UX} {nt : Nat} {ops : Array Oper} {o : Oper} {S : Nat → Option AV} {gs : List Nat} {d : Nat} {s : AS} {a : Act} {w : World} {D : Nat → Nat → Prop} {hv : Nat → Value}

theorem sq_repl {U : Nat → Nat → Prop} {c : CV} {xs : List Value} (h : Rep U w c xs) : ∀ k, Sq ((List.replicate k c).map fun c => Rep U w c) (List.replicate k xs).flatten
  | 0 => rfl
  | k + 1 => ⟨_, _, rfl, h, sq_repl h k⟩
theorem slV_all {v : Value} {k cap : Nat} {ao : Option Addr} {z : Nat} (h : v = .slice ao k cap) (hk : k ≤ cap) (hg : ao = none ∨ ∃ g, ao = some ⟨g, 0, none⟩) : SlV v 0 k z v := by
  refine ⟨ao, k, cap, ao, h, by rw [h]; rfl, by omega, fun _ => rfl, fun _ g e => by rw [Nat.zero_mul]; exact e, Iff.rfl⟩
theorem own_addr {e z : Nat} {v : Value} {k : Nat} {xs : List Value} (h : w.ownsRow 0 e z v k xs) : ∃ ao cap, v = .slice ao k cap ∧ k ≤ cap ∧ (ao = none ∨ ∃ g, ao = some ⟨g, 0, none⟩) := by
  rcases h.2 with ⟨rfl, rfl⟩ | ⟨g, cap, cur, rfl, _, h3, h4, h5, h6, h7⟩
  · exact ⟨none, 0, rfl, Nat.le_refl _, .inl rfl⟩
  · exact ⟨_, cap, rfl, h4, .inr ⟨g, rfl⟩⟩

/-- The law of append, to a row that may be written. -/
theorem appLawM {Q : Exit → Act → World → Prop} {K : Act → World → Prop} (h : SimG w0 U0 nt s a w D hv) {n e size bytes : Nat} {z : Value} {t : TypeId} (hd : o.dst = some d) (hdn : d < nt) (h5 : d < 100000) (hn : RW n) (hr : NoRef s n) {x y : Operand} (ho : o.op = .call { callee := .builtin .append, args := #[x, y], argTypes := #[t, t] })
    (ht : P.underlying t = some (.slice e)) (hi : (P.info? e).map (fun i => (i.zero, i.size, i.bytes)) = some (some z, size, bytes)) (hzs : z.cells.size = size) (hsz : 0 < size) (hbt : bytes ≤ 1000)
    {l l2 : List CV} (hl : ∀ c ∈ l, c.size = size) (hl2 : ∀ c ∈ l2, c.size = size) (hbd : l.length + l2.length ≤ 100000000000)
    {v : Value} (hx : a.eval x = v) (hy : VRep (Us w0 U0 D) w (.lst l2) (a.eval y)) {xs : List Value} (hown : w.ownsRow 0 e size v l.length xs) (hsq : Sq (l.map fun c => Rep (Us w0 U0 D) w c) xs)
    (hroom : ∀ g, v.ownBlock = some g → Mn w0 U0 (lcl n (.mrow e size (l ++ l2))) g ∧ (∀ o, ¬ D g o) ∧ ∀ q av, look s q = some av → oKey q → av.t ≠ 7 → q ≠ n → hb (hv q) ≠ some g)
    (hK : ∀ a' w', Sim w0 U0 nt ((d, .sl n 0 (l.length + l2.length) size) :: (n, .mrow e size (l ++ l2)) :: s) a' w' → K a' w') : o.wp P a w K Q := by
  obtain ⟨ao2, m, c2, g1, g2, g3, g4, g6, ys2, g7, g8⟩ := vrep_lst.1 hy
  have hyl2 : ys2.length = m * size := by rw [sq_len (n := CV.size) (fun c _ xs h => h.len) g8, sum_const hl2, g2]
  have hmul : (l.length + m) * bytes ≤ 100000000000 * 1000 := Nat.mul_le_mul (by omega) hbt
  obtain ⟨v', w', r1, r2, r3, r4⟩ := run_app (P := P) (ty := o.type) ht hi hzs hsz (Nat.zero_le _) hown g6 g7 hyl2 (rep_one_of g8) (by unfold maxLen; omega) (by omega)
  have hvs : ∀ {u : Value} {k xs} {w : World}, w.ownsRow 0 e size u k xs → hb u = u.ownBlock := fun {u k xs w} h1 => by
    rcases h1.2 with ⟨rfl, rfl⟩ | ⟨g, cap, cur, rfl, _⟩ <;> rfl
  have hb2 := hvs r2
  have hkp : ∀ b o u, Us w0 U0 D b o → w.cell? ⟨b, o, none⟩ = some u → Us w0 U0 D b o ∧ w'.cell? ⟨b, o, none⟩ = some u := fun b o u hu hc => by
    refine ⟨hu, ?_⟩
    have hlt : b < w.heap.size := World.block_lt_of_cell? w _ hc
    have hnb : some b ≠ v.ownBlock := fun e => by
      obtain ⟨f1, f2, _⟩ := hroom b e.symm
      exact us_ne hu f1 (f2 o) rfl
    rw [World.cell?_of_block (w := w) (r3.block b hlt hnb)]
    exact hc
  have hG := h.newrow (avn := .mrow e size (l ++ l2)) (v' := v') (D' := D) (X := fun b => v.ownBlock = some b) hn hr (by simp) ⟨r3.os, r3.tape, r3.output, r3.size, fun b hb hx => r3.block b hb fun e => hx e.symm⟩ (fun b hb => ⟨(hroom b hb).1, (hroom b hb).2.2⟩) (fun g hg => by
      rw [hb2] at hg
      refine ⟨?_, (r2.lt g hg).2, fun o _ hd => ?_⟩
      · rcases r4 with r4 | ⟨_, r4⟩
        · exact .inl (r4 ▸ hg)
        · exact .inr (r4 g hg)
      · rcases r4 with r4 | ⟨_, r4⟩
        · exact (hroom g (r4 ▸ hg)).2.1 o hd
        · have := r4 g hg
          have := h.dlt _ _ hd
          omega) (fun b o hd => .inl hd) (fun b o hd => Nat.lt_of_lt_of_le (h.dlt _ _ hd) r3.size) hkp (fun hv lv => by
      refine ⟨xs ++ ys2, ?_, hsz, fun c hc => ?_, ?_⟩
      · show w'.ownsRow 0 e size v' (l ++ l2).length (xs ++ ys2)
        rw [List.length_append, ← g2]
        exact r2
      · rcases List.mem_append.1 hc with hc | hc
        · exact hl c hc
        · exact hl2 c hc
      · show Sq ((l ++ l2).map _) _
        rw [List.map_append]
        exact sq_append (Sq.keep hkp hsq) (Sq.keep hkp g8))
  have he : (execOp a.eval o).run P w = .ok (.value v') w' := by
    generalize a.eval = ρ at hx g1 ⊢
    simp [execOp, ho, resolve, invoke, builtin, hx, g1, r1, Result.andThen]
  unfold Oper.wp
  rw [he, Oper.upon_value, hd]
  refine hK _ _ ⟨_, _, hG.put hdn h5 ?_⟩
  refine ⟨hn.rn, ?_⟩
  obtain ⟨a1, c1, e1, e2, e3⟩ := own_addr r2
  have := slV_all (z := size) e1 e2 e3
  show SlV ((fun x => if x = n then v' else hv x) n) 0 (l.length + l2.length) size v'
  simp only [if_true]
  rw [← g2]
  exact this

/-- Append to what is empty: a row that may be written. -/
theorem a_app0M (nn : Nat) (hg : Gd w0 U0 nt ops o gs S) (hd : o.dst = some d) (hn : Nat.blt d nt = true) (h5 : Nat.blt d 100000 = true) {x y : Operand} {t e size bytes : Nat} {z : Value} {l2 : List CV} {n q n2 q2 p2} (ho : o.op = .call { callee := .builtin .append, args := #[x, y], argTypes := #[t, t] }) (ht : P.underlying t = some (.slice e)) (hi : (P.info? e).map (fun i => (i.zero, i.size, i.bytes)) = some (some z, size, bytes)) (hzs : Nat.beq z.cells.size size = true) (hsz : Nat.blt 0 size = true) (hbt : Nat.ble bytes 1000 = true)
    (hx : ev S x = some ⟨0, .lst [], n, q, []⟩) (hy : ev S y = some ⟨0, .lst l2, n2, q2, p2⟩) (hnn : (Nat.ble 200000 n && Nat.blt n 400000) = true) (hn2 : (Nat.ble 200000 nn && Nat.blt nn 400000) = true) (hne : Nat.beq n nn = false) (hlv : S n = some (.tok e size)) (hl2 : ∀ c ∈ l2, c.size = size) (hbd : l2.length ≤ 100000000000) :
    AOp P w0 U0 nt ops o (gs ++ (rd x ++ (rd y ++ [n]))) [(nn, [])] S [(d, .sl nn 0 l2.length size), (nn, .mrow e size l2), (n, .no)] := by
  intro s hs hN a w ⟨D, hv, h⟩ Q K hK
  rw [if_pos (hg s (fun k hk => hs k (List.mem_append_left _ hk)) a w D hv h)]
  obtain ⟨h1, h2⟩ : VRep (Us w0 U0 D) w (.lst []) (a.eval x) ∧ Tk hv (LiveN s) ⟨0, .lst [], n, q, []⟩ (a.eval x).cells.toList := ev_rep h (fun k hk => hs k (List.mem_append_right _ (List.mem_append_left _ hk))) hx
  have h3 := ev_val h (fun k hk => hs k (List.mem_append_right _ (List.mem_append_right _ (List.mem_append_left _ hk)))) hy
  have hrn := rnB hnn
  have hrn2 := rnB hn2
  have hok : oKey n := ⟨by omega, by omega⟩
  have hlk := (hs n (by simp)).trans hlv
  have hlive : Live s n (e, size) := ⟨hlk, hrn.1, hrn.2⟩
  have hval : a.eval x = hv n := by
    obtain ⟨m, c, g1, g2⟩ := h2 (.inr ⟨_, hlive⟩)
    simp only at g1
    rw [at_nil] at g1
    cases g1
    obtain ⟨ao, k, c, e1, _⟩ := vrep_lst.1 h1
    unfold tokv at g2
    rw [if_neg (by show n ≠ 1; omega)] at g2
    rw [e1] at g2 ⊢
    simpa [Value.cells] using g2
  obtain ⟨k, xs, g1, g2⟩ : ∃ k xs, w.ownsRow 0 e size (hv n) k xs ∧ 0 < size := h.obj n _ hlk hok
  have hvs : hb (hv n) = (hv n).ownBlock ∧ lenOf (hv n) = k := by
    rcases g1.2 with ⟨e1, e2⟩ | ⟨g, cap, cur, e1, _⟩
    · rw [e1, e2]; exact ⟨rfl, rfl⟩
    · rw [e1]; exact ⟨rfl, rfl⟩
  have hk0 : k = 0 := by
    obtain ⟨ao, k', c, e1, e2, _⟩ := vrep_lst.1 h1
    rw [hval] at e1
    rw [e1] at hvs
    have : k' = k := hvs.2
    rw [← this, e2]; rfl
  subst hk0
  have hx0 : xs = [] := List.eq_nil_of_length_eq_zero (by simpa using g1.1)
  subst hx0
  have hne' : n ≠ nn := fun e => by rw [e, Nat.beq_refl] at hne; cases hne
  refine appLawM (l := []) (n := nn) (h.kill hok) hd (blt_lt hn) (blt_lt h5) hrn2 (fun k av hk => ?_) ho ht hi (Nat.eq_of_beq_eq_true hzs) (blt_lt hsz) (Nat.le_of_ble_eq_true hbt) (fun c hc => by cases hc) hl2 (by simpa using hbd) hval h3 g1 rfl (fun g hg => ?_) (fun a' w' hs' => hK a' w' ?_)
  · by_cases e : n = k
    · subst e
      rw [look_same] at hk
      cases hk
      refine ⟨by show 0 ≠ _; omega, ?_⟩
      have hfn : fnm n = 100000 := by
        unfold fnm
        have : Nat.ble 500000 n = false := by
          cases hb : Nat.ble 500000 n with
          | false => rfl
          | true => have := Nat.le_of_ble_eq_true hb; omega
        rw [this]
      rw [hfn]
      omega
    · rw [look_ne e] at hk; exact (hN (nn, []) (by simp)).nr k av hk
  · rw [← hvs.1] at hg
    obtain ⟨f1, f2, f3⟩ := h.blk n _ g hlk hok (by simp) hg
    rw [lcl_tok rfl] at f1
    refine ⟨?_, fun o => f3 o fun _ => ?_, fun q av h6 h7 h8 h9 => ?_⟩
    · rcases f1 with f1 | f1
      · exact .inl f1
      · exact absurd rfl f1.1
    · rw [hvs.2]; simp
    · have hq : n ≠ q := fun e => by subst e; rw [look_same] at h6; cases h6; exact h8 rfl
      rw [look_ne hq] at h6
      exact h.disj n q _ av g hlk h6 hok h7 (by simp) h8 hq hg
  · simpa using hs'
/-- Append to a row that may be written. -/
theorem a_appM (nn : Nat) (hg : Gd w0 U0 nt ops o gs S) (hd : o.dst = some d) (hn : Nat.blt d nt = true) (h5 : Nat.blt d 100000 = true) {x y : Operand} {t e size bytes : Nat} {z : Value} {l l2 : List CV} {n len n2 q2 p2} (ho : o.op = .call { callee := .builtin .append, args := #[x, y], argTypes := #[t, t] }) (ht : P.underlying t = some (.slice e)) (hi : (P.info? e).map (fun i => (i.zero, i.size, i.bytes)) = some (some z, size, bytes)) (hzs : Nat.beq z.cells.size size = true) (hbt : Nat.ble bytes 1000 = true)
    (hx : ev S x = some (.sl n 0 len size)) (hy : ev S y = some ⟨0, .lst l2, n2, q2, p2⟩) (hn2 : (Nat.ble 200000 nn && Nat.blt nn 400000) = true) (hne : (!Nat.beq n nn && (Nat.blt n 300000 || Nat.ble 300000 nn)) = true) (hlv : S n = some (.mrow e size l)) (hlen : len = l.length) (hl2 : ∀ c ∈ l2, c.size = size) (hbd : l.length + l2.length ≤ 100000000000) :
    AOp P w0 U0 nt ops o (gs ++ (rd x ++ (rd y ++ [n]))) [(nn, [])] S [(d, .sl nn 0 (l.length + l2.length) size), (nn, .mrow e size (l ++ l2)), (n, .no)] := by
  intro s hs hN a w ⟨D, hv, h⟩ Q K hK
  rw [if_pos (hg s (fun k hk => hs k (List.mem_append_left _ hk)) a w D hv h)]
  obtain ⟨hrn, hsl⟩ : RN n ∧ SlV (hv n) 0 len size (a.eval x) := ev_rep h (fun k hk => hs k (List.mem_append_right _ (List.mem_append_left _ hk))) hx
  have h3 := ev_val h (fun k hk => hs k (List.mem_append_right _ (List.mem_append_right _ (List.mem_append_left _ hk)))) hy
  have hrn2 := rnB hn2
  have hrn' := hrn
  unfold RN at hrn'
  have hok : oKey n := ⟨by omega, by omega⟩
  have hlk := (hs n (by simp)).trans hlv
  obtain ⟨xs, g1, g2, g3, g4⟩ := h.mrow hlk hrn
  have hval : a.eval x = hv n := by
    obtain ⟨ao, m, cap, ao', e1, e2, e3, e4, _⟩ := hsl
    obtain ⟨ao2, cap2, f1, f2, f3⟩ := own_addr g1
    rw [f1] at e1 ⊢
    injection e1 with e5 e6 e7
    subst e5; subst e6; subst e7
    rw [e2, e4 rfl, hlen]; rfl
  have hvs : hb (hv n) = (hv n).ownBlock := by
    rcases g1.2 with ⟨e1, e2⟩ | ⟨g, cap, cur, e1, _⟩
    · rw [e1]; rfl
    · rw [e1]; rfl
  rw [Bool.and_eq_true, Bool.or_eq_true] at hne
  have hne' : n ≠ nn := fun e => by rw [e, Nat.beq_refl] at hne; exact absurd hne.1 (by decide)
  refine appLawM (l := l) (n := nn) (h.kill hok) hd (blt_lt hn) (blt_lt h5) hrn2 (fun k av hk => ?_) ho ht hi (Nat.eq_of_beq_eq_true hzs) g2 (Nat.le_of_ble_eq_true hbt) g3 hl2 hbd hval h3 g1 g4 (fun g hg => ?_) (fun a' w' hs' => hK a' w' hs')
  · by_cases e : n = k
    · subst e
      rw [look_same] at hk
      cases hk
      refine ⟨by show 0 ≠ _; omega, ?_⟩
      have hfn : fnm n = 100000 := by
        unfold fnm
        have : Nat.ble 500000 n = false := by
          cases hb : Nat.ble 500000 n with
          | false => rfl
          | true => have := Nat.le_of_ble_eq_true hb; omega
        rw [this]
      rw [hfn]
      omega
    · rw [look_ne e] at hk; exact (hN (nn, []) (by simp)).nr k av hk
  · rw [← hvs] at hg
    obtain ⟨f1, f2, f3⟩ := h.blk n _ g hlk hok (by simp) hg
    refine ⟨?_, fun o => f3 o (fun e => by cases e), fun q av h6 h7 h8 h9 => ?_⟩
    · rcases f1 with f1 | f1
      · exact .inl f1
      · rcases hne.2 with h6 | h6
        · rw [lcl_own (blt_lt h6)] at f1; exact absurd rfl f1.1
        · exact .inr ⟨by rw [lcl_row (Nat.le_of_ble_eq_true h6)]; simp, f1.2⟩
    · have hq : n ≠ q := fun e => by subst e; rw [look_same] at h6; cases h6; exact h8 rfl
      rw [look_ne hq] at h6
      exact h.disj n q _ av g hlk h6 hok h7 (by simp) h8 hq hg

/-- A function value's contract: a function itself, or one with what it holds. -/
def AFunW (P : Program) (W : World) (fc : CV) (args : List CV) (r : AV) : Prop := AFunV P W fc args r ∨ ∃ f, fc = .sc (.func (.func f) #[] #[]) ∧ AFun P W f args r
/-- A slice is nil, or it is not. -/
theorem AWp.nil {c : Code} {Q : Exit → AS → Prop} (d : Nat) {l : List CV} (h5 : Nat.blt d 100000 = true) (hs : look s d = some (.val (.lst l))) (h1 : l = [] → AWp P w0 U0 nt c Q ((d, ⟨0, .lst [], 1, 0, []⟩) :: s)) (h2 : AWp P w0 U0 nt c Q ((d, ⟨16, .lst l, 0, 0, []⟩) :: s)) : AWp P w0 U0 nt c Q s := by
  intro a w ⟨D, hv, h⟩
  have h5 := blt_lt h5
  obtain ⟨v, g1, g2⟩ := h.slot d _ hs h5
  have g2 : VRep (Us w0 U0 D) w (.lst l) v := g2.1
  cases hn : isNil v with
  | false => exact h2 a w ⟨D, hv, h.know h5 g1 ⟨g2, hn⟩⟩
  | true =>
    have hv0 := isNil_eq hn
    subst hv0
    obtain ⟨ao, n, cc, e1, e2, _⟩ := vrep_lst.1 g2
    injection e1 with _ e3 _
    have hl : l = [] := List.eq_nil_of_length_eq_zero (by omega)
    subst hl
    exact h1 rfl a w ⟨D, hv, h.know h5 g1 ⟨g2, fun _ => ⟨0, .lst [], rfl, rfl⟩⟩⟩
end
end Go.Proofs.Ytgmllfjidhbjjab


namespace Go.Proofs.Ytgmllfjidhbjjab
open Go.RowKit
set_option linter.unusedVariables false
set_option linter.unusedSimpArgs false

section
variable {P : Program} {w0 : World} {U0 : UX} {nt : Nat} {ops : Array Oper} {o : Oper} {S : Nat → Option AV} {gs : List Nat} {d : Nat} {s : AS} {a : Act} {w : World} {D : Nat → Nat → Prop} {hv : Nat → Value}

/-- A struct. -/
def aggA (av : AV) : Bool := match Nat.beq av.t 0 with | true => Nat.beq av.c.k 2 | false => false
/-- What a field may hold. -/
def fldB (av : AV) : Bool := Nat.beq av.t 0 || Nat.beq av.t 2 || Nat.beq av.t 11 || Nat.beq av.t 12 || Nat.beq av.t 15
/-- The fields of a new box. -/
def zeroAV (c : CV) : AV := ⟨0, c, match isNilC c with | true => 1 | false => 0, 0, []⟩
noncomputable def fldsA (d : Nat) : List CV → Nat → AS
  | [], _ => []
  | c :: cs, o => (fKey d o, zeroAV c) :: fldsA d cs (o + c.size)
end
end Go.Proofs.Ytgmllfjidhbjjab


namespace Go.Proofs.Ytgmllfjidhbjjab
open Go.RowKit Go.MapKept
set_option linter.unusedVariables false
set_option linter.unusedSimpArgs false

section
variable {P : Program} {w0 : World} {U0 : UX} {nt : Nat} {ops : Array Oper} {o : Oper} {S : Nat → Option AV} {gs : List Nat} {d : Nat} {s : AS} {a : Act} {w : World} {D : Nat → Nat → Prop} {hv : Nat → Value}

/-- An object has turned: its block alone. -/
theorem SimG.upd (h : SimG w0 U0 nt s a w D hv) {k0 : Nat} (h5 : oKey k0) {av0 av : AV} (h0 : look s k0 = some av0) (ht0 : av0.t ≠ 7) (hobj : av0.t ≠ 9) (ht : av.t = av0.t) (hnd : ∀ g, NoD D av0 (hv k0) g → NoD D av (hv k0) g) (ht6 : av.t ≠ 6) {g : Nat} (hg : hb (hv k0) = some g) {w' : World} (hos : w'.os = w.os) (htp : w'.tape = w.tape) (hou : w'.output = w.output) (hsize : w'.heap.size = w.heap.size) (hoth : ∀ k, k ≠ g → w'.heap[k]? = w.heap[k]?) (hoc : (∀ b o v, Us w0 U0 D b o → w.cell? ⟨b, o, none⟩ = some v → Us w0 U0 D b o ∧ w'.cell? ⟨b, o, none⟩ = some v) → OC (Us w0 U0 D) w' hv (LiveN s) av (hv k0)) :
    SimG w0 U0 nt ((k0, av) :: s) a w' D hv := by
  obtain ⟨hbase, hlt0, hD⟩ := h.blk k0 av0 g h0 h5 ht0 hg
  have h5' := h5
  unfold oKey at h5'
  have ht6' : av0.t ≠ 6 := by rw [← ht]; exact ht6
  have hD' : ∀ o, ¬ D g o := fun o => hD o fun e => absurd e ht6'
  have hne9 : av ≠ .obj := fun e => hobj (by rw [← ht, e])
  have hne90 : av0 ≠ .obj := fun e => hobj (by rw [e])
  have hl : ∀ n e, Live ((k0, av) :: s) n e ↔ Live s n e := fun n e => by
    unfold Live
    by_cases e1 : k0 = n
    · subst e1
      rw [look_same, h0]
      constructor
      · rintro ⟨h1, _⟩; cases h1; exact absurd rfl ht6
      · rintro ⟨h1, _⟩; cases h1; exact absurd rfl ht6'
    · rw [look_ne e1]
  have hl2 : LiveN ((k0, av) :: s) = LiveN s := by funext k; simp only [LiveN, hl]
  have hkeep : ∀ b o v, Us w0 U0 D b o → w.cell? ⟨b, o, none⟩ = some v → Us w0 U0 D b o ∧ w'.cell? ⟨b, o, none⟩ = some v := fun b o v hu hc => by
    refine ⟨hu, ?_⟩
    rw [World.cell?_of_block (w := w) (hoth b (us_ne hu hbase (hD' o)))]
    exact hc
  refine ⟨⟨hos.trans h.below.os, htp.trans h.below.tape, hou.trans h.below.output, by rw [hsize]; exact h.below.size, fun k hk hkx => ?_⟩, h.dfr, h.size, fun d av' h1 h2 => ?_, fun n o av' h1 h2 h3 h10 => ?_, fun n o o' av1 av2 h1 h2 => ?_, fun k av' h1 h2 => ?_, fun k av' g' h1 h2 h3 h4 => ?_, fun k k' av1 av2 g' h1 h2 h3 h4 h6 h7 hne => ?_, h.fix, fun b o hd => ?_⟩
  · rw [hoth k]
    · exact h.below.block k hk hkx
    · rintro rfl
      rcases hbase with h1 | h1
      · omega
      · exact hkx h1.2
  · rw [look_ne (by omega)] at h1
    rw [hl2]
    obtain ⟨v, h3, h4⟩ := h.slot d av' h1 h2
    exact ⟨v, h3, h4.keep hkeep⟩
  · rw [look_ne (by unfold fKey; omega)] at h1
    have hne : k0 ≠ 100000 + n := fun e => by subst e; rw [look_same] at h3; cases h3; exact hne9 rfl
    rw [look_ne hne] at h3
    rw [hl2]
    obtain ⟨v, h4, h6, h7⟩ := h.fld n o av' h1 h2 h3 h10
    refine ⟨v, h4.keep hkeep, h6, fun i hi => ?_⟩
    have hng : blkOf (hv (100000 + n)) ≠ g := by
      rintro e
      obtain ⟨g2, ys, ty2, e1, e2, e3⟩ := h.obj9 h3 h10
      have : hb (hv (100000 + n)) = some g := by rw [e1]; rw [e2] at e; rw [← e]; rfl
      exact h.disj k0 (100000 + n) av0 _ g h0 h3 h5 (bn_okey h10) ht0 (by simp) hne hg this
    rw [World.cell?_of_block (w := w) (hoth _ hng)]
    exact h7 i hi
  · rw [look_ne (by unfold fKey; omega)] at h1 h2
    exact h.fdis n o o' av1 av2 h1 h2
  · rw [hl2]
    by_cases e : k0 = k
    · subst e
      rw [look_same] at h1
      cases h1
      exact hoc hkeep
    · rw [look_ne e] at h1
      by_cases h7 : av'.t = 7
      · exact oc_no h7
      · exact (h.obj k av' h1 h2).move hkeep (fun _ hl => ⟨hl, rfl⟩) fun g' hg' => hoth g' fun e2 => h.disj k0 k av0 av' g h0 h1 h5 h2 ht0 h7 e hg (e2 ▸ hg')
  · rw [hsize]
    by_cases e : k0 = k
    · subst e
      rw [look_same] at h1
      cases h1
      obtain ⟨g1, g2, g3⟩ := h.blk k0 av0 g' h0 h5 ht0 h4
      exact ⟨by rw [lcl_eq ht]; exact g1, g2, hnd g' g3⟩
    · rw [look_ne e] at h1
      exact h.blk k av' g' h1 h2 h3 h4
  · have conv : ∀ q (aq : AV), look ((k0, av) :: s) q = some aq → aq.t ≠ 7 → ∃ aq', look s q = some aq' ∧ aq'.t ≠ 7 := fun q aq h8 h9 => by
      by_cases e : k0 = q
      · exact ⟨av0, by rw [← e]; exact h0, ht0⟩
      · rw [look_ne e] at h8; exact ⟨aq, h8, h9⟩
    obtain ⟨a1, b1, c1⟩ := conv k av1 h1 h6
    obtain ⟨a2, b2, c2⟩ := conv k' av2 h2 h7
    exact h.disj k k' a1 a2 g' b1 b2 h3 h4 c1 c2 hne
  · rw [hsize]; exact h.dlt b o hd


/-- A new map. -/
theorem a_mkmap (nn : Nat) (hg : Gd w0 U0 nt ops o gs S) (hd : o.dst = some d) (hn : Nat.blt d nt = true) (h5 : Nat.blt d 100000 = true) {t : TypeId} (ho : o.op = .makeMap t none) (hn2 : (Nat.ble 200000 nn && Nat.blt nn 400000) = true) : AOp P w0 U0 nt ops o gs [(nn, [])] S [(d, .mref nn), (nn, .mp [])] := by
  intro s hs hN a w ⟨D, hv, h⟩ Q K hK
  rw [if_pos (hg s hs a w D hv h)]
  have hrn := rnB hn2
  have he : (execOp a.eval o).run P w = .ok (.value (.map (some w.heap.size))) (w.alloc (.map #[] 0)) := by
    simp [execOp, ho, Instr.makeMap, run_newObj_alloc]
  unfold Oper.wp
  rw [he, Oper.upon_value, hd]
  have hb' : Below w.heap.size w (w.alloc (.map #[] 0)) := (Below.refl _ _).alloc (Nat.le_refl _) _
  have hG := h.newrow (X := fun _ => False) (avn := .mp []) (v' := .map (some w.heap.size)) (D' := D) hrn (hN (nn, []) (by simp)).nr (by simp) ((BelowX.refl _ w).step hb') (fun b hb => hb.elim) (fun g hg => by
      have hg : some w.heap.size = some g := hg
      cases hg
      refine ⟨.inr (Nat.le_refl _), by simp, fun o _ hd => ?_⟩
      have := h.dlt _ _ hd
      omega) (fun b o hd => .inl hd) (fun b o hd => Nat.lt_of_lt_of_le (h.dlt _ _ hd) hb'.size) (us_keep h.dlt hb' fun _ _ h => h) (fun hv lv => ⟨w.heap.size, #[], 0, rfl, alloc_new _ _, rfl, by simp, by simp⟩)
  refine hK _ _ ⟨_, _, hG.put (blt_lt hn) (blt_lt h5) ⟨RW.rn hrn, ?_, rfl⟩⟩
  simp

/-- All keys are ints. -/
def IntKeys (k : IntKind) (l : List CV) : Prop := ∀ r ∈ l, ∃ i c, r = .row [.sc (.int k i), c]
/-- What is found under a key. -/
def lookR (k : IntKind) (i : Int) : List CV → Option CV
  | [] => none
  | ⟨_, _, [⟨_, .int k' j, _⟩, c]⟩ :: l => if k' = k ∧ j = i then some c else lookR k i l
  | _ :: l => lookR k i l
theorem lookR_row {k : IntKind} {i j : Int} {c : CV} {l : List CV} : lookR k i (.row [.sc (.int k j), c] :: l) = if j = i then some c else lookR k i l := by
  rw [lookR]; simp
/-- A key's value is another, or it is new. -/
def putR (k : IntKind) (i : Int) (c : CV) : List CV → List CV
  | [] => [.row [.sc (.int k i), c]]
  | r :: l => match r with
    | ⟨_, _, [⟨_, .int k' j, _⟩, _]⟩ => if k' = k ∧ j = i then .row [.sc (.int k i), c] :: l else r :: putR k i c l
    | _ => r :: putR k i c l
theorem putR_row {k : IntKind} {i j : Int} {c c' : CV} {l : List CV} : putR k i c (.row [.sc (.int k j), c'] :: l) = if j = i then .row [.sc (.int k i), c] :: l else .row [.sc (.int k j), c'] :: putR k i c l := by
  rw [putR]; simp
theorem putR_spec {k : IntKind} {i : Int} (c : CV) : ∀ {l : List CV}, IntKeys k l → (lookR k i l = none → putR k i c l = l ++ [.row [.sc (.int k i), c]]) ∧ ∀ j c', l[j]? = some (.row [.sc (.int k i), c']) → (∀ j' c'', j' < j → l[j']? ≠ some (.row [.sc (.int k i), c''])) → putR k i c l = l.set j (.row [.sc (.int k i), c])
  | [], _ => ⟨fun _ => rfl, fun j c' h => by simp at h⟩
  | r :: l, hk => by
    obtain ⟨j0, c0, rfl⟩ := hk r (by simp)
    obtain ⟨ih1, ih2⟩ := putR_spec c (l := l) (fun x hx => hk x (List.mem_cons_of_mem _ hx))
    rw [putR_row, lookR_row]
    by_cases hj : j0 = i
    · subst hj
      rw [if_pos rfl, if_pos rfl]
      refine ⟨(fun h => by cases h), fun j c' h hf => ?_⟩
      cases j with
      | zero => rfl
      | succ j => exact absurd rfl (hf 0 c0 (by omega))
    · rw [if_neg hj, if_neg hj]
      refine ⟨fun h => by rw [ih1 h]; rfl, fun j c' h hf => ?_⟩
      cases j with
      | zero =>
        simp at h
        exact absurd h.1 hj
      | succ j =>
        rw [ih2 j c' (by simpa using h) fun j' c'' hlt => by have := hf (j' + 1) c'' (by omega); simpa using this]
        rfl
end
end Go.Proofs.Ytgmllfjidhbjjab


namespace Go.Proofs.Ytgmllfjidhbjjab
open Go.RowKit
set_option linter.unusedVariables false
set_option linter.unusedSimpArgs false

section
variable {P : Program} {w0 : World} {U0 : UX} {nt : Nat} {ops : Array Oper} {o : Oper} {S : Nat → Option AV} {gs : List Nat} {d : Nat} {s : AS} {a : Act} {w : World} {D : Nat → Nat → Prop} {hv : Nat → Value}

/-- What is built, nothing told of its room. -/
theorem AOp.plain {R : List Nat} {N : List (Nat × List Nat)} {c : CV} {n q : Nat} {p : List Nat} (h5 : Nat.blt d 100000 = true) (h : AOp P w0 U0 nt ops o R N S [(d, ⟨0, c, n, q, p⟩)]) : AOp P w0 U0 nt ops o R N S [(d, .val c)] := by
  intro s hs hN a w hsim Q K hK
  refine h s hs hN a w hsim Q K fun a' w' hs' => hK a' w' ?_
  obtain ⟨D, hv, hg⟩ := hs'
  obtain ⟨v, g1, g2⟩ := hg.slot d _ (look_same _ _ _) (blt_lt h5)
  refine ⟨D, hv, (hg.know (blt_lt h5) g1 (avrep_val g2.1)).congr fun k => ?_⟩
  show look ((d, AV.val c) :: s) k = look ((d, AV.val c) :: (d, _) :: s) k
  rw [look_cons, look_cons, look_cons]
  split <;> rfl
/-- append to a slice without room: always new memory. -/
theorem run_appF {t ty e : TypeId} {z : Value} {size bytes : Nat} (ht : P.underlying t = some (.slice e)) (hi : (P.info? e).map (fun i => (i.zero, i.size, i.bytes)) = some (some z, size, bytes)) (hzs : z.cells.size = size) (hsz : 0 < size)
    {ao1 : Option Addr} {n : Nat} {xs : List Value} {U : Nat → Nat → Prop} (hnil1 : ao1 = none → n = 0) (hb1 : At U w ao1 xs) (hl1 : xs.length = n * size) {ao : Option Addr} {m c : Nat} {ys : List Value} (hnil : ao = none → m = 0) (hb : At U w ao ys) (hl : ys.length = m * size) (h1 : ∀ u ∈ ys, u.oneCell' = true) (hm : 0 < m) (h63 : n + m ≤ maxLen) (hbytes : (n + m) * bytes ≤ 140737488355328) :
    ∃ v' w', Sem.run P (Builtin.append_ #[t, t] ty #[.slice ao1 n n, .slice ao m c]) w = .ok v' w' ∧ w'.ownsRow w.heap.size e size v' (n + m) (xs ++ ys) ∧ w.grownBy w' none := by
  obtain ⟨i, hi1, hi2, hi3, hi4⟩ := info_parts hi
  have hat : ∀ {ad : Addr} {zs : List Value}, At U w (some ad) zs → ∀ j u, zs[j]? = some u → w.cell? (ad.add j) = some u := fun {ad zs} hA j u hj => by
    have hjl : j < zs.length := by
      rcases Nat.lt_or_ge j zs.length with h | h
      · exact h
      · rw [List.getElem?_eq_none h] at hj; cases hj
    rcases hA with rfl | ⟨b, off, ha, hc⟩
    · simp at hjl
    · cases ha
      rw [add_at, (hc j hjl).2, hj]
  cases ao with
  | none => have := hnil rfl; omega
  | some ad =>
    cases ao1 with
    | none =>
      have hn := hnil1 rfl
      subst hn
      have : xs = [] := List.eq_nil_of_length_eq_zero (by simpa using hl1)
      subst this
      obtain ⟨v', w', hr, ho, hg, _⟩ := run_append_own (P := P) w w.heap.size t ty e i z size bytes ht hi1 hi2 hi3 hi4 hzs hsz (.slice none 0 0) 0 [] (World.ownsRow_nil _ _ _ _) ad m c ys hl (hat hb) h1 h63 hbytes (Nat.le_refl _)
      exact ⟨v', w', hr, ho, hg⟩
    | some ad1 => exact run_append_arg_grows (P := P) w t ty e i z size bytes ht hi1 hi2 hi3 hi4 hzs hsz ad1 n n xs hl1 (hat hb1) ad m c ys hl (hat hb) (by omega) h63 hbytes

theorem a_appF (nn : Nat) (hg : Gd w0 U0 nt ops o gs S) (hd : o.dst = some d) (hn : Nat.blt d nt = true) (h5 : Nat.blt d 100000 = true) {x y : Operand} {t e size bytes : Nat} {z : Value} {l l2 : List CV} {n2 q2 p2} (ho : o.op = .call { callee := .builtin .append, args := #[x, y], argTypes := #[t, t] }) (ht : P.underlying t = some (.slice e)) (hi : (P.info? e).map (fun i => (i.zero, i.size, i.bytes)) = some (some z, size, bytes)) (hzs : Nat.beq z.cells.size size = true) (hsz : Nat.blt 0 size = true) (hbt : Nat.ble bytes 1000 = true)
    (hx : ev S x = some (.full (.lst l))) (hy : ev S y = some ⟨0, .lst l2, n2, q2, p2⟩) (hn2 : (Nat.ble 200000 nn && Nat.blt nn 400000) = true) (hpos : Nat.blt 0 l2.length = true) (hl : ∀ c ∈ l, c.size = size) (hl2 : ∀ c ∈ l2, c.size = size) (hbd : l.length + l2.length ≤ 100000000000) :
    AOp P w0 U0 nt ops o (gs ++ (rd x ++ rd y)) [(nn, [])] S [(d, .sl nn 0 (l.length + l2.length) size), (nn, .mrow e size (l ++ l2))] := by
  intro s hs hN a w ⟨D, hv, h⟩ Q K hK
  rw [if_pos (hg s (fun k hk => hs k (List.mem_append_left _ hk)) a w D hv h)]
  obtain ⟨h1, ao, n, hvx⟩ : VRep (Us w0 U0 D) w (.lst l) (a.eval x) ∧ ∃ ao n, a.eval x = .slice ao n n := ev_rep h (fun k hk => hs k (List.mem_append_right _ (List.mem_append_left _ hk))) hx
  have h3 := ev_val h (fun k hk => hs k (List.mem_append_right _ (List.mem_append_right _ hk))) hy
  rw [hvx] at h1
  obtain ⟨ao', n', cap, e1, e2, e3, e4, e5, ys, e6, e7⟩ := vrep_lst.1 h1
  injection e1 with f1 f2 f3
  subst f1; subst f2; subst f3
  obtain ⟨ao2, m, c2, g1, g2, g3, g4, g6, ys2, g7, g8⟩ := vrep_lst.1 h3
  have hyl : ys.length = n * size := by rw [sq_len (n := CV.size) (fun c _ xs h => h.len) e7, sum_const hl, e2]
  have hyl2 : ys2.length = m * size := by rw [sq_len (n := CV.size) (fun c _ xs h => h.len) g8, sum_const hl2, g2]
  have hbt := Nat.le_of_ble_eq_true hbt
  have hsz := blt_lt hsz
  have hpos := blt_lt hpos
  have hmul : (n + m) * bytes ≤ 100000000000 * 1000 := Nat.mul_le_mul (by omega) hbt
  obtain ⟨v', w', r1, r2, r3⟩ := run_appF (P := P) (ty := o.type) ht hi (Nat.eq_of_beq_eq_true hzs) hsz (fun h => (e5 h).1) e6 hyl (fun h => (g6 h).1) g7 hyl2 (c := c2) (rep_one_of g8) (by omega) (by unfold maxLen; omega) (by omega)
  have hrn2 := rnB hn2
  have hb2 : hb v' = v'.ownBlock := by
    rcases r2.2 with ⟨rfl, _⟩ | ⟨g, cap, cur, rfl, _⟩ <;> rfl
  have hkp : ∀ b o u, Us w0 U0 D b o → w.cell? ⟨b, o, none⟩ = some u → Us w0 U0 D b o ∧ w'.cell? ⟨b, o, none⟩ = some u := fun b o u hu hc => by
    refine ⟨hu, ?_⟩
    have hlt : b < w.heap.size := World.block_lt_of_cell? w _ hc
    rw [World.cell?_of_block (w := w) (r3.block b hlt (by simp))]
    exact hc
  have hG := h.newrow (avn := .mrow e size (l ++ l2)) (v' := v') (D' := D) (X := fun _ => False) (n := nn) hrn2 (hN (nn, []) (by simp)).nr (by simp) ⟨r3.os, r3.tape, r3.output, r3.size, fun b hb hx => r3.block b hb (by simp)⟩ (fun b hb => hb.elim) (fun g hg => by
      rw [hb2] at hg
      refine ⟨.inr (r2.lt g hg).1, (r2.lt g hg).2, fun o _ hd => ?_⟩
      have := (r2.lt g hg).1
      have := h.dlt _ _ hd
      omega) (fun b o hd => .inl hd) (fun b o hd => Nat.lt_of_lt_of_le (h.dlt _ _ hd) r3.size) hkp (fun hv lv => by
      refine ⟨ys ++ ys2, ?_, hsz, fun c hc => ?_, ?_⟩
      · show w'.ownsRow 0 e size v' (l ++ l2).length (ys ++ ys2)
        rw [List.length_append, ← e2, ← g2]
        exact ownsRow_mono r2 (Nat.zero_le _)
      · rcases List.mem_append.1 hc with hc | hc
        · exact hl c hc
        · exact hl2 c hc
      · show Sq ((l ++ l2).map _) _
        rw [List.map_append]
        exact sq_append (Sq.keep hkp e7) (Sq.keep hkp g8))
  have he : (execOp a.eval o).run P w = .ok (.value v') w' := by
    generalize a.eval = ρ at hvx g1 ⊢
    simp [execOp, ho, resolve, invoke, builtin, hvx, g1, r1, Result.andThen]
  unfold Oper.wp
  rw [he, Oper.upon_value, hd]
  refine hK _ _ ⟨_, _, hG.put (blt_lt hn) (blt_lt h5) ?_⟩
  refine ⟨RW.rn hrn2, ?_⟩
  obtain ⟨a1, c1, k1, k2, k3⟩ := own_addr (ownsRow_mono r2 (Nat.zero_le _))
  have := slV_all (z := size) k1 k2 k3
  show SlV ((fun x => if x = nn then v' else hv x) nn) 0 (l.length + l2.length) size v'
  simp only [if_true]
  rw [← e2, ← g2]
  exact this

theorem made_flat (z : List Value) (hz : 0 < z.length) (n : Nat) : (madeCells z.toArray (n * z.length)).toList = (List.replicate n z).flatten := by
  apply List.ext_getElem?
  intro k
  rw [flat_const hz _ (fun v hv => by rw [List.eq_of_mem_replicate hv])]
  have hlen : (madeCells z.toArray (n * z.length)).toList.length = n * z.length := by simp [size_madeCells]
  rcases Nat.lt_or_ge k (n * z.length) with h | h
  · have hd : k / z.length < n := by rw [Nat.div_lt_iff_lt_mul hz]; exact h
    have hm : k % z.length < z.length := Nat.mod_lt _ hz
    rw [List.getElem?_replicate, if_pos hd]
    simp only [Option.bind_some]
    rw [List.getElem?_eq_getElem hm]
    simp [madeCells, h, hm]
  · rw [List.getElem?_eq_none (by omega), List.getElem?_replicate, if_neg]
    · rfl
    · rw [Nat.not_lt, Nat.le_div_iff_mul_le hz]; exact h

/-- make -/
theorem a_mkM (nn : Nat) (hg : Gd w0 U0 nt ops o gs S) (hd : o.dst = some d) (hn : Nat.blt d nt = true) (h5 : Nat.blt d 100000 = true) {x y : Operand} {t e size bytes k : Nat} {z : Value} {zc : CV} {i1 i2 : Int} {k1 k2 : IntKind} {n1 q1 p1 n2 q2 p2} (ho : o.op = .makeSlice t x y) (ht : P.underlying t = some (.slice e)) (hi : (P.info? e).map (fun i => (i.zero, i.size, i.bytes)) = some (some z, size, bytes)) (hzc : zeroT P e = some zc) (hzs : Nat.beq z.cells.size size = true) (hzz : zc.size = size) (hsz : Nat.blt 0 size = true) (hbt : Nat.ble bytes 1000 = true)
    (hx : ev S x = some ⟨0, .sc (.int k1 i1), n1, q1, p1⟩) (hy : ev S y = some ⟨0, .sc (.int k2 i2), n2, q2, p2⟩) (hn2 : (Nat.ble 200000 nn && Nat.blt nn 400000) = true) (h1 : i1 = (k : Int)) (h2 : i2 = (k : Int)) (hs1 : Nat.ble size 160 = true) (hbd : k ≤ 100000) :
    AOp P w0 U0 nt ops o (gs ++ (rd x ++ rd y)) [(nn, [])] S [(d, .sl nn 0 k size), (nn, .mrow e size (List.replicate k zc))] := by
  intro s hs hN a w ⟨D, hv, h⟩ Q K hK
  rw [if_pos (hg s (fun k hk => hs k (List.mem_append_left _ hk)) a w D hv h)]
  have e1 := ev_sc h (fun k hk => hs k (List.mem_append_right _ (List.mem_append_left _ hk))) hx
  have e2 := ev_sc h (fun k hk => hs k (List.mem_append_right _ (List.mem_append_right _ hk))) hy
  subst h1
  subst h2
  obtain ⟨i, hi1, hi2, hi3, hi4⟩ := info_parts hi
  have hsz := blt_lt hsz
  have hbt := Nat.le_of_ble_eq_true hbt
  have hzs := Nat.eq_of_beq_eq_true hzs
  have hmul : bytes * k ≤ 1000 * 100000 := Nat.mul_le_mul hbt hbd
  have hk : k * size ≤ 100000 * 160 := Nat.mul_le_mul hbd (Nat.le_of_ble_eq_true hs1)
  obtain ⟨w', r1, r2, r3⟩ := run_makeSlice_full (P := P) (w := w) w.heap.size t e i z size ht hi1 hi2 hi3 k1 k2 k (by omega) (by rw [hi4]; omega) (by unfold maxLen; omega) (Nat.le_refl _)
  have hrn2 := rnB hn2
  obtain ⟨it, z', f1, f2, f3⟩ := zeroT_spec hzc
  rw [hi1] at f1
  cases f1
  rw [hi2] at f2
  cases f2
  have hmf : (madeCells z.cells (k * size)).toList = (List.replicate k z.cells.toList).flatten := by
    have := made_flat z.cells.toList (by simpa [hzs] using hsz) k
    simpa [hzs] using this
  rw [hmf] at r2
  have hkp : ∀ b o u, Us w0 U0 D b o → w.cell? ⟨b, o, none⟩ = some u → Us w0 U0 D b o ∧ w'.cell? ⟨b, o, none⟩ = some u := fun b o u hu hc => by
    refine ⟨hu, ?_⟩
    have hlt : b < w.heap.size := World.block_lt_of_cell? w _ hc
    rw [World.cell?_of_block (w := w) (r3.block b hlt (by simp))]
    exact hc
  have hG := h.newrow (avn := .mrow e size (List.replicate k zc)) (v' := .slice (some ⟨w.heap.size, 0, none⟩) k k) (D' := D) (X := fun _ => False) (n := nn) hrn2 (hN (nn, []) (by simp)).nr (by simp) ⟨r3.os, r3.tape, r3.output, r3.size, fun b hb hx => r3.block b hb (by simp)⟩ (fun b hb => hb.elim) (fun g hg => by
      have hg : (Value.slice (some ⟨w.heap.size, 0, none⟩) k k).ownBlock = some g := hg
      refine ⟨.inr (r2.lt g hg).1, (r2.lt g hg).2, fun o _ hd => ?_⟩
      have := (r2.lt g hg).1
      have := h.dlt _ _ hd
      omega) (fun b o hd => .inl hd) (fun b o hd => Nat.lt_of_lt_of_le (h.dlt _ _ hd) r3.size) hkp (fun hv lv => by
      refine ⟨(List.replicate k z.cells.toList).flatten, ?_, hsz, fun c hc => ?_, sq_repl (f3 _ _) k⟩
      · show w'.ownsRow 0 e size _ (List.replicate k zc).length _
        rw [List.length_replicate]
        exact ownsRow_mono r2 (Nat.zero_le _)
      · rw [List.eq_of_mem_replicate hc]; exact hzz)
  have he : (execOp a.eval o).run P w = .ok (.value (.slice (some ⟨w.heap.size, 0, none⟩) k k)) w' := by
    generalize a.eval = ρ at e1 e2 ⊢
    simp [execOp, ho, e1, e2, r1]
  unfold Oper.wp
  rw [he, Oper.upon_value, hd]
  refine hK _ _ ⟨_, _, hG.put (blt_lt hn) (blt_lt h5) ⟨RW.rn hrn2, ?_⟩⟩
  show SlV ((fun x => if x = nn then Value.slice (some ⟨w.heap.size, 0, none⟩) k k else hv x) nn) 0 k size _
  simp only [if_true]
  exact slV_all rfl (Nat.le_refl _) (.inr ⟨_, rfl⟩)
end
end Go.Proofs.Ytgmllfjidhbjjab


namespace Go.Proofs.Ytgmllfjidhbjjab
open Go.RowKit
set_option linter.unusedVariables false
set_option linter.unusedSimpArgs false

section
variable {P : Program} {w0 : World} {U0 : UX} {nt : Nat} {ops : Array Oper} {o : Oper} {S : Nat → Option AV} {gs : List Nat} {d : Nat} {s : AS} {a : Act} {w : World} {D : Nat → Nat → Prop} {hv : Nat → Value}

/-- A variable of an array's type; sz: how many cells each of its parts takes. -/
theorem a_allocA (sz : List Nat) (hg : Gd w0 U0 nt ops o gs S) (hd : o.dst = some d) (hn : Nat.blt d nt = true) (h5 : Nat.blt d 100000 = true) {ty : TypeId} {it : TypeInfo} {cs : Array Value} {zs : List CV} (ho : o.op = .alloc ty) (hi : P.info? ty = some it) (hz : it.zero = some (.agg cs)) (h0 : zsO sz cs.toList = some zs) : AOp P w0 U0 nt ops o gs [(d, [])] S [(d, .bp d 0 []), (100000 + d, .bx (.row zs))] := by
  intro s hs hN a w ⟨D, hv, h⟩ Q K hK
  rw [if_pos (hg s hs a w D hv h)]
  obtain ⟨segs, e1, e2, e3, e4, e5⟩ := zsO_spec (U := Us w0 U0 D) (w := w) h0
  have hrep : Rep (Us w0 U0 D) w (.row zs) cs.toList := by
    rw [rep_row, ← e1]
    exact sq_of_segs e4 (fun i c hi => by obtain ⟨seg, f1, f2, _⟩ := e5 i c hi; exact ⟨seg, f1, f2⟩)
  have he : (execOp a.eval o).run P w = .ok (.value (.pointer (some ⟨w.heap.size, 0, none⟩))) (w.alloc (.cells cs ty)) := by
    simp [execOp, ho, Instr.alloc, zeroValue, typeInfo, hi, hz, run_newVar, Value.cells]
  unfold Oper.wp
  rw [he, Oper.upon_value, hd]
  have := h.newbox (d := d) (av := .bx (.row zs)) (hN (d, []) (by simp)).nr (blt_lt hn) (blt_lt h5) (.inl rfl) ty (fun _ => hrep) (fun _ hl => absurd hl not_live0)
  rw [Array.toArray_toList] at this
  exact hK _ _ ⟨_, _, this⟩

/-- An array is built. -/
theorem a_buildA (sz : List Nat) (hg : Gd w0 U0 nt ops o gs S) (hd : o.dst = some d) (hn : Nat.blt d nt = true) (h5 : Nat.blt d 100000 = true) {t e : TypeId} {m z : Nat} {parts : Array (Nat × Operand)} {it ie : TypeInfo} {cs : Array Value} {zs r : List CV} (ho : o.op = .build t parts) (hu : P.underlying t = some (.array m e)) (hi : P.info? t = some it) (hie : P.info? e = some ie) (hz : it.zero = some (.agg cs)) (hez : ie.size = z) (hsz : sz = List.replicate m z) (h0 : zsO sz cs.toList = some zs) (hr : setsO S parts.toList zs = some r) :
    AOp P w0 U0 nt ops o (gs ++ rds parts.toList) [] S [(d, .val (.row r))] :=
  aop_val hg hd hn h5 (fun k hk => List.mem_append_left _ hk) fun s hs a w D hv hm => by
    obtain ⟨segs, e1, e2, e3, e4, e5⟩ := zsO_spec (U := Us w0 U0 D) (w := w) h0
    have hlen : segs.map List.length = zs.map CV.size := by rw [e2, e3]
    obtain ⟨g1, g2⟩ := setsO_spec (U := Us w0 U0 D) (w := w) (ρ := a.eval) (segs := segs) hr (fun x hx c n q p hev => ev_val hm (fun k hk => hs k (List.mem_append_right _ (mem_rds hx k hk))) hev) e4 hlen (fun i c hi => by obtain ⟨seg, f1, f2, _⟩ := e5 i c hi; exact ⟨seg, f1, f2⟩)
    have hfill := fill_segs (place := fun i => some (i * ie.size, ie.size)) sz (fun i z' hz' => by
      rw [hsz, List.getElem?_replicate] at hz'
      split at hz'
      · rename_i him
        cases hz'
        rw [hsz, List.take_replicate, List.sum_replicate_nat, hez, Nat.min_eq_left (Nat.le_of_lt him)]
      · cases hz') (parts.toList.map fun x => (x.1, a.eval x.2)) segs cs e1.symm e2 (fun x hx => by rw [← e3]; exact g1 x hx)
    refine ⟨.agg (setAll segs (parts.toList.map fun x => (x.1, a.eval x.2))).flatten.toArray, ?_, avrep_val (vrep_row.2 ⟨_, rfl, g2⟩)⟩
    have hb : P.built t (parts.map fun x => (x.1, a.eval x.2)).toList = some (setAll segs (parts.toList.map fun x => (x.1, a.eval x.2))).flatten.toArray := by
      unfold Program.built
      rw [hi, hu]
      simp only [hz, hie]
      rw [Array.toList_map]
      exact hfill
    have := run_build w t _ _ hb
    generalize a.eval = ρ at this ⊢
    simp [execOp, ho, this]

/-- The address of an array's element; the array is in a box. -/
theorem a_idxA (j : Nat) (hg : Gd w0 U0 nt ops o gs S) (hd : o.dst = some d) (hn : Nat.blt d nt = true) (h5 : Nat.blt d 100000 = true) {x y : Operand} {ty e : TypeId} {m z n q : Nat} {p : List Nat} {k' v' l'} {i : Int} {kd : IntKind} {n2 q2 p2} (ho : o.op = .indexAddr ty x y) (hu : P.underlying ty = some (.array m e)) (hz : (P.info? e).map (·.size) = some z) (hx : ev S x = some ⟨2, ⟨k', v', l'⟩, n, q, p⟩) (hy : ev S y = some ⟨0, .sc (.int kd i), n2, q2, p2⟩) (hi : i = (j : Int)) (hj : Nat.blt j m = true) : AOp P w0 U0 nt ops o (gs ++ (rd x ++ rd y)) [] S [(d, .bp n (q + j * z) (p ++ [j]))] :=
  aop_val hg hd hn h5 (fun k hk => List.mem_append_left _ hk) fun s hs a w D hv hm => by
    obtain ⟨hbn, h1⟩ : BN n ∧ a.eval x = .pointer (some ⟨blkOf (hv (100000 + n)), q, none⟩) := ev_rep hm (fun k hk => hs k (List.mem_append_right _ (List.mem_append_left _ hk))) hx
    have e2 := ev_sc hm (fun k hk => hs k (List.mem_append_right _ (List.mem_append_right _ hk))) hy
    have hsz := run_sizeOf (P := P) (w := w) hz
    have hj := blt_lt hj
    subst hi
    refine ⟨.pointer (some ⟨blkOf (hv (100000 + n)), q + j * z, none⟩), ?_, hbn, rfl⟩
    have hadd := add_at (blkOf (hv (100000 + n))) q (j * z)
    generalize a.eval = ρ at h1 e2 ⊢
    simp [execOp, ho, Instr.indexAt, asIntOf, run_underlying hu, Instr.sureAddr, h1, e2, hj, hsz, hadd]

/-- No map has this name. -/
def noMref (s : AS) (n : Nat) : Bool := s.all fun p => !(Nat.beq p.2.t 15 && Nat.beq p.2.n n)
/-- A row's end is forgotten. -/
theorem wk_cut (n k : Nat) {e z : Nat} {l : List CV} (hm : look s n = some (.mrow e z l)) (hn : (Nat.ble 200000 n && Nat.blt n 400000) = true) (hkl : k ≤ l.length) (hr : noMref s n = true) : Wk w0 U0 nt s ((n, .mrow e z (l.take k)) :: s) := by
  rintro a w ⟨D, hv, h⟩
  have hrn := rnB hn
  have hrn1 : RN n := RW.rn hrn
  obtain ⟨xs, f1, f2, f3, f4⟩ := h.mrow hm hrn1
  obtain ⟨ao, cap, e1, e2, e3⟩ := own_slice f1
  obtain ⟨hv', hhv⟩ : ∃ hv' : Nat → Value, hv' = fun x => if x = n then .slice ao k cap else hv x := ⟨_, rfl⟩
  have hvn : ∀ x, x ≠ n → hv' x = hv x := fun x hx => by rw [hhv]; simp only [if_neg hx]
  have hvd : hv' n = .slice ao k cap := by rw [hhv]; simp
  have hbs : ∀ x, hb (hv' x) = hb (hv x) := fun x => by
    by_cases hx : x = n
    · subst hx; rw [hvd, e1]; cases ao <;> rfl
    · rw [hvn x hx]
  have hbk : ∀ x, blkOf (hv' x) = blkOf (hv x) := fun x => by unfold blkOf; rw [hbs]
  have hlk : ∀ {k'}, k' ≠ n → look ((n, AV.mrow e z (l.take k)) :: s) k' = look s k' := fun {k'} h1 => look_ne (Ne.symm h1)
  have hl : ∀ q f, Live ((n, AV.mrow e z (l.take k)) :: s) q f ↔ Live s q f := fun q f => by
    unfold Live
    by_cases e4 : q = n
    · subst e4
      rw [look_same, hm]
      constructor <;> (rintro ⟨h1, _⟩; cases h1)
    · rw [hlk e4]
  have hl2 : LiveN ((n, AV.mrow e z (l.take k)) :: s) = LiveN s := by funext q; simp only [LiveN, hl]
  have hnl : ¬ LiveN s n := by
    rintro (h1 | ⟨f, h1⟩)
    · omega
    · rw [h1.1] at hm; cases hm
  have hrep : ∀ {k' av v}, look s k' = some av → AVRep (Us w0 U0 D) w hv (LiveN s) av v → AVRep (Us w0 U0 D) w hv' (LiveN s) av v := fun {k' av v} g1 g2 => by
    by_cases hc : hk av = n ∧ (av.t = 11 ∨ av.t = 12 ∨ av.t = 15)
    · obtain ⟨c1, c2⟩ := hc
      have ht2 : av.t ≠ 2 := by omega
      rw [hk_eq.2 ht2] at c1
      unfold AVRep at g2 ⊢
      rw [if_neg (by omega), if_neg (by omega), if_neg (by omega), if_neg (by omega)] at g2 ⊢
      rcases c2 with c2 | c2 | c2
      · rw [if_pos c2] at g2 ⊢; rw [hbk]; exact g2
      · rw [if_neg (by omega), if_pos c2] at g2 ⊢
        obtain ⟨r1, a0, m, cp, a1, b1, b2, b3⟩ := g2
        rw [c1, e1] at b1
        injection b1 with i1 i2 i3
        subst i1; subst i3
        exact ⟨r1, ao, k, cap, a1, by rw [c1]; exact hvd, b2, b3⟩
      · unfold noMref at hr
        rw [List.all_eq_true] at hr
        have := hr _ (look_mem g1)
        simp only [c2, c1, Nat.beq_refl] at this
        cases this
    · refine g2.move (fun _ _ _ h1 h2 => ⟨h1, h2⟩) (fun _ h1 => h1) fun hR => ?_
      by_cases e4 : hk av = n
      · exfalso
        rcases hR with ⟨r1, r2, r3⟩ | ⟨r1, r2⟩ | ⟨r1, r2⟩
        · rw [hk_eq.2 (by omega)] at e4; rw [e4] at r2; exact hnl r2
        · rw [hk_eq.1 r1] at e4; unfold BN at r2; omega
        · exact hc ⟨e4, r1⟩
      · exact hvn _ e4
  refine ⟨D, hv', h.below, h.dfr, h.size, fun d av g1 g2 => ?_, fun m o av g1 g2 g3 g4 => ?_, fun m o o' av av' g1 g2 => ?_, fun k' av g1 g2 => ?_, fun k' av g g1 g2 g3 g4 => ?_, fun k' k2 av av' g g1 g2 g3 g4 g5 g6 g7 g8 => ?_, fun k' v g1 => ?_, h.dlt⟩
  · rw [hlk (by omega)] at g1
    rw [hl2]
    obtain ⟨v, h1, h2⟩ := h.slot d av g1 g2
    exact ⟨v, h1, hrep g1 h2⟩
  · rw [hlk (by unfold fKey; omega)] at g1
    rw [hlk (by unfold BN at g4; omega)] at g3
    rw [hl2, hbk]
    obtain ⟨v, h1, h2⟩ := h.fld m o av g1 g2 g3 g4
    exact ⟨v, hrep g1 h1, h2⟩
  · rw [hlk (by unfold fKey; omega)] at g1 g2
    exact h.fdis m o o' av av' g1 g2
  · rw [hl2]
    by_cases e4 : k' = n
    · subst e4
      rw [look_same] at g1
      cases g1
      rw [hvd]
      have hx : ∃ ys zs, xs = ys ++ zs ∧ Sq ((l.take k).map fun c => Rep (Us w0 U0 D) w c) ys := by
        have f4' := f4
        rw [← List.take_append_drop k l, List.map_append] at f4'
        obtain ⟨y1, r1, q1, q2, q3⟩ := sq_split f4'
        exact ⟨y1, r1, q1, q2⟩
      obtain ⟨ys, zs, q1, q2⟩ := hx
      have hyl : ys.length = k * z := by rw [sq_len (n := CV.size) (fun c _ xs h => h.len) q2, sum_const (fun c hc => f3 c (List.mem_of_mem_take hc)), List.length_take, Nat.min_eq_left hkl]
      refine ⟨ys, ⟨?_, ?_⟩, f2, fun c hc => f3 c (List.mem_of_mem_take hc), q2⟩
      · show ys.length = (l.take k).length * z
        rw [List.length_take, Nat.min_eq_left hkl]; exact hyl
      · show (Value.slice ao k cap = _ ∧ (l.take k).length = 0) ∨ _
        rw [List.length_take, Nat.min_eq_left hkl]
        rcases f1.2 with ⟨h1, h2⟩ | ⟨g, cap', cur, h1, h2, h3, h4, h6, h7, h8⟩
        · rw [e1] at h1
          injection h1 with i1 i2 i3
          subst i1; subst i3
          have : k = 0 := by omega
          subst this
          exact .inl ⟨rfl, rfl⟩
        · rw [e1] at h1
          injection h1 with i1 i2 i3
          subst i1; subst i3
          refine .inr ⟨g, cap, cur, rfl, h2, h3, by omega, h6, h7, ?_⟩
          have h8' : cur.toList.take (l.length * z) = xs := h8
          have : cur.toList.take (k * z) = xs.take (k * z) := by
            rw [← h8', List.take_take, Nat.min_eq_left (Nat.mul_le_mul_right z hkl)]
          show List.take (k * z) cur.toList = ys
          rw [this, q1, ← hyl]
          exact List.take_left' rfl
    · rw [hlk e4] at g1
      rw [hvn k' e4]
      by_cases h7 : av.t = 7
      · exact oc_no h7
      · refine (h.obj k' av g1 g2).move (fun _ _ _ h1 h2 => ⟨h1, h2⟩) (fun _ h3 => ⟨h3, ?_⟩) fun _ _ => rfl
        unfold tokv
        split
        · rfl
        · exact hvn _ fun e5 => hnl (e5 ▸ h3)
  · rw [hbs] at g4
    by_cases e4 : k' = n
    · subst e4
      rw [look_same] at g1
      cases g1
      obtain ⟨h1, h2, h3⟩ := h.blk k' _ g hm g2 (by simp) g4
      exact ⟨h1, h2, fun o _ => h3 o fun e5 => by cases e5⟩
    · rw [hlk e4] at g1
      obtain ⟨h1, h2, h3⟩ := h.blk k' av g g1 g2 g3 g4
      rw [hvn k' e4]
      exact ⟨h1, h2, h3⟩
  · rw [hbs] at g8 ⊢
    have conv : ∀ {x av}, look ((n, AV.mrow e z (l.take k)) :: s) x = some av → av.t ≠ 7 → ∃ av0, look s x = some av0 ∧ av0.t ≠ 7 := fun {x av} h1 h2 => by
      by_cases e4 : x = n
      · subst e4; exact ⟨_, hm, by simp⟩
      · rw [hlk e4] at h1; exact ⟨av, h1, h2⟩
    obtain ⟨b1, c1, c2⟩ := conv g1 g5
    obtain ⟨b2, c3, c4⟩ := conv g2 g6
    exact h.disj k' k2 b1 b2 g c1 c3 g3 g4 c2 c4 g7 g8
  · have h1 := U0.hf k' v g1
    rw [hvn k' (by omega)]
    exact h.fix k' v g1
/-- What isn't turned is as it was. -/
def SameS (S : Nat → Option AV) (ks : List Nat) : AS → Prop
  | [] => True
  | (k, av) :: l => (hasN ks k = true ∨ S k = some av) ∧ SameS S ks l
theorem SameS.look {ks : List Nat} : ∀ {l : AS}, SameS S ks l → ∀ {k av}, look l k = some av → hasN ks k = false → S k = some av
  | [], _, k, av, h, _ => by cases h
  | (k', av') :: l, ⟨h1, h2⟩, k, av, h, hn => by
    rw [look_cons] at h
    split at h
    · rename_i e
      subst e
      cases h
      rcases h1 with h1 | h1
      · rw [h1] at hn; cases hn
      · exact h1
    · exact SameS.look h2 h hn
/-- A call that turns just these of what it is lent. -/
theorem a_callOU (post' : AS) {f : FuncId} {xs : Array Operand} {ts : Array TypeId} {avs : List AV} {r : AV} {pre post : AS} (hg : Gd w0 U0 nt ops o gs S) (hd : o.dst = some d) (hn : Nat.blt d nt = true) (h5 : Nat.blt d 100000 = true)
    (ho : o.op = .call { callee := .value (.func f), args := xs, argTypes := ts }) (hx : evsA S xs.toList = some avs) (hc : AFunO P f pre avs r post) (hp : SubS S pre) (hl : pre.all lendB = true) (hq : post.all (leaveB (keysOf post)) = true) (hks : (keysOf pre).all (hasN (keysOf post)) = true) (hr : refB (keysOf post) r = true) (hnb : ∀ k v, U0.f k = some v → hasN (keysOf post) k = true → hasN (keysOf pre) k = true) (hsub : SubL post post') (hsame : SameS S (keysOf post') post) (hkp : (keysOf post).all (hasN (keysOf pre)) = true) (hlow : (keysOf post).all (Nat.ble 100000) = true) :
    AOp P w0 U0 nt ops o (gs ++ (rdl xs.toList ++ keysOf pre)) (newN (keysOf pre) (keysOf post) (keysOf post)) S ((d, r) :: post') := by
  have h := a_callO hg hd hn h5 ho hx hc hp hl hq hks hr hnb
  intro s hs hN a w hsim Q K hK
  refine h s hs hN a w hsim Q K fun a' w' hs' => hK a' w' (hs'.sub fun k av h1 => ?_)
  have hd5 := blt_lt h5
  have h1 : look ((d, r) :: (post' ++ s)) k = some av := h1
  show look ((d, r) :: (post ++ s)) k = some av
  rw [look_cons] at h1 ⊢
  split
  · rename_i e; rw [if_pos e] at h1; exact h1
  · rename_i e
    rw [if_neg e, look_append] at h1
    rw [look_append]
    cases e1 : look post' k with
    | some x => rw [e1] at h1; cases h1; rw [hsub.sub k _ e1]; rfl
    | none =>
      rw [e1] at h1
      have h1 : look s k = some av := h1
      cases e2 : look post k with
      | none => exact h1
      | some y =>
        have hk2 : hasN (keysOf post') k = false := by
          cases e3 : hasN (keysOf post') k with
          | false => rfl
          | true => obtain ⟨z, hz⟩ := keys_look (hasN_mem e3); rw [e1] at hz; cases hz
        have h3 := hsame.look e2 hk2
        rw [List.all_eq_true] at hkp
        have h4 := hkp k (mem_keys e2)
        have h5 := hs k (List.mem_append_right _ (List.mem_append_right _ (hasN_mem h4)))
        rw [h5, h3] at h1
        exact h1
end
end Go.Proofs.Ytgmllfjidhbjjab


namespace Go.Proofs.Ytgmllfjidhbjjab
open Go.RowKit
set_option linter.unusedVariables false
set_option linter.unusedSimpArgs false
set_option maxRecDepth 100000

-- 
theorem sIsVar_abs (W : World) (t : Tm) : AFun Try.prog W 56 [t.cw] (.val (.b (decide (t.f < 0)))) := by
  refine afun_of (rs := [.b (decide (t.f < 0))]) Try.func56 Try.ntmps56 rfl rfl rfl rfl ?_
  intro w U hW
  refine awp_seq (awp_region ?_)
  (refine ⟨_, _, _, a_box (gd_none rfl) rfl rfl rfl rfl rfl, (by first | rfl | kernel_rfl), ?_⟩)
  (refine ⟨_, _, _, a_assign (gd_none rfl) rfl rfl rfl rfl rfl, (by first | rfl | kernel_rfl), ?_⟩)
  show AWp _ _ _ _ _ _ _
  refine awp_seq (awp_region ?_)
  (first | (refine ⟨_, _, _, a_field_bp (gd_none rfl) rfl rfl rfl rfl rfl rfl rfl rfl rfl, (by first | rfl | kernel_rfl), ?_⟩) | (refine ⟨_, _, _, a_field_ad (gd_none rfl) rfl rfl rfl rfl rfl rfl rfl rfl rfl rfl rfl, (by first | rfl | kernel_rfl), ?_⟩) | (refine ⟨_, _, _, a_fieldM (gd_none rfl) rfl rfl rfl rfl rfl rfl rfl rfl rfl, (by first | rfl | kernel_rfl), ?_⟩))
  (first | (refine ⟨_, _, _, a_load_all (gd_none rfl) rfl rfl rfl rfl rfl rfl rfl rfl rfl rfl rfl rfl, (by first | rfl | kernel_rfl), ?_⟩) | (refine ⟨_, _, _, a_load_tok (gd_none rfl) rfl rfl rfl rfl rfl rfl rfl rfl rfl rfl rfl rfl rfl, (by first | rfl | kernel_rfl), ?_⟩) | (refine ⟨_, _, _, a_load_bp (gd_none rfl) rfl rfl rfl rfl rfl rfl rfl rfl rfl rfl rfl rfl, (by first | rfl | kernel_rfl), ?_⟩) | (refine ⟨_, _, _, a_load_ad (gd_none rfl) rfl rfl rfl rfl rfl rfl rfl rfl rfl, (by first | rfl | kernel_rfl), ?_⟩) | (refine ⟨_, _, _, a_load_ptr (gd_none rfl) rfl rfl rfl rfl rfl rfl rfl rfl rfl, (by first | rfl | kernel_rfl), ?_⟩) | (refine ⟨_, _, _, a_load_fld (gd_none rfl) rfl rfl rfl rfl rfl rfl rfl rfl rfl rfl rfl rfl rfl, (by first | rfl | kernel_rfl), ?_⟩) | (refine ⟨_, _, _, a_load_fullv (gd_none rfl) rfl rfl rfl rfl rfl rfl rfl rfl rfl, (by first | rfl | kernel_rfl), ?_⟩))
  (refine ⟨_, _, _, a_lss (gd_none rfl) rfl rfl rfl rfl rfl rfl, (by first | rfl | kernel_rfl), ?_⟩)
  (refine ⟨_, _, _, a_assign (gd_none rfl) rfl rfl rfl rfl rfl, (by first | rfl | kernel_rfl), ?_⟩)
  show AWp _ _ _ _ _ _ _
  exact awp_ret ⟨.inr rfl, rfl⟩
-- 
theorem sNumber_abs (W : World) (t : Tm) (h1 : -9223372036854775808 ≤ t.f) (h2 : t.f < 0) : AFun Try.prog W 57 [t.cw] (.val (.i (-1 - t.f))) := by
  refine afun_of (rs := [.i (-1 - t.f)]) Try.func57 Try.ntmps57 rfl rfl rfl rfl ?_
  intro w U hW
  refine awp_seq (awp_region ?_)
  (refine ⟨_, _, _, a_box (gd_none rfl) rfl rfl rfl rfl rfl, (by first | rfl | kernel_rfl), ?_⟩)
  (refine ⟨_, _, _, a_assign (gd_none rfl) rfl rfl rfl rfl rfl, (by first | rfl | kernel_rfl), ?_⟩)
  show AWp _ _ _ _ _ _ _
  refine awp_seq (awp_region ?_)
  (first | (refine ⟨_, _, _, a_field_bp (gd_none rfl) rfl rfl rfl rfl rfl rfl rfl rfl rfl, (by first | rfl | kernel_rfl), ?_⟩) | (refine ⟨_, _, _, a_field_ad (gd_none rfl) rfl rfl rfl rfl rfl rfl rfl rfl rfl rfl rfl, (by first | rfl | kernel_rfl), ?_⟩) | (refine ⟨_, _, _, a_fieldM (gd_none rfl) rfl rfl rfl rfl rfl rfl rfl rfl rfl, (by first | rfl | kernel_rfl), ?_⟩))
  (first | (refine ⟨_, _, _, a_load_all (gd_none rfl) rfl rfl rfl rfl rfl rfl rfl rfl rfl rfl rfl rfl, (by first | rfl | kernel_rfl), ?_⟩) | (refine ⟨_, _, _, a_load_tok (gd_none rfl) rfl rfl rfl rfl rfl rfl rfl rfl rfl rfl rfl rfl rfl, (by first | rfl | kernel_rfl), ?_⟩) | (refine ⟨_, _, _, a_load_bp (gd_none rfl) rfl rfl rfl rfl rfl rfl rfl rfl rfl rfl rfl rfl, (by first | rfl | kernel_rfl), ?_⟩) | (refine ⟨_, _, _, a_load_ad (gd_none rfl) rfl rfl rfl rfl rfl rfl rfl rfl rfl, (by first | rfl | kernel_rfl), ?_⟩) | (refine ⟨_, _, _, a_load_ptr (gd_none rfl) rfl rfl rfl rfl rfl rfl rfl rfl rfl, (by first | rfl | kernel_rfl), ?_⟩) | (refine ⟨_, _, _, a_load_fld (gd_none rfl) rfl rfl rfl rfl rfl rfl rfl rfl rfl rfl rfl rfl rfl, (by first | rfl | kernel_rfl), ?_⟩) | (refine ⟨_, _, _, a_load_fullv (gd_none rfl) rfl rfl rfl rfl rfl rfl rfl rfl rfl, (by first | rfl | kernel_rfl), ?_⟩))
  (refine ⟨_, _, _, a_sub (gd_none rfl) rfl rfl rfl rfl rfl rfl (by first | omega | (simp only [List.length_map, List.length_append, List.length_cons, List.length_nil] <;> omega) | (simp <;> omega)), (by first | rfl | kernel_rfl), ?_⟩)
  (refine ⟨_, _, _, a_assign (gd_none rfl) rfl rfl rfl rfl rfl, (by first | rfl | kernel_rfl), ?_⟩)
  show AWp _ _ _ _ _ _ _
  exact awp_ret ⟨.inr rfl, rfl⟩
-- 
theorem sVariable_abs (W : World) (v : Int) (h1 : 0 ≤ v) (h2 : v ≤ 9223372036854775807) : AFun Try.prog W 44 [.i v] (.val (varT v).cw) := by
  refine afun_of (rs := [(varT v).cw]) Try.func44 Try.ntmps44 rfl rfl rfl rfl ?_
  intro w U hW
  refine awp_seq (awp_region ?_)
  (refine ⟨_, _, _, a_alloc (gd_none rfl) rfl rfl rfl rfl rfl rfl rfl rfl rfl rfl, (by first | rfl | kernel_rfl), ?_⟩)
  show AWp _ _ _ _ _ _ _
  refine awp_seq (awp_region ?_)
  (refine ⟨_, _, _, a_move (gd_none rfl) rfl rfl rfl rfl rfl, (by first | rfl | kernel_rfl), ?_⟩)
  (refine ⟨_, _, _, a_sub (gd_none rfl) rfl rfl rfl rfl rfl rfl (by first | omega | (simp only [List.length_map, List.length_append, List.length_cons, List.length_nil] <;> omega) | (simp <;> omega)), (by first | rfl | kernel_rfl), ?_⟩)
  (refine ⟨_, _, _, a_build (gd_none rfl) rfl rfl rfl rfl rfl rfl rfl rfl rfl rfl rfl, (by first | rfl | kernel_rfl), ?_⟩)
  (first | (refine ⟨_, _, _, a_store_all (gd_none rfl) rfl rfl rfl rfl rfl rfl rfl rfl rfl rfl, (by first | rfl | kernel_rfl), ?_⟩) | (refine ⟨_, _, _, a_store (gd_none rfl) rfl rfl rfl rfl rfl rfl rfl rfl rfl rfl, (by first | rfl | kernel_rfl), ?_⟩) | (refine ⟨_, _, _, a_store_fld (gd_none rfl) rfl rfl rfl rfl rfl rfl rfl rfl rfl rfl rfl rfl, (by first | rfl | kernel_rfl), ?_⟩))
  show AWp _ _ _ _ _ _ _
  exact awp_ret ⟨.inr rfl, rfl⟩
-- 
theorem replace_abs (W : World) (fc : CV) (img : Int → Tm) (hI : ∀ v, 0 ≤ v → v ≤ 9223372036854775807 → AFunV Try.prog W fc [.i v] (.val (img v).cw) ∧ (img v).rng ∧ (img v).size ≤ 1000000000) : ∀ t : Tm, t.rng → t.ok → AFun Try.prog W 35 [t.cw, fc] (.val (repT img t).cw) := by
  intro t
  induction t using Tm.ind with
  | h f l ih =>
  intro hr hok
  have hok := (Tm.ok_iff _).1 hok
  have hr := (Tm.rng_iff _).1 hr
  simp only at hok hr
  have hsz := Tm.size_all l
  refine afun_of (rs := [(repT img ⟨f, l⟩).cw]) Try.func35 Try.ntmps35 rfl rfl rfl rfl ?_
  intro w U hW
  refine awp_seq (awp_region ?_)
  (refine ⟨_, _, _, a_box (gd_none rfl) rfl rfl rfl rfl rfl, (by first | rfl | kernel_rfl), ?_⟩)
  (refine ⟨_, _, _, a_alloc (gd_none rfl) rfl rfl rfl rfl rfl rfl rfl rfl rfl rfl, (by first | rfl | kernel_rfl), ?_⟩)
  show AWp _ _ _ _ _ _ _
  refine awp_seq (awp_seq (awp_region ?_))
  (first | (refine ⟨_, _, _, a_load_all (gd_none rfl) rfl rfl rfl rfl rfl rfl rfl rfl rfl rfl rfl rfl, (by first | rfl | kernel_rfl), ?_⟩) | (refine ⟨_, _, _, a_load_tok (gd_none rfl) rfl rfl rfl rfl rfl rfl rfl rfl rfl rfl rfl rfl rfl, (by first | rfl | kernel_rfl), ?_⟩) | (refine ⟨_, _, _, a_load_bp (gd_none rfl) rfl rfl rfl rfl rfl rfl rfl rfl rfl rfl rfl rfl, (by first | rfl | kernel_rfl), ?_⟩) | (refine ⟨_, _, _, a_load_ad (gd_none rfl) rfl rfl rfl rfl rfl rfl rfl rfl rfl, (by first | rfl | kernel_rfl), ?_⟩) | (refine ⟨_, _, _, a_load_ptr (gd_none rfl) rfl rfl rfl rfl rfl rfl rfl rfl rfl, (by first | rfl | kernel_rfl), ?_⟩) | (refine ⟨_, _, _, a_load_fld (gd_none rfl) rfl rfl rfl rfl rfl rfl rfl rfl rfl rfl rfl rfl rfl, (by first | rfl | kernel_rfl), ?_⟩) | (refine ⟨_, _, _, a_load_fullv (gd_none rfl) rfl rfl rfl rfl rfl rfl rfl rfl rfl, (by first | rfl | kernel_rfl), ?_⟩))
  (refine ⟨_, _, _, a_call (gd_none rfl) rfl rfl rfl rfl rfl (sIsVar_abs w ⟨f, l⟩), (by first | rfl | kernel_rfl), ?_⟩)
  show AWp _ _ _ _ _ _ _
  refine awp_cond rfl (fun hc => ?_) (fun hc => ?_)
  · have hf : f < 0 := by simpa using hc
    rw [repT_var hf]
    obtain ⟨i1, i2, i3⟩ := hI (-1 - f) (by omega) (by omega)
    refine awp_seq (awp_region ?_)
    (refine ⟨_, _, _, a_move (gd_none rfl) rfl rfl rfl rfl rfl, (by first | rfl | kernel_rfl), ?_⟩)
    (first | (refine ⟨_, _, _, a_load_all (gd_none rfl) rfl rfl rfl rfl rfl rfl rfl rfl rfl rfl rfl rfl, (by first | rfl | kernel_rfl), ?_⟩) | (refine ⟨_, _, _, a_load_tok (gd_none rfl) rfl rfl rfl rfl rfl rfl rfl rfl rfl rfl rfl rfl rfl, (by first | rfl | kernel_rfl), ?_⟩) | (refine ⟨_, _, _, a_load_bp (gd_none rfl) rfl rfl rfl rfl rfl rfl rfl rfl rfl rfl rfl rfl, (by first | rfl | kernel_rfl), ?_⟩) | (refine ⟨_, _, _, a_load_ad (gd_none rfl) rfl rfl rfl rfl rfl rfl rfl rfl rfl, (by first | rfl | kernel_rfl), ?_⟩) | (refine ⟨_, _, _, a_load_ptr (gd_none rfl) rfl rfl rfl rfl rfl rfl rfl rfl rfl, (by first | rfl | kernel_rfl), ?_⟩) | (refine ⟨_, _, _, a_load_fld (gd_none rfl) rfl rfl rfl rfl rfl rfl rfl rfl rfl rfl rfl rfl rfl, (by first | rfl | kernel_rfl), ?_⟩) | (refine ⟨_, _, _, a_load_fullv (gd_none rfl) rfl rfl rfl rfl rfl rfl rfl rfl rfl, (by first | rfl | kernel_rfl), ?_⟩))
    (refine ⟨_, _, _, a_call (gd_none rfl) rfl rfl rfl rfl rfl (sNumber_abs w ⟨f, l⟩ hr.1.1 hf), (by first | rfl | kernel_rfl), ?_⟩)
    (refine ⟨_, _, _, a_callv (gd_none rfl) rfl rfl rfl rfl rfl rfl (i1.up hW), (by first | rfl | kernel_rfl), ?_⟩)
    (refine ⟨_, _, _, a_call (gd_none rfl) rfl rfl rfl rfl rfl (clone_abs w i2 i3), (by first | rfl | kernel_rfl), ?_⟩)
    (first | (refine ⟨_, _, _, a_store_all (gd_none rfl) rfl rfl rfl rfl rfl rfl rfl rfl rfl rfl, (by first | rfl | kernel_rfl), ?_⟩) | (refine ⟨_, _, _, a_store (gd_none rfl) rfl rfl rfl rfl rfl rfl rfl rfl rfl rfl, (by first | rfl | kernel_rfl), ?_⟩) | (refine ⟨_, _, _, a_store_fld (gd_none rfl) rfl rfl rfl rfl rfl rfl rfl rfl rfl rfl rfl rfl, (by first | rfl | kernel_rfl), ?_⟩))
    show AWp _ _ _ _ _ _ _
    exact awp_ret (And.intro (.inr rfl) rfl)
  · have hf : ¬ f < 0 := by simpa using hc
    rw [repT_sym hf]
    refine awp_skip ?_
    show AWp _ _ _ _ _ _ _
    refine awp_seq (awp_region ?_)
    (refine ⟨_, _, _, a_assign (gd_none rfl) rfl rfl rfl rfl rfl, (by first | rfl | kernel_rfl), ?_⟩)
    show AWp _ _ _ _ _ _ _
    refine awp_seq (awp_seq (awp_region ?_))
    (first | (refine ⟨_, _, _, a_field_bp (gd_none rfl) rfl rfl rfl rfl rfl rfl rfl rfl rfl, (by first | rfl | kernel_rfl), ?_⟩) | (refine ⟨_, _, _, a_field_ad (gd_none rfl) rfl rfl rfl rfl rfl rfl rfl rfl rfl rfl rfl, (by first | rfl | kernel_rfl), ?_⟩) | (refine ⟨_, _, _, a_fieldM (gd_none rfl) rfl rfl rfl rfl rfl rfl rfl rfl rfl, (by first | rfl | kernel_rfl), ?_⟩))
    (first | (refine ⟨_, _, _, a_load_all (gd_none rfl) rfl rfl rfl rfl rfl rfl rfl rfl rfl rfl rfl rfl, (by first | rfl | kernel_rfl), ?_⟩) | (refine ⟨_, _, _, a_load_tok (gd_none rfl) rfl rfl rfl rfl rfl rfl rfl rfl rfl rfl rfl rfl rfl, (by first | rfl | kernel_rfl), ?_⟩) | (refine ⟨_, _, _, a_load_bp (gd_none rfl) rfl rfl rfl rfl rfl rfl rfl rfl rfl rfl rfl rfl, (by first | rfl | kernel_rfl), ?_⟩) | (refine ⟨_, _, _, a_load_ad (gd_none rfl) rfl rfl rfl rfl rfl rfl rfl rfl rfl, (by first | rfl | kernel_rfl), ?_⟩) | (refine ⟨_, _, _, a_load_ptr (gd_none rfl) rfl rfl rfl rfl rfl rfl rfl rfl rfl, (by first | rfl | kernel_rfl), ?_⟩) | (refine ⟨_, _, _, a_load_fld (gd_none rfl) rfl rfl rfl rfl rfl rfl rfl rfl rfl rfl rfl rfl rfl, (by first | rfl | kernel_rfl), ?_⟩) | (refine ⟨_, _, _, a_load_fullv (gd_none rfl) rfl rfl rfl rfl rfl rfl rfl rfl rfl, (by first | rfl | kernel_rfl), ?_⟩))
    (first | (refine ⟨_, _, _, a_len (gd_none rfl) rfl rfl rfl rfl rfl rfl rfl, (by first | rfl | kernel_rfl), ?_⟩) | (refine ⟨_, _, _, a_lenM (gd_none rfl) rfl rfl rfl rfl rfl rfl rfl, (by first | rfl | kernel_rfl), ?_⟩))
    (refine ⟨_, _, _, a_move (gd_none rfl) rfl rfl rfl rfl rfl, (by first | rfl | kernel_rfl), ?_⟩)
    show AWp _ _ _ _ _ _ _
    refine awp_block (awp_count l.length (fun k => [(1, .val fc), (2, .bp 2 0 []), (100002, .bx (Tm.cw ⟨f, l⟩)), (4, .bp 4 0 []), (100004, ⟨5, .row [.i 0, .lst []], 1, 0, [1]⟩), (5, .own (.lst ((l.take k).map fun t => (repT img t).cv)) 200027), (200027, .tok 38 2), (16, .val (.lst (l.map Tm.cv))), (17, .val (.i (l.map Tm.cv).length)), (18, .val (.i k))])
      ((wk_nil 5 200027 38 2 rfl rfl rfl rfl rfl rfl rfl).trans (wk_sub ⟨rfl, rfl, rfl, rfl, rfl, rfl, rfl, rfl, rfl, rfl, trivial⟩)) ?_)
    intro k hk
    refine awp_seq (awp_region ?_)
    (refine ⟨_, _, _, a_lss (gd_none rfl) rfl rfl rfl rfl rfl rfl, (by first | rfl | kernel_rfl), ?_⟩)
    show AWp _ _ _ _ _ _ _
    refine awp_seq (awp_cond rfl (fun hc => ?_) (fun hc => ?_))
    · have hkl : k < l.length := by
        simp only [List.length_map, decide_eq_true_eq] at hc
        omega
      obtain ⟨t, ht⟩ : ∃ t, l[k]? = some t := ⟨l[k], List.getElem?_eq_getElem hkl⟩
      have ht' := Tm.map_at ht
      have htm := List.mem_of_getElem? ht
      have hsz2 : ∀ c ∈ (l.take k).map fun t => (repT img t).cv, c.size = 2 := by
        intro c hc
        obtain ⟨t, _, rfl⟩ := List.mem_map.1 hc
        exact Tm.size_cv _
      refine awp_skip ?_
      show AWp _ _ _ _ _ _ _
      refine awp_seq (awp_block (awp_seq (awp_region ?_)))
      (refine ⟨_, _, _, a_index (gd_none rfl) rfl rfl rfl rfl rfl rfl rfl rfl rfl (by assumption) rfl (by first | assumption | exact szAll_spec rfl | exact Tm.size_all _ | exact Bd.size_all _ | exact ints_size _), (by first | rfl | kernel_rfl), ?_⟩)
      (first | (refine ⟨_, _, _, a_load_all (gd_none rfl) rfl rfl rfl rfl rfl rfl rfl rfl rfl rfl rfl rfl, (by first | rfl | kernel_rfl), ?_⟩) | (refine ⟨_, _, _, a_load_tok (gd_none rfl) rfl rfl rfl rfl rfl rfl rfl rfl rfl rfl rfl rfl rfl, (by first | rfl | kernel_rfl), ?_⟩) | (refine ⟨_, _, _, a_load_bp (gd_none rfl) rfl rfl rfl rfl rfl rfl rfl rfl rfl rfl rfl rfl, (by first | rfl | kernel_rfl), ?_⟩) | (refine ⟨_, _, _, a_load_ad (gd_none rfl) rfl rfl rfl rfl rfl rfl rfl rfl rfl, (by first | rfl | kernel_rfl), ?_⟩) | (refine ⟨_, _, _, a_load_ptr (gd_none rfl) rfl rfl rfl rfl rfl rfl rfl rfl rfl, (by first | rfl | kernel_rfl), ?_⟩) | (refine ⟨_, _, _, a_load_fld (gd_none rfl) rfl rfl rfl rfl rfl rfl rfl rfl rfl rfl rfl rfl rfl, (by first | rfl | kernel_rfl), ?_⟩) | (refine ⟨_, _, _, a_load_fullv (gd_none rfl) rfl rfl rfl rfl rfl rfl rfl rfl rfl, (by first | rfl | kernel_rfl), ?_⟩))
      (refine ⟨_, _, _, a_alloc (gd_none rfl) rfl rfl rfl rfl rfl rfl rfl rfl rfl rfl, (by first | rfl | kernel_rfl), ?_⟩)
      (first | (refine ⟨_, _, _, a_store_all (gd_none rfl) rfl rfl rfl rfl rfl rfl rfl rfl rfl rfl, (by first | rfl | kernel_rfl), ?_⟩) | (refine ⟨_, _, _, a_store (gd_none rfl) rfl rfl rfl rfl rfl rfl rfl rfl rfl rfl, (by first | rfl | kernel_rfl), ?_⟩) | (refine ⟨_, _, _, a_store_fld (gd_none rfl) rfl rfl rfl rfl rfl rfl rfl rfl rfl rfl rfl rfl, (by first | rfl | kernel_rfl), ?_⟩))
      show AWp _ _ _ _ _ _ _
      refine awp_region ?_
      (refine ⟨_, _, _, a_move (gd_none rfl) rfl rfl rfl rfl rfl, (by first | rfl | kernel_rfl), ?_⟩)
      (first | (refine ⟨_, _, _, a_load_all (gd_none rfl) rfl rfl rfl rfl rfl rfl rfl rfl rfl rfl rfl rfl, (by first | rfl | kernel_rfl), ?_⟩) | (refine ⟨_, _, _, a_load_tok (gd_none rfl) rfl rfl rfl rfl rfl rfl rfl rfl rfl rfl rfl rfl rfl, (by first | rfl | kernel_rfl), ?_⟩) | (refine ⟨_, _, _, a_load_bp (gd_none rfl) rfl rfl rfl rfl rfl rfl rfl rfl rfl rfl rfl rfl, (by first | rfl | kernel_rfl), ?_⟩) | (refine ⟨_, _, _, a_load_ad (gd_none rfl) rfl rfl rfl rfl rfl rfl rfl rfl rfl, (by first | rfl | kernel_rfl), ?_⟩) | (refine ⟨_, _, _, a_load_ptr (gd_none rfl) rfl rfl rfl rfl rfl rfl rfl rfl rfl, (by first | rfl | kernel_rfl), ?_⟩) | (refine ⟨_, _, _, a_load_fld (gd_none rfl) rfl rfl rfl rfl rfl rfl rfl rfl rfl rfl rfl rfl rfl, (by first | rfl | kernel_rfl), ?_⟩) | (refine ⟨_, _, _, a_load_fullv (gd_none rfl) rfl rfl rfl rfl rfl rfl rfl rfl rfl, (by first | rfl | kernel_rfl), ?_⟩))
      (refine ⟨_, _, _, a_move (gd_none rfl) rfl rfl rfl rfl rfl, (by first | rfl | kernel_rfl), ?_⟩)
      (refine ⟨_, _, _, a_call (gd_none rfl) rfl rfl rfl rfl rfl ((ih t htm (hr.2 t htm) (hok.2 t htm)).up hW), (by first | rfl | kernel_rfl), ?_⟩)
      (refine ⟨_, _, _, a_bslice (gd_none rfl) rfl rfl rfl rfl rfl rfl rfl rfl rfl rfl rfl rfl rfl, (by first | rfl | kernel_rfl), ?_⟩)
      (first | (refine ⟨_, _, _, a_app (gd_none rfl) rfl rfl rfl rfl rfl rfl rfl rfl rfl rfl rfl rfl rfl rfl rfl (by first | assumption | exact szAll_spec rfl | exact Tm.size_all _ | exact Bd.size_all _ | exact ints_size _) (by first | assumption | exact szAll_spec rfl | exact Tm.size_all _ | exact Bd.size_all _ | exact ints_size _) (by first | omega | (simp only [List.length_map, List.length_append, List.length_cons, List.length_nil] <;> omega) | (simp <;> omega)), (by first | rfl | kernel_rfl), ?_⟩) | (refine ⟨_, _, _, a_app_nil (gd_none rfl) rfl rfl rfl rfl rfl rfl rfl rfl rfl rfl rfl (by first | assumption | exact szAll_spec rfl | exact Tm.size_all _ | exact Bd.size_all _ | exact ints_size _) (by first | assumption | exact szAll_spec rfl | exact Tm.size_all _ | exact Bd.size_all _ | exact ints_size _) (by first | omega | (simp only [List.length_map, List.length_append, List.length_cons, List.length_nil] <;> omega) | (simp <;> omega)), (by first | rfl | kernel_rfl), ?_⟩))
      (refine ⟨_, _, _, a_assign (gd_none rfl) rfl rfl rfl rfl rfl, (by first | rfl | kernel_rfl), ?_⟩)
      show AWp _ _ _ _ _ _ _
      refine awp_region ?_
      (refine ⟨_, _, _, a_add (gd_none rfl) rfl rfl rfl rfl rfl rfl (by first | omega | (simp only [List.length_map, List.length_append, List.length_cons, List.length_nil] <;> omega) | (simp <;> omega)), (by first | rfl | kernel_rfl), ?_⟩)
      (refine ⟨_, _, _, a_move (gd_none rfl) rfl rfl rfl rfl rfl, (by first | rfl | kernel_rfl), ?_⟩)
      refine ⟨hkl, Wk.trans (wk_sub (s' := [(1, .val fc), (2, .bp 2 0 []), (100002, .bx (Tm.cw ⟨f, l⟩)), (4, .bp 4 0 []), (100004, ⟨5, .row [.i 0, .lst []], 1, 0, [1]⟩), (5, .own (.lst ((l.take (k + 1)).map fun t => (repT img t).cv)) 300027), (300027, .tok 38 2), (16, .val (.lst (l.map Tm.cv))), (17, .val (.i (l.map Tm.cv).length)), (18, .val (.i ((k + 1 : Nat) : Int)))]) ⟨rfl, rfl, rfl, rfl, rfl, ?_, rfl, rfl, rfl, rfl, trivial⟩) (wk_ren 300027 200027 rfl rfl rfl rfl)⟩
      rw [List.take_add_one, ht, List.map_append]
      simp only [Option.toList_some, List.map_cons, List.map_nil, Tm.cv_eq]
      rfl
    · have hkl : k = l.length := by
        simp only [List.length_map, decide_eq_false_iff_not] at hc
        omega
      subst hkl
      rw [List.take_length]
      refine awp_exit ?_
      show AWp _ _ _ _ _ _ _
      refine awp_seq (awp_region ?_)
      (first | (refine ⟨_, _, _, a_field_bp (gd_none rfl) rfl rfl rfl rfl rfl rfl rfl rfl rfl, (by first | rfl | kernel_rfl), ?_⟩) | (refine ⟨_, _, _, a_field_ad (gd_none rfl) rfl rfl rfl rfl rfl rfl rfl rfl rfl rfl rfl, (by first | rfl | kernel_rfl), ?_⟩) | (refine ⟨_, _, _, a_fieldM (gd_none rfl) rfl rfl rfl rfl rfl rfl rfl rfl rfl, (by first | rfl | kernel_rfl), ?_⟩))
      (first | (refine ⟨_, _, _, a_load_all (gd_none rfl) rfl rfl rfl rfl rfl rfl rfl rfl rfl rfl rfl rfl, (by first | rfl | kernel_rfl), ?_⟩) | (refine ⟨_, _, _, a_load_tok (gd_none rfl) rfl rfl rfl rfl rfl rfl rfl rfl rfl rfl rfl rfl rfl, (by first | rfl | kernel_rfl), ?_⟩) | (refine ⟨_, _, _, a_load_bp (gd_none rfl) rfl rfl rfl rfl rfl rfl rfl rfl rfl rfl rfl rfl, (by first | rfl | kernel_rfl), ?_⟩) | (refine ⟨_, _, _, a_load_ad (gd_none rfl) rfl rfl rfl rfl rfl rfl rfl rfl rfl, (by first | rfl | kernel_rfl), ?_⟩) | (refine ⟨_, _, _, a_load_ptr (gd_none rfl) rfl rfl rfl rfl rfl rfl rfl rfl rfl, (by first | rfl | kernel_rfl), ?_⟩) | (refine ⟨_, _, _, a_load_fld (gd_none rfl) rfl rfl rfl rfl rfl rfl rfl rfl rfl rfl rfl rfl rfl, (by first | rfl | kernel_rfl), ?_⟩) | (refine ⟨_, _, _, a_load_fullv (gd_none rfl) rfl rfl rfl rfl rfl rfl rfl rfl rfl, (by first | rfl | kernel_rfl), ?_⟩))
      (refine ⟨_, _, _, a_move (gd_none rfl) rfl rfl rfl rfl rfl, (by first | rfl | kernel_rfl), ?_⟩)
      (refine ⟨_, _, _, a_build (gd_none rfl) rfl rfl rfl rfl rfl rfl rfl rfl rfl rfl rfl, (by first | rfl | kernel_rfl), ?_⟩)
      (first | (refine ⟨_, _, _, a_store_all (gd_none rfl) rfl rfl rfl rfl rfl rfl rfl rfl rfl rfl, (by first | rfl | kernel_rfl), ?_⟩) | (refine ⟨_, _, _, a_store (gd_none rfl) rfl rfl rfl rfl rfl rfl rfl rfl rfl rfl, (by first | rfl | kernel_rfl), ?_⟩) | (refine ⟨_, _, _, a_store_fld (gd_none rfl) rfl rfl rfl rfl rfl rfl rfl rfl rfl rfl rfl rfl, (by first | rfl | kernel_rfl), ?_⟩))
      show AWp _ _ _ _ _ _ _
      refine awp_ret (And.intro (.inr rfl) ?_)
      unfold Tm.cw
      rw [List.map_map]
      rfl
end Go.Proofs.Ytgmllfjidhbjjab


namespace Go.Proofs.Ytgmllfjidhbjjab
open Go.RowKit
set_option linter.unusedVariables false
set_option linter.unusedSimpArgs false
set_option maxRecDepth 100000

theorem varT_rng {v : Int} (h1 : 0 ≤ v) (h2 : v ≤ 9223372036854775807) : (varT v).rng := (Tm.rng_iff _).2 ⟨by show _ ≤ -1 - v ∧ -1 - v ≤ _; omega, fun s hs => by cases hs⟩
theorem varT_size (v : Int) : (varT v).size = 1 := by
  rw [Tm.size_eq]
  have : (varT v).ps = [] := by unfold Tm.ps varT; simp
  rw [this]; rfl
theorem findB_mem : ∀ {l : List Bd} {v : Int} {t : Tm}, findB l v = some t → ∃ b ∈ l, b.t = t ∧ b.v = v
  | [], v, t, h => by cases h
  | b :: l, v, t, h => by
    rw [findB] at h
    split at h
    · rename_i e; cases h; exact ⟨b, by simp, rfl, e⟩
    · obtain ⟨c, h1, h2⟩ := findB_mem h
      exact ⟨c, List.mem_cons_of_mem _ h1, h2⟩
/-- Bindings whose terms are right, and not too great. -/
def bdsOk (l : List Bd) : Prop := ∀ b ∈ l, b.t.rng ∧ b.t.size ≤ 1000000000
theorem imgB_ok {l : List Bd} (h : bdsOk l) {v : Int} (h1 : 0 ≤ v) (h2 : v ≤ 9223372036854775807) : (imgB l v).rng ∧ (imgB l v).size ≤ 1000000000 := by
  unfold imgB
  cases hf : findB l v with
  | none => exact ⟨varT_rng h1 h2, by show (varT v).size ≤ _; rw [varT_size]; omega⟩
  | some t =>
    obtain ⟨b, hb, e, _⟩ := findB_mem hf
    show t.rng ∧ t.size ≤ _
    rw [← e]
    exact h b hb
/-- A variable's number, raised. -/
def upV (by_ v : Int) : Int := v + min by_ (9223372036854775807 - v)
-- 
theorem renf_abs (W : World) (v by_ : Int) (h1 : 0 ≤ v) (h2 : v ≤ 9223372036854775807) (h3 : 0 ≤ by_) : AFun Try.prog W 45 [.i v, .ptr (.i by_)] (.val (varT (upV by_ v)).cw) := by
  refine afun_of (rs := [(varT (upV by_ v)).cw]) Try.func45 Try.ntmps45 rfl rfl rfl rfl ?_
  intro w U hW
  refine awp_seq (awp_region ?_)
  (refine ⟨_, _, _, a_alloc (gd_none rfl) rfl rfl rfl rfl rfl rfl rfl rfl rfl rfl, (by first | rfl | kernel_rfl), ?_⟩)
  show AWp _ _ _ _ _ _ _
  refine awp_seq (awp_region ?_)
  (refine ⟨_, _, _, a_move (gd_none rfl) rfl rfl rfl rfl rfl, (by first | rfl | kernel_rfl), ?_⟩)
  (first | (refine ⟨_, _, _, a_load_all (gd_none rfl) rfl rfl rfl rfl rfl rfl rfl rfl rfl rfl rfl rfl, (by first | rfl | kernel_rfl), ?_⟩) | (refine ⟨_, _, _, a_load_tok (gd_none rfl) rfl rfl rfl rfl rfl rfl rfl rfl rfl rfl rfl rfl rfl, (by first | rfl | kernel_rfl), ?_⟩) | (refine ⟨_, _, _, a_load_bp (gd_none rfl) rfl rfl rfl rfl rfl rfl rfl rfl rfl rfl rfl rfl, (by first | rfl | kernel_rfl), ?_⟩) | (refine ⟨_, _, _, a_load_ad (gd_none rfl) rfl rfl rfl rfl rfl rfl rfl rfl rfl, (by first | rfl | kernel_rfl), ?_⟩) | (refine ⟨_, _, _, a_load_ptr (gd_none rfl) rfl rfl rfl rfl rfl rfl rfl rfl rfl, (by first | rfl | kernel_rfl), ?_⟩) | (refine ⟨_, _, _, a_load_fld (gd_none rfl) rfl rfl rfl rfl rfl rfl rfl rfl rfl rfl rfl rfl rfl, (by first | rfl | kernel_rfl), ?_⟩) | (refine ⟨_, _, _, a_load_fullv (gd_none rfl) rfl rfl rfl rfl rfl rfl rfl rfl rfl, (by first | rfl | kernel_rfl), ?_⟩))
  (refine ⟨_, _, _, a_move (gd_none rfl) rfl rfl rfl rfl rfl, (by first | rfl | kernel_rfl), ?_⟩)
  (refine ⟨_, _, _, a_sub (gd_none rfl) rfl rfl rfl rfl rfl rfl (by first | omega | (simp only [List.length_map, List.length_append, List.length_cons, List.length_nil] <;> omega) | (simp <;> omega)), (by first | rfl | kernel_rfl), ?_⟩)
  (refine ⟨_, _, _, a_min (gd_none rfl) rfl rfl rfl rfl rfl rfl, (by first | rfl | kernel_rfl), ?_⟩)
  (refine ⟨_, _, _, a_add (gd_none rfl) rfl rfl rfl rfl rfl rfl (by first | omega | (simp only [List.length_map, List.length_append, List.length_cons, List.length_nil] <;> omega) | (simp <;> omega)), (by first | rfl | kernel_rfl), ?_⟩)
  (refine ⟨_, _, _, a_call (gd_none rfl) rfl rfl rfl rfl rfl (sVariable_abs w (v + min by_ (9223372036854775807 - v)) (by omega) (by omega)), (by first | rfl | kernel_rfl), ?_⟩)
  (first | (refine ⟨_, _, _, a_store_all (gd_none rfl) rfl rfl rfl rfl rfl rfl rfl rfl rfl rfl, (by first | rfl | kernel_rfl), ?_⟩) | (refine ⟨_, _, _, a_store (gd_none rfl) rfl rfl rfl rfl rfl rfl rfl rfl rfl rfl, (by first | rfl | kernel_rfl), ?_⟩) | (refine ⟨_, _, _, a_store_fld (gd_none rfl) rfl rfl rfl rfl rfl rfl rfl rfl rfl rfl rfl rfl, (by first | rfl | kernel_rfl), ?_⟩))
  show AWp _ _ _ _ _ _ _
  exact awp_ret (And.intro (.inr rfl) rfl)
theorem upV_ok {by_ v : Int} (h1 : 0 ≤ v) (h2 : v ≤ 9223372036854775807) (h3 : 0 ≤ by_) : 0 ≤ upV by_ v ∧ upV by_ v ≤ 9223372036854775807 := by unfold upV; omega
-- 
theorem rename_abs (W : World) (t : Tm) (by_ : Int) (hr : t.rng) (hok : t.ok) : AFun Try.prog W 24 [t.cw, .i by_] (.val (repT (fun v => varT (upV (max by_ 0) v)) t).cw) := by
  refine afun_of (rs := [(repT (fun v => varT (upV (max by_ 0) v)) t).cw]) Try.func24 Try.ntmps24 rfl rfl rfl rfl ?_
  intro w U hW
  refine awp_seq (awp_region ?_)
  (refine ⟨_, _, _, a_box (gd_none rfl) rfl rfl rfl rfl rfl, (by first | rfl | kernel_rfl), ?_⟩)
  (refine ⟨_, _, _, a_box (gd_none rfl) rfl rfl rfl rfl rfl, (by first | rfl | kernel_rfl), ?_⟩)
  (refine ⟨_, _, _, a_alloc (gd_none rfl) rfl rfl rfl rfl rfl rfl rfl rfl rfl rfl, (by first | rfl | kernel_rfl), ?_⟩)
  show AWp _ _ _ _ _ _ _
  refine awp_seq (awp_region ?_)
  (first | (refine ⟨_, _, _, a_load_all (gd_none rfl) rfl rfl rfl rfl rfl rfl rfl rfl rfl rfl rfl rfl, (by first | rfl | kernel_rfl), ?_⟩) | (refine ⟨_, _, _, a_load_tok (gd_none rfl) rfl rfl rfl rfl rfl rfl rfl rfl rfl rfl rfl rfl rfl, (by first | rfl | kernel_rfl), ?_⟩) | (refine ⟨_, _, _, a_load_bp (gd_none rfl) rfl rfl rfl rfl rfl rfl rfl rfl rfl rfl rfl rfl, (by first | rfl | kernel_rfl), ?_⟩) | (refine ⟨_, _, _, a_load_ad (gd_none rfl) rfl rfl rfl rfl rfl rfl rfl rfl rfl, (by first | rfl | kernel_rfl), ?_⟩) | (refine ⟨_, _, _, a_load_ptr (gd_none rfl) rfl rfl rfl rfl rfl rfl rfl rfl rfl, (by first | rfl | kernel_rfl), ?_⟩) | (refine ⟨_, _, _, a_load_fld (gd_none rfl) rfl rfl rfl rfl rfl rfl rfl rfl rfl rfl rfl rfl rfl, (by first | rfl | kernel_rfl), ?_⟩) | (refine ⟨_, _, _, a_load_fullv (gd_none rfl) rfl rfl rfl rfl rfl rfl rfl rfl rfl, (by first | rfl | kernel_rfl), ?_⟩))
  (refine ⟨_, _, _, a_max (gd_none rfl) rfl rfl rfl rfl rfl rfl, (by first | rfl | kernel_rfl), ?_⟩)
  (first | (refine ⟨_, _, _, a_store_all (gd_none rfl) rfl rfl rfl rfl rfl rfl rfl rfl rfl rfl, (by first | rfl | kernel_rfl), ?_⟩) | (refine ⟨_, _, _, a_store (gd_none rfl) rfl rfl rfl rfl rfl rfl rfl rfl rfl rfl, (by first | rfl | kernel_rfl), ?_⟩) | (refine ⟨_, _, _, a_store_fld (gd_none rfl) rfl rfl rfl rfl rfl rfl rfl rfl rfl rfl rfl rfl, (by first | rfl | kernel_rfl), ?_⟩))
  show AWp _ _ _ _ _ _ _
  refine AWp.wk (wk_freeze 3 rfl rfl rfl (s' := [(2, .bp 2 0 []), (100002, .bx t.cw), (4, .bp 4 0 []), (100004, ⟨5, .row [.i 0, .lst []], 1, 0, [1]⟩)]) ⟨rfl, rfl, rfl, rfl, trivial⟩ rfl rfl rfl) ?_
  refine awp_seq (awp_region ?_)
  (first | (refine ⟨_, _, _, a_load_all (gd_none rfl) rfl rfl rfl rfl rfl rfl rfl rfl rfl rfl rfl rfl, (by first | rfl | kernel_rfl), ?_⟩) | (refine ⟨_, _, _, a_load_tok (gd_none rfl) rfl rfl rfl rfl rfl rfl rfl rfl rfl rfl rfl rfl rfl, (by first | rfl | kernel_rfl), ?_⟩) | (refine ⟨_, _, _, a_load_bp (gd_none rfl) rfl rfl rfl rfl rfl rfl rfl rfl rfl rfl rfl rfl, (by first | rfl | kernel_rfl), ?_⟩) | (refine ⟨_, _, _, a_load_ad (gd_none rfl) rfl rfl rfl rfl rfl rfl rfl rfl rfl, (by first | rfl | kernel_rfl), ?_⟩) | (refine ⟨_, _, _, a_load_ptr (gd_none rfl) rfl rfl rfl rfl rfl rfl rfl rfl rfl, (by first | rfl | kernel_rfl), ?_⟩) | (refine ⟨_, _, _, a_load_fld (gd_none rfl) rfl rfl rfl rfl rfl rfl rfl rfl rfl rfl rfl rfl rfl, (by first | rfl | kernel_rfl), ?_⟩) | (refine ⟨_, _, _, a_load_fullv (gd_none rfl) rfl rfl rfl rfl rfl rfl rfl rfl rfl, (by first | rfl | kernel_rfl), ?_⟩))
  (refine ⟨_, _, _, a_mkfunc (gd_none rfl) rfl rfl rfl rfl rfl rfl, (by first | rfl | kernel_rfl), ?_⟩)
  (refine ⟨_, _, _, a_call (gd_none rfl) rfl rfl rfl rfl rfl (replace_abs w _ (fun v => varT (upV (max by_ 0) v)) (fun v h1 h2 => ⟨⟨_, _, _, rfl, renf_abs w v (max by_ 0) h1 h2 (by omega)⟩, varT_rng (upV_ok h1 h2 (by omega)).1 (upV_ok h1 h2 (by omega)).2, by rw [varT_size]; omega⟩) t hr hok), (by first | rfl | kernel_rfl), ?_⟩)
  (first | (refine ⟨_, _, _, a_store_all (gd_none rfl) rfl rfl rfl rfl rfl rfl rfl rfl rfl rfl, (by first | rfl | kernel_rfl), ?_⟩) | (refine ⟨_, _, _, a_store (gd_none rfl) rfl rfl rfl rfl rfl rfl rfl rfl rfl rfl, (by first | rfl | kernel_rfl), ?_⟩) | (refine ⟨_, _, _, a_store_fld (gd_none rfl) rfl rfl rfl rfl rfl rfl rfl rfl rfl rfl rfl rfl, (by first | rfl | kernel_rfl), ?_⟩))
  show AWp _ _ _ _ _ _ _
  exact awp_ret (And.intro (.inr rfl) rfl)
end Go.Proofs.Ytgmllfjidhbjjab


namespace Go.Proofs.Ytgmllfjidhbjjab
set_option linter.unusedVariables false
set_option linter.unusedSimpArgs false

def vsL (l : List Tm) : List Int := (l.filter fun s => decide (s.f < 0)).map fun s => -1 - s.f
/-- The numbers of variables as they stand. -/
def Tm.vs (t : Tm) : List Int := vsL t.flat
theorem vsL_append (l m : List Tm) : vsL (l ++ m) = vsL l ++ vsL m := by simp [vsL]
theorem vsL_flatMap (l : List Tm) : vsL (l.flatMap Tm.flat) = l.flatMap Tm.vs := by
  induction l with
  | nil => rfl
  | cons t l ih => rw [List.flatMap_cons, vsL_append, ih, List.flatMap_cons]; rfl
theorem Tm.vs_var {t : Tm} (h : t.f < 0) : t.vs = [-1 - t.f] := by
  unfold Tm.vs
  rw [Tm.flat_eq, Tm.ps_of_var h]
  simp [vsL, h]
theorem Tm.vs_sym {t : Tm} (h : ¬ t.f < 0) : t.vs = t.l.flatMap Tm.vs := by
  unfold Tm.vs
  rw [Tm.flat_eq, Tm.ps_of_sym (by omega), show t :: t.l.flatMap Tm.flat = [t] ++ t.l.flatMap Tm.flat from rfl, vsL_append, vsL_flatMap]
  simp [vsL, h]
  rfl
theorem Tm.strip_vs (t : Tm) : t.strip.vs = t.vs := by
  induction t using Tm.indp with
  | h t ih =>
    by_cases h : t.f < 0
    · rw [Tm.vs_var h, Tm.vs_var (by rw [Tm.strip_f]; exact h), Tm.strip_f]
    · rw [Tm.vs_sym h, Tm.vs_sym (by rw [Tm.strip_f]; exact h), Tm.strip_l]
      rw [Tm.ps_of_sym (by omega)] at ih ⊢
      rw [List.flatMap_def, List.flatMap_def, List.map_map]
      congr 1
      exact List.map_congr_left fun s hs => ih s hs
theorem repT_vs (img : Int → Tm) (t : Tm) : (repT img t).vs = t.vs.flatMap fun v => (img v).vs := by
  induction t using Tm.indp with
  | h t ih =>
    by_cases h : t.f < 0
    · rw [repT_var h, Tm.vs_var h, Tm.strip_vs]; simp
    · rw [repT_sym h, Tm.vs_sym h, Tm.vs_sym (t := ⟨t.f, _⟩) h]
      rw [Tm.ps_of_sym (by omega)] at ih
      simp only
      rw [List.flatMap_assoc, List.flatMap_def, List.map_map, List.flatMap_def]
      congr 1
      exact List.map_congr_left fun s hs => ih s hs
theorem Tm.size_sym {t : Tm} (h : ¬ t.f < 0) : t.size = 1 + (t.l.map Tm.size).sum := by
  rw [Tm.size_eq, Tm.ps_of_sym (by omega), List.length_flatMap]
  rfl
theorem Tm.size_var {t : Tm} (h : t.f < 0) : t.size = 1 := by
  rw [Tm.size_eq, Tm.ps_of_var h]; rfl
theorem sum_congr_int {l : List Tm} {f g : Tm → Int} (h : ∀ s ∈ l, f s = g s) : (l.map f).sum = (l.map g).sum := by
  rw [List.map_congr_left h]
theorem sum_flatMap_int (l : List Tm) (g : Int → Int) : ((l.flatMap Tm.vs).map g).sum = (l.map fun s => (s.vs.map g).sum).sum := by
  induction l with
  | nil => rfl
  | cons t l ih => rw [List.flatMap_cons, List.map_append, List.sum_append_int, ih, List.map_cons, List.sum_cons]
theorem sum_cast (l : List Nat) : ((l.sum : Nat) : Int) = (l.map fun n : Nat => (n : Int)).sum := by
  induction l with
  | nil => rfl
  | cons n l ih => rw [List.sum_cons, List.map_cons, List.sum_cons, ← ih]; omega
theorem sum_add (l : List Tm) (f g : Tm → Int) : (l.map fun s => f s + g s).sum = (l.map f).sum + (l.map g).sum := by
  induction l with
  | nil => rfl
  | cons t l ih => simp only [List.map_cons, List.sum_cons, ih]; omega
theorem repT_size (img : Int → Tm) (t : Tm) : ((repT img t).size : Int) = t.size + (t.vs.map fun v => ((img v).size : Int) - 1).sum := by
  induction t using Tm.indp with
  | h t ih =>
    by_cases h : t.f < 0
    · rw [repT_var h, Tm.vs_var h, Tm.strip_size, Tm.size_var h]; simp; omega
    · rw [repT_sym h, Tm.vs_sym h, Tm.size_sym h, Tm.size_sym (t := ⟨t.f, _⟩) h, sum_flatMap_int]
      rw [Tm.ps_of_sym (by omega)] at ih
      simp only
      rw [Int.natCast_add, Int.natCast_add, sum_cast, sum_cast, List.map_map, List.map_map, List.map_map, Int.add_assoc, ← sum_add]
      congr 1
      exact sum_congr_int fun s hs => ih s hs

/-- Each once, as they first stand. -/
def nubS (acc : List Int) (v : Int) : List Int := if v ∈ acc then acc else acc ++ [v]
def nub (l : List Int) : List Int := l.foldl nubS []
theorem topF_vs (l : List Tm) : topF l = (vsL l).foldl max (-1) := by
  have : ∀ (l : List Tm) (m : Int), l.foldl (fun m s => if s.f < 0 then max m (-1 - s.f) else m) m = (vsL l).foldl max m := by
    intro l
    induction l with
    | nil => intro acc; rfl
    | cons t l ih =>
      intro m
      rw [List.foldl_cons, ih]
      by_cases h : t.f < 0
      · have : vsL (t :: l) = (-1 - t.f) :: vsL l := by simp [vsL, h]
        rw [this, List.foldl_cons, if_pos h]
      · have : vsL (t :: l) = vsL l := by simp [vsL, h]
        rw [this, if_neg h]
  exact this l (-1)
theorem vs_nonneg (t : Tm) : ∀ v ∈ t.vs, 0 ≤ v := by
  intro v hv
  obtain ⟨s, hs, rfl⟩ := List.mem_map.1 hv
  have := (List.mem_filter.1 hs).2
  simp at this
  omega
theorem vs_le {t : Tm} {B : Int} (h : ∀ s ∈ t.flat, -B ≤ s.f) : ∀ v ∈ t.vs, v < B := by
  intro v hv
  obtain ⟨s, hs, rfl⟩ := List.mem_map.1 hv
  have := h s (List.mem_filter.1 hs).1
  omega
end Go.Proofs.Ytgmllfjidhbjjab


namespace Go.Proofs.Ytgmllfjidhbjjab
open Go.RowKit
set_option linter.unusedVariables false
set_option linter.unusedSimpArgs false

def Tm.sm : Tm → Prop
  | ⟨f, l⟩ => (-1000 ≤ f ∧ f ≤ 1000) ∧ ∀ t ∈ l, Tm.sm t
theorem Tm.sm_iff (t : Tm) : t.sm ↔ (-1000 ≤ t.f ∧ t.f ≤ 1000) ∧ ∀ s ∈ t.l, s.sm := by cases t; rw [Tm.sm]
theorem small_sm (t : Tm) : ∀ most deep, 0 ≤ smallT t most deep → t.sm := by
  induction t using Tm.ind with
  | h f l ih =>
    intro most deep h
    rw [smallT_eq] at h
    split at h
    · omega
    · rename_i hc
      refine (Tm.sm_iff _).2 ⟨⟨by show -1000 ≤ f; omega, by show f ≤ 1000; omega⟩, ?_⟩
      have : ∀ (l : List Tm) (m d : Int), (∀ t ∈ l, ∀ most deep, 0 ≤ smallT t most deep → t.sm) → 0 ≤ smallL l m d → ∀ t ∈ l, t.sm := by
        intro l
        induction l with
        | nil => intro m d _ _ t ht; cases ht
        | cons y ys ih2 =>
          intro m d hl h t ht
          rw [smallL_cons] at h
          split at h
          · omega
          · have hy : 0 ≤ smallT y m d := by
              rcases Int.lt_or_le (smallT y m d) 0 with h1 | h1
              · rw [smallL_neg ys d h1] at h; omega
              · exact h1
            rcases List.mem_cons.1 ht with rfl | ht
            · exact hl t (by simp) m d hy
            · exact ih2 (smallT y m d) d (fun s hs => hl s (List.mem_cons_of_mem _ hs)) h t ht
      exact this l _ _ ih h
theorem Tm.sm_rng {t : Tm} (h : t.sm) : t.rng := by
  induction t using Tm.ind with
  | h f l ih =>
    obtain ⟨h1, h2⟩ := (Tm.sm_iff _).1 h
    exact (Tm.rng_iff _).2 ⟨by simp only at h1 ⊢; omega, fun s hs => ih s hs (h2 s hs)⟩
theorem Tm.wt_ok {t : Tm} (h : t.wt ≤ 1000000) : t.ok := by
  induction t using Tm.ind with
  | h f l ih =>
    rw [Tm.wt_eq] at h
    simp only at h
    have := Tm.wts_len l
    exact (Tm.ok_iff _).2 ⟨by simp only; omega, fun s hs => ih s hs (by have : s.wt ≤ Tm.wts l := Tm.wts_mem hs; omega)⟩
theorem Tm.sm_flat {t : Tm} (h : t.sm) : ∀ s ∈ t.flat, -1000 ≤ s.f ∧ s.f ≤ 1000 := by
  induction t using Tm.indp with
  | h t ih =>
    intro s hs
    rw [Tm.flat_eq] at hs
    rcases List.mem_cons.1 hs with rfl | hs
    · exact ((Tm.sm_iff _).1 h).1
    · obtain ⟨u, hu, hs⟩ := List.mem_flatMap.1 hs
      exact ih u hu (((Tm.sm_iff _).1 h).2 u (Tm.ps_mem hu).1) s hs
theorem Tm.strip_rng {t : Tm} (h : t.rng) : t.strip.rng := by
  induction t using Tm.indp with
  | h t ih =>
    obtain ⟨h1, h2⟩ := (Tm.rng_iff _).1 h
    refine (Tm.rng_iff _).2 ⟨by rw [Tm.strip_f]; exact h1, fun s hs => ?_⟩
    rw [Tm.strip_l] at hs
    obtain ⟨u, hu, rfl⟩ := List.mem_map.1 hs
    exact ih u hu (h2 u (Tm.ps_mem hu).1)
theorem Tm.strip_ok {t : Tm} (h : t.ok) : t.strip.ok := by
  induction t using Tm.indp with
  | h t ih =>
    obtain ⟨h1, h2⟩ := (Tm.ok_iff _).1 h
    refine (Tm.ok_iff _).2 ⟨?_, fun s hs => ?_⟩
    · rw [Tm.strip_l, List.length_map]
      unfold Tm.ps
      split
      · simp
      · exact h1
    · rw [Tm.strip_l] at hs
      obtain ⟨u, hu, rfl⟩ := List.mem_map.1 hs
      exact ih u hu (h2 u (Tm.ps_mem hu).1)
theorem leaf_rng {f : Int} (h1 : -9223372036854775808 ≤ f) (h2 : f ≤ 9223372036854775807) : (Tm.mk f []).rng := (Tm.rng_iff _).2 ⟨⟨h1, h2⟩, fun s hs => by cases hs⟩
theorem leaf_ok (f : Int) : (Tm.mk f []).ok := (Tm.ok_iff _).2 ⟨by show 0 ≤ _; omega, fun s hs => by cases hs⟩
theorem leaf_size (f : Int) : (Tm.mk f []).size = 1 := by
  rw [Tm.size_eq]
  have : (Tm.mk f []).ps = [] := by unfold Tm.ps; simp
  rw [this]; rfl
end Go.Proofs.Ytgmllfjidhbjjab


namespace Go.Proofs.Ytgmllfjidhbjjab
open Go.RowKit
set_option linter.unusedVariables false
set_option linter.unusedSimpArgs false
set_option maxRecDepth 100000

theorem repT_rng {img : Int → Tm} {t : Tm} (h : t.rng) (hi : ∀ v, 0 ≤ v → v ≤ 9223372036854775807 → (img v).rng) : (repT img t).rng := by
  induction t using Tm.ind with
  | h f l ih =>
    obtain ⟨h1, h2⟩ := (Tm.rng_iff _).1 h
    simp only at h1 h2
    by_cases hf : f < 0
    · rw [repT_var hf]; exact Tm.strip_rng (hi _ (by simp only; omega) (by simp only; omega))
    · rw [repT_sym hf]
      refine (Tm.rng_iff _).2 ⟨h1, fun s hs => ?_⟩
      obtain ⟨u, hu, rfl⟩ := List.mem_map.1 hs
      exact ih u hu (h2 u hu)
theorem repT_ok {img : Int → Tm} {t : Tm} (h : t.ok) (hi : ∀ v, (img v).ok) : (repT img t).ok := by
  induction t using Tm.ind with
  | h f l ih =>
    obtain ⟨h1, h2⟩ := (Tm.ok_iff _).1 h
    simp only at h1 h2
    by_cases hf : f < 0
    · rw [repT_var hf]; exact Tm.strip_ok (hi _)
    · rw [repT_sym hf]
      refine (Tm.ok_iff _).2 ⟨by simpa using h1, fun s hs => ?_⟩
      obtain ⟨u, hu, rfl⟩ := List.mem_map.1 hs
      exact ih u hu (h2 u hu)
theorem varT_ok (v : Int) : (varT v).ok := (Tm.ok_iff _).2 ⟨by show 0 ≤ _; omega, fun s hs => by cases hs⟩
theorem leaf_vs (f : Int) (h : 0 ≤ f) : (Tm.mk f []).vs = [] := by rw [Tm.vs_sym (by show ¬ f < 0; omega)]; rfl
end Go.Proofs.Ytgmllfjidhbjjab


namespace Go.Proofs.Ytgmllfjidhbjjab
set_option linter.unusedVariables false
set_option linter.unusedSimpArgs false

theorem cmpZ_cases (x y : Int) : (cmpZ x y = -1 ∧ x < y) ∨ (cmpZ x y = 0 ∧ x = y) ∨ (cmpZ x y = 1 ∧ y < x) := by
  unfold cmpZ
  split
  · exact .inl ⟨rfl, by assumption⟩
  · split
    · exact .inr (.inr ⟨rfl, by assumption⟩)
    · exact .inr (.inl ⟨rfl, by omega⟩)

/-- A head's place among heads. -/
def rank (x : Int) : Int × Int := if x < 0 then (0, -1 - x) else (1, x)
theorem cmpH_cases (x y : Int) : (cmpH x y = -1 ∧ ((x < 0 ∧ y < 0 ∧ y < x) ∨ (¬ (x < 0 ∧ y < 0) ∧ x < y))) ∨ (cmpH x y = 0 ∧ x = y) ∨ (cmpH x y = 1 ∧ ((x < 0 ∧ y < 0 ∧ x < y) ∨ (¬ (x < 0 ∧ y < 0) ∧ y < x))) := by
  unfold cmpH
  split
  · have := cmpZ_cases (-1 - x) (-1 - y)
    omega
  · have := cmpZ_cases x y
    omega

/-- A comparison that is an order on these. -/
structure CmpOk (c : Int) : Prop where
  three : c = -1 ∨ c = 0 ∨ c = 1

theorem cmpT_zero (a : Tm) : ∀ b, cmpT a b = 0 ↔ a.strip = b.strip := by
  induction a using Tm.indp with
  | h a ih =>
    intro b
    rw [cmpT_eq, Tm.strip_eq a, Tm.strip_eq b]
    have hL : ∀ (l m : List Tm), (∀ s ∈ l, ∀ b, cmpT s b = 0 ↔ s.strip = b.strip) → (cmpL l m = 0 ↔ l.map Tm.strip = m.map Tm.strip) := by
      intro l
      induction l with
      | nil => intro m _; cases m <;> simp [cmpL_nil, cmpL_lt, cmpL_gt]
      | cons y ys ih2 =>
        intro m hl
        cases m with
        | nil => simp [cmpL_nil, cmpL_lt, cmpL_gt]
        | cons z zs =>
          rw [cmpL_cons, List.map_cons, List.map_cons, List.cons.injEq, ← hl y (by simp) z, ← ih2 zs (fun s hs => hl s (List.mem_cons_of_mem _ hs))]
          by_cases h : cmpT y z = 0 <;> simp [h]
    rw [Tm.mk.injEq]
    by_cases h1 : a.f = b.f
    · rw [if_neg (by simp [h1])]
      by_cases h2 : a.ps.length = b.ps.length
      · rw [if_neg (by simp [h2]), hL _ _ ih]
        simp [h1]
      · rw [if_pos h2]
        constructor
        · intro h3
          have := cmpZ_cases a.ps.length b.ps.length
          omega
        · rintro ⟨_, h3⟩
          exact absurd (by simpa using congrArg List.length h3) h2
    · rw [if_pos h1]
      constructor
      · intro h3
        have := cmpH_cases a.f b.f
        omega
      · rintro ⟨h3, _⟩
        exact absurd h3 h1

/-- Over two it goes on; strict if one of both is. -/
def Goon (p q r : Int) : Prop := p ≤ 0 → q ≤ 0 → r ≤ 0 ∧ (r = 0 → p = 0 ∧ q = 0)

theorem sameT_iff (a b : Tm) : sameT a b = true ↔ a.strip = b.strip := by
  unfold sameT
  rw [beq_iff_eq]
  exact cmpT_zero a b
end Go.Proofs.Ytgmllfjidhbjjab


namespace Go.Proofs.Ytgmllfjidhbjjab
open Go.RowKit
set_option linter.unusedVariables false
set_option linter.unusedSimpArgs false
set_option maxRecDepth 100000
end Go.Proofs.Ytgmllfjidhbjjab


namespace Go.Proofs.Ytgmllfjidhbjjab
open Go.RowKit
set_option linter.unusedVariables false
set_option linter.unusedSimpArgs false
set_option maxRecDepth 100000
end Go.Proofs.Ytgmllfjidhbjjab


namespace Go.Proofs.Ytgmllfjidhbjjab
open Go.RowKit
set_option linter.unusedVariables false
set_option linter.unusedSimpArgs false
set_option maxRecDepth 100000
end Go.Proofs.Ytgmllfjidhbjjab


namespace Go.Proofs.Ytgmllfjidhbjjab
open Go.RowKit
set_option linter.unusedVariables false
set_option linter.unusedSimpArgs false
set_option maxRecDepth 100000
end Go.Proofs.Ytgmllfjidhbjjab


namespace Go.Proofs.Ytgmllfjidhbjjab
open Go.RowKit
set_option linter.unusedVariables false
set_option linter.unusedSimpArgs false
set_option maxRecDepth 100000

set_option maxHeartbeats 1000000 in
-- 
theorem of_abs (W : World) : ∀ (t : Tm), t.ok → AFun Try.prog W 14 [t.cw] (.val t.cw) := by
  intro t
  induction t using Tm.ind with
  | h f l ih =>
  intro hok
  obtain ⟨hl, hok⟩ := (Tm.ok_iff _).1 hok
  simp only at hl hok
  refine afun_of (rs := [Tm.cw ⟨f, l⟩]) Try.func14 Try.ntmps14 rfl rfl rfl rfl ?_
  intro w U hW
  refine awp_seq (awp_region ?_)
  (refine ⟨_, _, _, a_box (gd_none rfl) rfl rfl rfl rfl rfl, (by first | rfl | kernel_rfl), ?_⟩)
  (refine ⟨_, _, _, a_alloc (gd_none rfl) rfl rfl rfl rfl rfl rfl rfl rfl rfl rfl, (by first | rfl | kernel_rfl), ?_⟩)
  show AWp _ _ _ _ _ _ _
  refine awp_seq (awp_region ?_)
  (first | (refine ⟨_, _, _, a_field_bp (gd_none rfl) rfl rfl rfl rfl rfl rfl rfl rfl rfl, (by first | rfl | kernel_rfl), ?_⟩) | (refine ⟨_, _, _, a_field_ad (gd_none rfl) rfl rfl rfl rfl rfl rfl rfl rfl rfl rfl rfl, (by first | rfl | kernel_rfl), ?_⟩) | (refine ⟨_, _, _, a_fieldM (gd_none rfl) rfl rfl rfl rfl rfl rfl rfl rfl rfl, (by first | rfl | kernel_rfl), ?_⟩))
  (first | (refine ⟨_, _, _, a_load_all (gd_none rfl) rfl rfl rfl rfl rfl rfl rfl rfl rfl rfl rfl rfl, (by first | rfl | kernel_rfl), ?_⟩) | (refine ⟨_, _, _, a_load_tok (gd_none rfl) rfl rfl rfl rfl rfl rfl rfl rfl rfl rfl rfl rfl rfl, (by first | rfl | kernel_rfl), ?_⟩) | (refine ⟨_, _, _, a_load_bp (gd_none rfl) rfl rfl rfl rfl rfl rfl rfl rfl rfl rfl rfl rfl, (by first | rfl | kernel_rfl), ?_⟩) | (refine ⟨_, _, _, a_load_ad (gd_none rfl) rfl rfl rfl rfl rfl rfl rfl rfl rfl, (by first | rfl | kernel_rfl), ?_⟩) | (refine ⟨_, _, _, a_load_ptr (gd_none rfl) rfl rfl rfl rfl rfl rfl rfl rfl rfl, (by first | rfl | kernel_rfl), ?_⟩) | (refine ⟨_, _, _, a_load_fld (gd_none rfl) rfl rfl rfl rfl rfl rfl rfl rfl rfl rfl rfl rfl rfl, (by first | rfl | kernel_rfl), ?_⟩) | (refine ⟨_, _, _, a_load_fullv (gd_none rfl) rfl rfl rfl rfl rfl rfl rfl rfl rfl, (by first | rfl | kernel_rfl), ?_⟩))
  (refine ⟨_, _, _, a_build (gd_none rfl) rfl rfl rfl rfl rfl rfl rfl rfl rfl rfl rfl, (by first | rfl | kernel_rfl), ?_⟩)
  (refine ⟨_, _, _, a_alloc (gd_none rfl) rfl rfl rfl rfl rfl rfl rfl rfl rfl rfl, (by first | rfl | kernel_rfl), ?_⟩)
  (first | (refine ⟨_, _, _, a_store_all (gd_none rfl) rfl rfl rfl rfl rfl rfl rfl rfl rfl rfl, (by first | rfl | kernel_rfl), ?_⟩) | (refine ⟨_, _, _, a_store (gd_none rfl) rfl rfl rfl rfl rfl rfl rfl rfl rfl rfl, (by first | rfl | kernel_rfl), ?_⟩) | (refine ⟨_, _, _, a_store_fld (gd_none rfl) rfl rfl rfl rfl rfl rfl rfl rfl rfl rfl rfl rfl, (by first | rfl | kernel_rfl), ?_⟩))
  show AWp _ _ _ _ _ _ _
  refine awp_seq (awp_seq (awp_region ?_))
  (refine ⟨_, _, _, a_assign (gd_none rfl) rfl rfl rfl rfl rfl, (by first | rfl | kernel_rfl), ?_⟩)
  show AWp _ _ _ _ _ _ _
  refine awp_block (awp_count l.length (fun k => [(1, .bp 1 0 []), (100001, .bx (Tm.cw ⟨f, l⟩)), (2, .bp 2 0 []), (100002, ⟨5, .row [.i 0, .lst []], 1, 0, [1]⟩), (3, .bp 3 0 []), (100003, ⟨5, .row [.i f, .lst ((l.take k).map Tm.cv)], 200024, 0, [1]⟩), (200024, .tok 38 2), (4, .val (.i k))])
    ((wk_nil 100003 200024 38 2 rfl rfl rfl rfl rfl rfl rfl).trans (wk_sub ⟨rfl, rfl, rfl, rfl, rfl, rfl, rfl, rfl, trivial⟩)) ?_)
  intro k hk
  refine awp_seq (awp_seq (awp_region ?_))
  (refine ⟨_, _, _, a_move (gd_none rfl) rfl rfl rfl rfl rfl, (by first | rfl | kernel_rfl), ?_⟩)
  (first | (refine ⟨_, _, _, a_field_bp (gd_none rfl) rfl rfl rfl rfl rfl rfl rfl rfl rfl, (by first | rfl | kernel_rfl), ?_⟩) | (refine ⟨_, _, _, a_field_ad (gd_none rfl) rfl rfl rfl rfl rfl rfl rfl rfl rfl rfl rfl, (by first | rfl | kernel_rfl), ?_⟩) | (refine ⟨_, _, _, a_fieldM (gd_none rfl) rfl rfl rfl rfl rfl rfl rfl rfl rfl, (by first | rfl | kernel_rfl), ?_⟩))
  (first | (refine ⟨_, _, _, a_load_all (gd_none rfl) rfl rfl rfl rfl rfl rfl rfl rfl rfl rfl rfl rfl, (by first | rfl | kernel_rfl), ?_⟩) | (refine ⟨_, _, _, a_load_tok (gd_none rfl) rfl rfl rfl rfl rfl rfl rfl rfl rfl rfl rfl rfl rfl, (by first | rfl | kernel_rfl), ?_⟩) | (refine ⟨_, _, _, a_load_bp (gd_none rfl) rfl rfl rfl rfl rfl rfl rfl rfl rfl rfl rfl rfl, (by first | rfl | kernel_rfl), ?_⟩) | (refine ⟨_, _, _, a_load_ad (gd_none rfl) rfl rfl rfl rfl rfl rfl rfl rfl rfl, (by first | rfl | kernel_rfl), ?_⟩) | (refine ⟨_, _, _, a_load_ptr (gd_none rfl) rfl rfl rfl rfl rfl rfl rfl rfl rfl, (by first | rfl | kernel_rfl), ?_⟩) | (refine ⟨_, _, _, a_load_fld (gd_none rfl) rfl rfl rfl rfl rfl rfl rfl rfl rfl rfl rfl rfl rfl, (by first | rfl | kernel_rfl), ?_⟩) | (refine ⟨_, _, _, a_load_fullv (gd_none rfl) rfl rfl rfl rfl rfl rfl rfl rfl rfl, (by first | rfl | kernel_rfl), ?_⟩))
  (first | (refine ⟨_, _, _, a_len (gd_none rfl) rfl rfl rfl rfl rfl rfl rfl, (by first | rfl | kernel_rfl), ?_⟩) | (refine ⟨_, _, _, a_lenM (gd_none rfl) rfl rfl rfl rfl rfl rfl rfl, (by first | rfl | kernel_rfl), ?_⟩))
  (refine ⟨_, _, _, a_lss (gd_none rfl) rfl rfl rfl rfl rfl rfl, (by first | rfl | kernel_rfl), ?_⟩)
  show AWp _ _ _ _ _ _ _
  refine awp_cond rfl (fun hc => ?_) (fun hc => ?_)
  · simp only [List.length_map, decide_eq_true_eq] at hc
    have hkl : k < l.length := by omega
    obtain ⟨t, ht⟩ : ∃ t, l[k]? = some t := ⟨l[k], List.getElem?_eq_getElem hkl⟩
    refine awp_skip ?_
    show AWp _ _ _ _ _ _ _
    refine awp_seq (awp_block (awp_draw (by kernel_rfl) (by kernel_rfl) ?_))
    (first | (refine ⟨_, _, _, a_field_bp (gd_none rfl) rfl rfl rfl rfl rfl rfl rfl rfl rfl, (by first | rfl | kernel_rfl), ?_⟩) | (refine ⟨_, _, _, a_field_ad (gd_none rfl) rfl rfl rfl rfl rfl rfl rfl rfl rfl rfl rfl, (by first | rfl | kernel_rfl), ?_⟩) | (refine ⟨_, _, _, a_fieldM (gd_none rfl) rfl rfl rfl rfl rfl rfl rfl rfl rfl, (by first | rfl | kernel_rfl), ?_⟩))
    (first | (refine ⟨_, _, _, a_load_all (gd_none rfl) rfl rfl rfl rfl rfl rfl rfl rfl rfl rfl rfl rfl, (by first | rfl | kernel_rfl), ?_⟩) | (refine ⟨_, _, _, a_load_tok (gd_none rfl) rfl rfl rfl rfl rfl rfl rfl rfl rfl rfl rfl rfl rfl, (by first | rfl | kernel_rfl), ?_⟩) | (refine ⟨_, _, _, a_load_bp (gd_none rfl) rfl rfl rfl rfl rfl rfl rfl rfl rfl rfl rfl rfl, (by first | rfl | kernel_rfl), ?_⟩) | (refine ⟨_, _, _, a_load_ad (gd_none rfl) rfl rfl rfl rfl rfl rfl rfl rfl rfl, (by first | rfl | kernel_rfl), ?_⟩) | (refine ⟨_, _, _, a_load_ptr (gd_none rfl) rfl rfl rfl rfl rfl rfl rfl rfl rfl, (by first | rfl | kernel_rfl), ?_⟩) | (refine ⟨_, _, _, a_load_fld (gd_none rfl) rfl rfl rfl rfl rfl rfl rfl rfl rfl rfl rfl rfl rfl, (by first | rfl | kernel_rfl), ?_⟩) | (refine ⟨_, _, _, a_load_fullv (gd_none rfl) rfl rfl rfl rfl rfl rfl rfl rfl rfl, (by first | rfl | kernel_rfl), ?_⟩))
    (first | (refine ⟨_, _, _, a_field_bp (gd_none rfl) rfl rfl rfl rfl rfl rfl rfl rfl rfl, (by first | rfl | kernel_rfl), ?_⟩) | (refine ⟨_, _, _, a_field_ad (gd_none rfl) rfl rfl rfl rfl rfl rfl rfl rfl rfl rfl rfl, (by first | rfl | kernel_rfl), ?_⟩) | (refine ⟨_, _, _, a_fieldM (gd_none rfl) rfl rfl rfl rfl rfl rfl rfl rfl rfl, (by first | rfl | kernel_rfl), ?_⟩))
    (first | (refine ⟨_, _, _, a_load_all (gd_none rfl) rfl rfl rfl rfl rfl rfl rfl rfl rfl rfl rfl rfl, (by first | rfl | kernel_rfl), ?_⟩) | (refine ⟨_, _, _, a_load_tok (gd_none rfl) rfl rfl rfl rfl rfl rfl rfl rfl rfl rfl rfl rfl rfl, (by first | rfl | kernel_rfl), ?_⟩) | (refine ⟨_, _, _, a_load_bp (gd_none rfl) rfl rfl rfl rfl rfl rfl rfl rfl rfl rfl rfl rfl, (by first | rfl | kernel_rfl), ?_⟩) | (refine ⟨_, _, _, a_load_ad (gd_none rfl) rfl rfl rfl rfl rfl rfl rfl rfl rfl, (by first | rfl | kernel_rfl), ?_⟩) | (refine ⟨_, _, _, a_load_ptr (gd_none rfl) rfl rfl rfl rfl rfl rfl rfl rfl rfl, (by first | rfl | kernel_rfl), ?_⟩) | (refine ⟨_, _, _, a_load_fld (gd_none rfl) rfl rfl rfl rfl rfl rfl rfl rfl rfl rfl rfl rfl rfl, (by first | rfl | kernel_rfl), ?_⟩) | (refine ⟨_, _, _, a_load_fullv (gd_none rfl) rfl rfl rfl rfl rfl rfl rfl rfl rfl, (by first | rfl | kernel_rfl), ?_⟩))
    (refine ⟨_, _, _, a_move (gd_none rfl) rfl rfl rfl rfl rfl, (by first | rfl | kernel_rfl), ?_⟩)
    (refine ⟨_, _, _, a_index (j := _) (gd_none rfl) rfl rfl rfl rfl rfl rfl rfl rfl rfl (Tm.map_at ht) rfl (Tm.size_all l), (by first | rfl | kernel_rfl), ?_⟩)
    (first | (refine ⟨_, _, _, a_load_all (gd_none rfl) rfl rfl rfl rfl rfl rfl rfl rfl rfl rfl rfl rfl, (by first | rfl | kernel_rfl), ?_⟩) | (refine ⟨_, _, _, a_load_tok (gd_none rfl) rfl rfl rfl rfl rfl rfl rfl rfl rfl rfl rfl rfl rfl, (by first | rfl | kernel_rfl), ?_⟩) | (refine ⟨_, _, _, a_load_bp (gd_none rfl) rfl rfl rfl rfl rfl rfl rfl rfl rfl rfl rfl rfl, (by first | rfl | kernel_rfl), ?_⟩) | (refine ⟨_, _, _, a_load_ad (gd_none rfl) rfl rfl rfl rfl rfl rfl rfl rfl rfl, (by first | rfl | kernel_rfl), ?_⟩) | (refine ⟨_, _, _, a_load_ptr (gd_none rfl) rfl rfl rfl rfl rfl rfl rfl rfl rfl, (by first | rfl | kernel_rfl), ?_⟩) | (refine ⟨_, _, _, a_load_fld (gd_none rfl) rfl rfl rfl rfl rfl rfl rfl rfl rfl rfl rfl rfl rfl, (by first | rfl | kernel_rfl), ?_⟩) | (refine ⟨_, _, _, a_load_fullv (gd_none rfl) rfl rfl rfl rfl rfl rfl rfl rfl rfl, (by first | rfl | kernel_rfl), ?_⟩))
    (refine ⟨_, _, _, a_call (gd_none rfl) rfl rfl rfl rfl rfl ((ih t (List.mem_of_getElem? ht) (hok t (List.mem_of_getElem? ht))).up hW), (by first | rfl | kernel_rfl), ?_⟩)
    (refine ⟨_, _, _, a_bslice (gd_none rfl) rfl rfl rfl rfl rfl rfl rfl rfl rfl rfl rfl rfl rfl, (by first | rfl | kernel_rfl), ?_⟩)
    (first | (refine ⟨_, _, _, a_app (gd_none rfl) rfl rfl rfl rfl rfl rfl rfl rfl rfl rfl rfl rfl rfl rfl rfl (by first | assumption | exact szAll_spec rfl | exact Tm.size_all _ | exact Bd.size_all _ | exact ints_size _) (by first | assumption | exact szAll_spec rfl | exact Tm.size_all _ | exact Bd.size_all _ | exact ints_size _) (by first | omega | (simp only [List.length_map, List.length_append, List.length_cons, List.length_nil] <;> omega) | (simp <;> omega)), (by first | rfl | kernel_rfl), ?_⟩) | (refine ⟨_, _, _, a_app_nil (gd_none rfl) rfl rfl rfl rfl rfl rfl rfl rfl rfl rfl rfl (by first | assumption | exact szAll_spec rfl | exact Tm.size_all _ | exact Bd.size_all _ | exact ints_size _) (by first | assumption | exact szAll_spec rfl | exact Tm.size_all _ | exact Bd.size_all _ | exact ints_size _) (by first | omega | (simp only [List.length_map, List.length_append, List.length_cons, List.length_nil] <;> omega) | (simp <;> omega)), (by first | rfl | kernel_rfl), ?_⟩))
    (first | (refine ⟨_, _, _, a_field_bp (gd_none rfl) rfl rfl rfl rfl rfl rfl rfl rfl rfl, (by first | rfl | kernel_rfl), ?_⟩) | (refine ⟨_, _, _, a_field_ad (gd_none rfl) rfl rfl rfl rfl rfl rfl rfl rfl rfl rfl rfl, (by first | rfl | kernel_rfl), ?_⟩) | (refine ⟨_, _, _, a_fieldM (gd_none rfl) rfl rfl rfl rfl rfl rfl rfl rfl rfl, (by first | rfl | kernel_rfl), ?_⟩))
    (first | (refine ⟨_, _, _, a_store_all (gd_none rfl) rfl rfl rfl rfl rfl rfl rfl rfl rfl rfl, (by first | rfl | kernel_rfl), ?_⟩) | (refine ⟨_, _, _, a_store (gd_none rfl) rfl rfl rfl rfl rfl rfl rfl rfl rfl rfl, (by first | rfl | kernel_rfl), ?_⟩) | (refine ⟨_, _, _, a_store_fld (gd_none rfl) rfl rfl rfl rfl rfl rfl rfl rfl rfl rfl rfl rfl, (by first | rfl | kernel_rfl), ?_⟩))
    refine ⟨by kernel_rfl, ?_⟩
    show AWp _ _ _ _ _ _ _
    refine awp_region ?_
    (refine ⟨_, _, _, a_move (gd_none rfl) rfl rfl rfl rfl rfl, (by first | rfl | kernel_rfl), ?_⟩)
    (refine ⟨_, _, _, a_add (gd_none rfl) rfl rfl rfl rfl rfl rfl (by first | omega | (simp only [List.length_map, List.length_append, List.length_cons, List.length_nil] <;> omega) | (simp <;> omega)), (by first | rfl | kernel_rfl), ?_⟩)
    (refine ⟨_, _, _, a_assign (gd_none rfl) rfl rfl rfl rfl rfl, (by first | rfl | kernel_rfl), ?_⟩)
    refine ⟨hkl, Wk.trans (wk_sub (s' := [(1, .bp 1 0 []), (100001, .bx (Tm.cw ⟨f, l⟩)), (2, .bp 2 0 []), (100002, ⟨5, .row [.i 0, .lst []], 1, 0, [1]⟩), (3, .bp 3 0 []), (100003, ⟨5, .row [.i f, .lst ((l.take (k + 1)).map Tm.cv)], 300024, 0, [1]⟩), (300024, .tok 38 2), (4, .val (.i ((k + 1 : Nat) : Int)))]) ⟨rfl, rfl, rfl, rfl, rfl, ?_, rfl, rfl, trivial⟩) (wk_ren 300024 200024 rfl rfl rfl rfl)⟩
    rw [List.take_add_one, ht, List.map_append]
    simp only [Option.toList_some, List.map_cons, List.map_nil, Tm.cv_eq]
    rfl
  · refine awp_exit ?_
    show AWp _ _ _ _ _ _ _
    have hkl : k = l.length := by
      simp only [List.length_map, decide_eq_false_iff_not] at hc
      omega
    subst hkl
    rw [List.take_length]
    refine awp_seq (awp_region ?_)
    (first | (refine ⟨_, _, _, a_load_all (gd_none rfl) rfl rfl rfl rfl rfl rfl rfl rfl rfl rfl rfl rfl, (by first | rfl | kernel_rfl), ?_⟩) | (refine ⟨_, _, _, a_load_tok (gd_none rfl) rfl rfl rfl rfl rfl rfl rfl rfl rfl rfl rfl rfl rfl, (by first | rfl | kernel_rfl), ?_⟩) | (refine ⟨_, _, _, a_load_bp (gd_none rfl) rfl rfl rfl rfl rfl rfl rfl rfl rfl rfl rfl rfl, (by first | rfl | kernel_rfl), ?_⟩) | (refine ⟨_, _, _, a_load_ad (gd_none rfl) rfl rfl rfl rfl rfl rfl rfl rfl rfl, (by first | rfl | kernel_rfl), ?_⟩) | (refine ⟨_, _, _, a_load_ptr (gd_none rfl) rfl rfl rfl rfl rfl rfl rfl rfl rfl, (by first | rfl | kernel_rfl), ?_⟩) | (refine ⟨_, _, _, a_load_fld (gd_none rfl) rfl rfl rfl rfl rfl rfl rfl rfl rfl rfl rfl rfl rfl, (by first | rfl | kernel_rfl), ?_⟩) | (refine ⟨_, _, _, a_load_fullv (gd_none rfl) rfl rfl rfl rfl rfl rfl rfl rfl rfl, (by first | rfl | kernel_rfl), ?_⟩))
    (first | (refine ⟨_, _, _, a_store_all (gd_none rfl) rfl rfl rfl rfl rfl rfl rfl rfl rfl rfl, (by first | rfl | kernel_rfl), ?_⟩) | (refine ⟨_, _, _, a_store (gd_none rfl) rfl rfl rfl rfl rfl rfl rfl rfl rfl rfl, (by first | rfl | kernel_rfl), ?_⟩) | (refine ⟨_, _, _, a_store_fld (gd_none rfl) rfl rfl rfl rfl rfl rfl rfl rfl rfl rfl rfl rfl, (by first | rfl | kernel_rfl), ?_⟩))
    show AWp _ _ _ _ _ _ _
    exact awp_ret ⟨.inr rfl, rfl⟩
end Go.Proofs.Ytgmllfjidhbjjab


namespace Go.Proofs.Ytgmllfjidhbjjab
open Go.RowKit
set_option linter.unusedVariables false
set_option linter.unusedSimpArgs false
set_option maxRecDepth 100000
def fineBd (b : Bd) : Bool := decide (0 ≤ b.v) && (decide (b.v ≤ 1000) && decide (0 ≤ smallT b.t 20 10))
def fine7B (l : List Bd) : Bool := l.all fineBd && decide (l.length ≤ 8)
/-- What the document's Apply makes. -/
def appR (l : List Bd) : Tm → Tm
  | ⟨f, ts⟩ => if f < 0 then imgB l (-1 - f) else ⟨f, ts.map (appR l)⟩
end Go.Proofs.Ytgmllfjidhbjjab


namespace Go.Proofs.Ytgmllfjidhbjjab
set_option linter.unusedVariables false
set_option linter.unusedSimpArgs false

theorem rep_congr {f g : Int → Tm} {t : Tm} (h : ∀ v ∈ t.vs, f v = g v) : repT f t = repT g t := by
  induction t using Tm.indp with
  | h t ih =>
    by_cases hf : t.f < 0
    · rw [Tm.vs_var hf] at h
      rw [repT_var hf, repT_var hf, h _ (by simp)]
    · rw [Tm.vs_sym hf] at h
      rw [Tm.ps_of_sym (by omega)] at ih
      rw [repT_sym hf, repT_sym hf]
      congr 1
      exact List.map_congr_left fun s hs => ih s hs fun v hv => h v (List.mem_flatMap.2 ⟨s, hs, hv⟩)
theorem varT_strip (v : Int) : (varT v).strip = varT v := by
  rw [Tm.strip_eq]
  have : (varT v).ps = [] := by unfold Tm.ps varT; simp
  rw [this]; rfl
theorem rep_comp (img : Int → Tm) (g : Int → Int) {t : Tm} (h : ∀ v ∈ t.vs, 0 ≤ g v) : repT img (repT (fun v => varT (g v)) t) = repT (fun v => img (g v)) t := by
  induction t using Tm.indp with
  | h t ih =>
    by_cases hf : t.f < 0
    · rw [Tm.vs_var hf] at h
      have h := h _ (List.mem_singleton.2 rfl)
      rw [repT_var hf, repT_var hf, varT_strip, repT_var (by show -1 - g (-1 - t.f) < 0; omega)]
      show (img (-1 - (-1 - g (-1 - t.f)))).strip = _
      rw [show -1 - (-1 - g (-1 - t.f)) = g (-1 - t.f) by omega]
    · rw [Tm.vs_sym hf] at h
      rw [Tm.ps_of_sym (by omega)] at ih
      rw [repT_sym hf, repT_sym (t := ⟨t.f, _⟩) hf, repT_sym hf]
      simp only [List.map_map]
      congr 1
      exact List.map_congr_left fun s hs => ih s hs fun v hv => h v (List.mem_flatMap.2 ⟨s, hs, hv⟩)
theorem rep_id (t : Tm) : repT varT t = t.strip := by
  induction t using Tm.indp with
  | h t ih =>
    by_cases hf : t.f < 0
    · rw [repT_var hf, varT_strip, Tm.strip_eq, Tm.ps_of_var hf]
      unfold varT
      rw [show -1 - (-1 - t.f) = t.f by omega]; rfl
    · rw [Tm.ps_of_sym (by omega)] at ih
      rw [repT_sym hf, Tm.strip_eq, Tm.ps_of_sym (by omega)]
      congr 1
      exact List.map_congr_left fun s hs => ih s hs
theorem rep_strip (img : Int → Tm) (t : Tm) : repT img t.strip = repT img t := by
  induction t using Tm.indp with
  | h t ih =>
    by_cases hf : t.f < 0
    · rw [repT_var hf, repT_var (by rw [Tm.strip_f]; exact hf), Tm.strip_f]
    · rw [Tm.ps_of_sym (by omega)] at ih
      rw [repT_sym hf, repT_sym (by rw [Tm.strip_f]; exact hf), Tm.strip_f, Tm.strip_l, Tm.ps_of_sym (by omega), List.map_map]
      congr 1
      exact List.map_congr_left fun s hs => ih s hs
theorem rep_bare (img : Int → Tm) (t : Tm) : (repT img t).strip = repT img t := by
  induction t using Tm.indp with
  | h t ih =>
    by_cases hf : t.f < 0
    · rw [repT_var hf, Tm.strip_strip]
    · rw [Tm.ps_of_sym (by omega)] at ih
      rw [repT_sym hf, Tm.strip_eq, Tm.ps_of_sym (t := ⟨t.f, _⟩) (by show 0 ≤ t.f; omega)]
      simp only [List.map_map]
      congr 1
      exact List.map_congr_left fun s hs => ih s hs
/-- Where it stands first. -/
def ixOf : List Int → Int → Nat
  | [], _ => 0
  | x :: l, v => if x = v then 0 else ixOf l v + 1
def zipB (a b : List Int) : List Bd := List.zipWith (fun v u => ⟨v, varT u⟩) a b
def nums (n : Nat) : List Int := (List.range n).map fun i : Nat => (i : Int)
/-- A term's numbers of variables, each once. -/
def Tm.nv (t : Tm) : List Int := nub t.vs
def canT (t : Tm) : Tm := repT (imgB (zipB t.nv (nums t.nv.length))) t
def vntB (a b : Tm) : Bool := decide (a.nv.length = b.nv.length) && sameT (repT (imgB (zipB a.nv b.nv)) a) b
end Go.Proofs.Ytgmllfjidhbjjab


namespace Go.Proofs.Ytgmllfjidhbjjab
open Go.RowKit
set_option linter.unusedVariables false
set_option linter.unusedSimpArgs false
set_option maxRecDepth 100000

section
variable {α : Type} (lt : α → α → Bool) (a : Nat)
/-- The element at j goes down as long as it is less. -/
def sink : Nat → List α → List α
  | 0, L => L
  | j + 1, L => match L[j + 1]?, L[j]? with
    | some x, some y => if a < j + 1 ∧ lt x y = true then sink j ((L.set (j + 1) y).set j x) else L
    | _, _ => L
def isortN : Nat → Nat → List α → List α
  | 0, _, L => L
  | n + 1, i, L => isortN n (i + 1) (sink lt a i L)
end

def ltC (cmp : Bd → Bd → Int) (x y : Bd) : Bool := decide (cmp x y < 0)
end Go.Proofs.Ytgmllfjidhbjjab

