/-
  term.walk, the iterator of term.all: each term in a term is handed over, in order; a law on loops whose body may write a map that was made ahead.
-/
import Derived.Test.YtmdhefepaolhcaaTmCmp
import Derived.Test.YtmdhefepaolhcaaFrRange
import Derived.RangeFuncWrites
import Derived.Maps.AppendAt
namespace Go.Proofs.Ytmdhefepaolhcaa
open Go.RowKit Go.Shelf
set_option linter.unusedVariables false
attribute [local go_sem] Oper.semAt_some

/-- A term as it is handed over. -/
structure Tr where
  t : Tm
  a : Option Addr
  n : Nat
  c : Nat
def Tr.v (x : Tr) : Value := .agg #[.int .i64 x.t.f, .slice x.a x.n x.c]
def Tr.ok (n₀ : Nat) (x : Tr) (V : World) : Prop := Tat (· < n₀) V x.t x.a x.n x.c

/-- What a round keeps: all below n₀, and all blocks of terms. -/
def KpT (n₀ : Nat) (V V' : World) : Prop := Below n₀ V V' ∧ ∀ (g : Nat) cs fl, V.heap[g]? = some (Obj.cells cs 34 fl) → V'.heap[g]? = some (Obj.cells cs 34 fl)

theorem KpT.refl (n₀ : Nat) (V : World) : KpT n₀ V V := ⟨Below.refl _ _, fun _ _ _ h => h⟩
theorem KpT.trans {n₀ : Nat} {A B C : World} (h : KpT n₀ A B) (k : KpT n₀ B C) : KpT n₀ A C := ⟨h.1.trans k.1, fun g cs fl e => k.2 g cs fl (h.2 g cs fl e)⟩
theorem KpT.of_below {n₀ : Nat} {A B : World} (hn : n₀ ≤ A.heap.size) (h : Below A.heap.size A B) : KpT n₀ A B := ⟨h.mono hn, fun g cs fl e => by
  rw [h.block g (Array.getElem?_eq_some_iff.1 e).1]; exact e⟩

theorem cell_box {w : World} {b : Nat} {x y : Value} {t : TypeId} {fl : Nat × Nat} (h : w.heap[b]? = some (.cells #[x, y] t fl)) : w.cell? ⟨b, 0, none⟩ = some x ∧ w.cell? ⟨b, 1, none⟩ = some y := by
  constructor <;> simp [World.cell?, h]

theorem yieldAt_any {m : Nat} (m' : Nat) {P : Program} {l : Nat} {args : Array Value} {W : World} {R : Ending → World → Prop} (h : YieldAt Fence.wide m P l args W R) : YieldAt Fence.wide m' P l args W R := by
  obtain ⟨fn, tmps, assign, body, hy, hR⟩ := h
  exact ⟨fn, tmps, assign, body, hy, hR.1, fun c cs _ => hR.2 c cs (fun d h => by cases h)⟩

set_option maxRecDepth 100000 in
set_option maxHeartbeats 2000000 in
theorem walk_in (l n₀ N : Nat) (J : List Tr → World → Prop) (hJ : ∀ pre A B, J pre A → Below A.heap.size A B → J pre B)
    (hY : ∀ m pre (x : Tr) V, J pre V → x.ok n₀ V ∧ pre.length < N → YieldAt Fence.wide m Try.prog l #[x.v] V fun e V' => e = .returned (.bool true) ∧ J (pre ++ [x]) V' ∧ KpT n₀ V V') (t : Tm) :
    ∀ (d : Nat) (a : Option Addr) (n c : Nat) (pre : List Tr) (W : World), Tat (· < n₀) W t a n c → n₀ ≤ W.heap.size → J pre W → pre.length + t.size ≤ N →
      CallsIn Fence.wide d Try.prog 73 #[.agg #[.int .i64 t.f, .slice a n c], .func (.yield l) #[] #[]] W fun e W' => e = .returned (.bool true) ∧ ∃ xs : List Tr, xs.map Tr.t = t.flat ∧ J (pre ++ xs) W' ∧ KpT n₀ W W' := by
  induction t using Tm.indp with
  | h t ih =>
    intro d a n c pre W ht hn hpre hN
    have hs1 := t.size_pos
    have hdd : ∀ k : Nat, (Fence.wide.depth.isSome = true → 1 ≤ k) := fun k h => by cases h
    obtain ⟨W1, hW1⟩ : ∃ W1, W1 = W.alloc (.cells #[.int .i64 t.f, .slice a n c] 34) := ⟨_, rfl⟩
    have hb1 : Below W.heap.size W W1 := by rw [hW1]; exact bA (bW _) _
    have hbx : W1.heap[W.heap.size]? = some (.cells #[.int .i64 t.f, .slice a n c] 34 (0, 0)) := by rw [hW1]; exact World.alloc_heap_new _ _
    obtain ⟨c1, c2⟩ := cell_box hbx
    have ht1 : Tat (· < n₀) W1 t a n c := ht.bw hb1
    obtain ⟨fn, tmps, assign, body, hy, hR⟩ := hY (d - 1) pre ⟨t, a, n, c⟩ W1 (hJ _ _ _ hpre hb1) ⟨ht1, by omega⟩
    dsimp only [Tr.v] at hy
    have HW := hid hW1
    clear hW1
    refine callsIn_of_wp Try.func73 rfl trivial ?_ rfl
    simp only [Try.ntmps73, List.size_toArray, List.length_cons, List.length_nil, Nat.reduceAdd, Nat.reduceSub, Array.replicate_succ, Array.replicate_zero, List.push_toArray, List.append_toArray, List.nil_append, List.cons_append]
    rw [HW.out] at hy hR
    gi_wp2_with fail
    refine ⟨hdd _, hR.mono ?_⟩
    rw [← HW.out]
    rintro e W2 ⟨rfl, hJ2, hk2⟩
    obtain ⟨c1, c2⟩ := cell_box (hk2.2 _ _ _ hbx)
    have ht2 : Tat (· < n₀) W2 t a n c := ht1.below hk2.1 fun b h _ => h
    have hkk : KpT n₀ W W2 := (KpT.of_below hn hb1).trans hk2
    have hn2 : n₀ ≤ W2.heap.size := Nat.le_trans hn hkk.1.size
    gi_wp2_with (refine ⟨trivial, hdd _, ?_⟩; gi_at_call 60; refine (callsIn_wide.2 (parts_any ht2)).mono ?_; rintro e W3 ⟨hb3, a3, n3, c3, rfl, hl3⟩)
    have HL3 := hid hl3.len
    have hm3 : n3 ≤ 9223372036854775807 := by have := HL3.out; unfold maxLen at this; omega
    have hk3 : KpT n₀ W W3 := hkk.trans (KpT.of_below hn2 hb3)
    have hJ3 := hJ _ _ _ hJ2 hb3
    have HLs : Hid (∀ V, KpT n₀ W3 V → Las (· < n₀) V t.ps a3 n3 c3) := fun V h => hl3.below h.1 fun b hb _ => hb
    have hn3 : n₀ ≤ W3.heap.size := Nat.le_trans hn2 hb3.size
    have HN : Hid (pre.length + t.size ≤ N) := hN
    have HI := hid ih
    clear hl3 hJ2 hk2 hkk ht2 c1 c2 hb3 ih hN hY hy hR hbx ht1 hb1 ht
    gi_loopw [14] (fun i wr => ∃ (k : Nat) (xs : List Tr), i = .int .i64 (k : Int) ∧ k ≤ n3 ∧ xs.map Tr.t = t :: (t.ps.take k).flatMap Tm.flat ∧ J (pre ++ xs) wr ∧ KpT n₀ W3 wr) (fun i _ => n3 - (intOf i).toNat)
    case atStart => exact ⟨0, [⟨t, a, n, c⟩], rfl, by omega, by simp, hJ3, KpT.refl _ _⟩
    case round =>
      obtain ⟨k, xs, rfl, hk, hxs, hJr, hkr⟩ := hrel
      have HX := hid hxs
      clear hxs
      have hnr : n₀ ≤ wr.heap.size := Nat.le_trans hn3 hkr.1.size
      by_cases hlt : k < n3
      · obtain ⟨b, off, s, a', n', c', rfl, hU, hlt', hs, hT, e1, e2⟩ := (HLs.out wr hkr).at hlt
        have HS := hid hs
        clear hs
        have hb4 : Below wr.heap.size wr (wr.alloc (.cells #[.int .i64 s.f, .slice a' n' c'] 34)) := bA (bW _) _
        have HC : Hid (CallsIn Fence.wide (d - 1) Try.prog 73 #[.agg #[.int .i64 s.f, .slice a' n' c'], .func (.yield l) #[] #[]] (wr.alloc (.cells #[.int .i64 s.f, .slice a' n' c'] 34)) fun e W' => e = .returned (.bool true) ∧ ∃ ys : List Tr, ys.map Tr.t = s.flat ∧ J ((pre ++ xs) ++ ys) W' ∧ KpT n₀ (wr.alloc (.cells #[.int .i64 s.f, .slice a' n' c'] 34)) W') := by
          refine HI.out s (List.mem_of_getElem? HS.out) (d - 1) a' n' c' (pre ++ xs) _ (hT.bw hb4) (by simp; omega) (hJ _ _ _ hJr hb4) ?_
          have h1 := congrArg List.length HX.out
          simp only [List.length_map, List.length_cons] at h1
          rw [List.length_append, h1]
          have h2 := t.size_eq
          have h3 : (t.ps.flatMap Tm.flat).length = ((t.ps.take k).flatMap Tm.flat).length + (s.flat.length + ((t.ps.drop (k + 1)).flatMap Tm.flat).length) := by
            conv => lhs; rw [← List.take_append_drop k t.ps, drop_at HS.out, List.flatMap_append, List.flatMap_cons, List.length_append, List.length_append]
          have h4 := HN.out
          unfold Tm.size at *
          omega
        have HK5 : Hid (∀ V, KpT n₀ (wr.alloc (.cells #[.int .i64 s.f, .slice a' n' c'] 34)) V → KpT n₀ W3 V) := fun V h => (hkr.trans (KpT.of_below hnr hb4)).trans h
        gi_wp2_with (refine ⟨trivial, hdd _, ?_⟩; gi_at_call 73; refine HC.out.mono ?_; rintro e W4 ⟨rfl, ys, hys, hJ4, hk4⟩)
        go_roundw
        case rel =>
          refine ⟨k + 1, xs ++ ys, by go_num, by omega, ?_, by rw [← List.append_assoc]; exact hJ4, HK5.out _ hk4⟩
          rw [List.map_append, HX.out, hys, List.take_add_one, HS.out, List.flatMap_append]
          simp
        case measure => simp [intOf]; omega
      · gi_wp2
        go_ret
        refine ⟨rfl, xs, ?_, hJr, hk3.trans hkr⟩
        rw [HX.out, t.flat_eq, List.take_of_length_le (by have := HL3.out; omega)]
section
variable {α : Type} {P : Program}

/-- A round that falls off its end. -/
def collPostG (B : Nat) (Kp : World → World → Prop) (I : World → Prop) (W : World) : Exit → Act → World → Prop
  | .normal, _, W' => KeepsFrom B W W' ∧ Kp W W' ∧ I W'
  | _, _, _ => False

theorem wp_collectG {g : Operand} {ps : Array Tmp} {assign body : Code} {Q : Exit → Act → World → Prop} {a : Act} {w : World} {gf : Nat} {lb : Array Value}
    (hg : a.eval g = .func (.func gf) #[] lb) (eg : ∀ args w, (callFunc gf args).run P w = .ok (.enter gf args) w)
    {encs : α → Array Value} {Ok : List α → α → World → Prop} {Kp : World → World → Prop} {S : List α → Prop} (hseq : Gives P gf lb encs Ok Kp S w)
    (hKt : ∀ {A B C : World}, Kp A B → Kp B C → Kp A C)
    (hKb : ∀ (W : World) (l : Nat) (o o' : Obj), w.heap.size ≤ l → W.heap[l]? = some o → o.isCells = false → Kp W (W.putObj l o'))
    (hOk : ∀ (pre : List α) (x : α) (W : World) (l : Nat) (o o' : Obj), w.heap.size ≤ l → Ok pre x W → W.heap[l]? = some o → o.isCells = false → Ok pre x (W.putObj l o'))
    (hps : ∀ x, (encs x).size = ps.size) (I : List α → World → Prop) (hI : ∀ pre A B, I pre A → Below A.heap.size A B → I pre B)
    (hIp : ∀ (pre : List α) (A : World) (l : Nat) (o o' : Obj), I pre A → w.heap.size ≤ l → A.heap[l]? = some o → o.isCells = false → I pre (A.putObj l o'))
    (h0 : I [] w) (a₁ : α → Act)
    (hassign : ∀ (l : Nat) (x : α) (W : World) (K : Act → World → Prop), K (a₁ x) W →
      assign.wpIn (Fence.wide.inRound l) 1 P (Exit.then K (fun _ _ _ => False)) { tmps := (ps.zip (encs x)).foldl (fun t (p, v) => t.setIfInBounds p v) a.tmps, defers := [] } W)
    (hbody : ∀ (l : Nat) (pre : List α) (x : α) (W : World), I pre W → Ok pre x W → body.wpIn (Fence.wide.inRound l) 1 P (collPostG w.heap.size Kp (I (pre ++ [x])) W) (a₁ x) W)
    (hdone : ∀ (D : Nat) (xs : List α) (W : World), w.heap.size ≤ D → S xs → I xs W → W.heap[D]? = some (.deferred (some [])) → Q .normal { a with defers := { target := .collected D, args := #[] } :: a.defers } W) :
    (Code.rangeFunc g ps assign body).wpIn Fence.wide 3 P Q a w := by
  refine wpIn_rangeFunc fun fn hfn => ?_
  -- the two blocks that the statement lays: D for deferred calls, L the record
  have hD : ∃ D, D = w.heap.size := ⟨_, rfl⟩
  obtain ⟨D, hD⟩ := hD
  obtain ⟨W1, hW1⟩ : ∃ W1, W1 = (w.alloc (.deferred (some []))).alloc (.loop (recOf fn a.tmps ps assign body D .ready)) := ⟨_, rfl⟩
  have below1 : Below w.heap.size w W1 := by rw [hW1]; exact ((Below.refl _ w).alloc (Nat.le_refl _) _).alloc (by simp) _
  have atL : W1.heap[D + 1]? = some (.loop (recOf fn a.tmps ps assign body D .ready)) := by
    have := World.alloc_heap_new (w.alloc (.deferred (some []))) (.loop (recOf fn a.tmps ps assign body D .ready))
    rw [World.size_alloc, ← hD, ← hW1] at this
    exact this
  have atD : W1.heap[D]? = some (.deferred (some [])) := by
    have h := World.alloc_heap_new w (.deferred (some []))
    rw [← hD] at h
    rw [hW1, Below.heap_alloc _ _ _ (by simp; omega)]
    exact h
  refine ⟨D + 1, [{ target := .collected D, args := #[] }], W1, { target := .fn (.func gf) lb, args := #[.func (.yield (D + 1)) #[] #[]] }, W1, gf, #[.func (.yield (D + 1)) #[] #[]] ++ lb, W1, ?_, ?_, fun _ _ => trivial, ?_, (fun _ => by omega), ?_⟩
  · rw [hW1, hD]; exact run_enterLoop_outer _ _ _ _ _
  · simp only [resolve, hg]
    simp [go_sem]
  · simp [invoke, go_sem, eg]
  refine (hseq (D + 1) (fun pre V => I pre V ∧ V.heap[D + 1]? = some (.loop (recOf fn a.tmps ps assign body D .ready)) ∧ V.heap[D]? = some (.deferred (some []))) W1 below1 ?abides ?rounds ⟨hI _ _ _ h0 below1, atL, atD⟩).mono ?after
  case abides =>
    rintro pre A B ⟨h1, h2, h3⟩ hb
    exact ⟨hI _ _ _ h1 hb, (hb.block _ (Array.getElem?_eq_some_iff.1 h2).1).trans h2, (hb.block _ (Array.getElem?_eq_some_iff.1 h3).1).trans h3⟩
  case rounds =>
    rintro pre x V ⟨h1, h2, h3⟩ hx
    have hlt := (Array.getElem?_eq_some_iff.1 h2).1
    have hy := run_yield (P := P) (args := encs x) h2 (hps x)
    refine ⟨fn, _, assign, body, hy, roundIn_of_wpIn hfn (hassign _ x V _ ⟨_, run_beginRound h2 rfl, ?_⟩)⟩
    have hDL : w.heap.size ≤ D + 1 := by omega
    have b2 : (V.putObj (D + 1) (.loop (recOf fn a.tmps ps assign body D .busy))).heap[D + 1]? = some (.loop (recOf fn a.tmps ps assign body D .busy)) := World.putObj_heap_same hlt
    have b3 : (V.putObj (D + 1) (.loop (recOf fn a.tmps ps assign body D .busy))).heap[D]? = some (.deferred (some [])) := (World.putObj_heap_other (by omega)).trans h3
    refine wpIn_mono (hbody _ pre x (V.putObj (D + 1) (.loop (recOf fn a.tmps ps assign body D .busy))) (hIp _ _ _ _ _ h1 hDL h2 rfl) (hOk _ _ _ _ _ _ hDL hx h2 rfl)) ?_
    rintro e a3 U hp
    cases e with
    | normal =>
      obtain ⟨k1, k2, k3⟩ := hp
      have u2 := k1.same _ _ (by omega) b2 rfl
      have u3 := k1.same _ _ (by omega) b3 rfl
      have hr := run_endRound (P := P) none u2
      refine ⟨_, _, hr, rfl, ⟨hIp _ _ _ _ _ k3 hDL u2 rfl, World.putObj_heap_same (Array.getElem?_eq_some_iff.1 u2).1, (World.putObj_heap_other (by omega)).trans u3⟩, ?_⟩
      exact hKt (hKt (hKb _ _ _ _ hDL h2 rfl) k2) (hKb _ _ _ _ hDL u2 rfl)
    | ret => exact hp.elim
    | exit _ => exact hp.elim
    | goto _ => exact hp.elim
    | panic _ => exact hp.elim
    | outgrown => exact hp.elim
  case after =>
    rintro e V ⟨⟨v, rfl⟩, xs, hS, h1, h2, h3⟩
    exact ⟨none, _, run_endLoop (P := P) h2 (by simp [recOf]), hdone D xs _ (by omega) hS (hIp _ _ _ _ _ h1 (by omega) h2 rfl) ((World.putObj_heap_other (by omega)).trans h3)⟩
/-- The same where the loop's variable lies in a box of its own, a new one each round. -/
theorem wp_collectH {g : Operand} {ps : Array Tmp} {assign body : Code} {Q : Exit → Act → World → Prop} {a : Act} {w : World} {gf : Nat} {lb : Array Value}
    (hg : a.eval g = .func (.func gf) #[] lb) (eg : ∀ args w, (callFunc gf args).run P w = .ok (.enter gf args) w)
    {encs : α → Array Value} {Ok : List α → α → World → Prop} {Kp : World → World → Prop} {S : List α → Prop} (hseq : Gives P gf lb encs Ok Kp S w)
    (hKt : ∀ {A B C : World}, Kp A B → Kp B C → Kp A C)
    (hKb : ∀ (W : World) (l : Nat) (o o' : Obj), w.heap.size ≤ l → W.heap[l]? = some o → o.isCells = false → Kp W (W.putObj l o'))
    (hOk : ∀ (pre : List α) (x : α) (W : World) (l : Nat) (o o' : Obj), w.heap.size ≤ l → Ok pre x W → W.heap[l]? = some o → o.isCells = false → Ok pre x (W.putObj l o'))
    (hps : ∀ x, (encs x).size = ps.size) (I : List α → World → Prop) (hI : ∀ pre A B, I pre A → Below A.heap.size A B → I pre B)
    (hIp : ∀ (pre : List α) (A : World) (l : Nat) (o o' : Obj), I pre A → w.heap.size ≤ l → A.heap[l]? = some o → o.isCells = false → I pre (A.putObj l o'))
    (h0 : I [] w) (a₁ : α → Nat → Act) (ob : α → Obj) (hKa : ∀ (V : World) (x : α), w.heap.size ≤ V.heap.size → Kp V (V.alloc (ob x))) (hOka : ∀ (pre : List α) (x : α) (V : World), Ok pre x V → Ok pre x (V.alloc (ob x)))
    (hassign : ∀ (l : Nat) (x : α) (W : World) (K : Act → World → Prop), K (a₁ x W.heap.size) (W.alloc (ob x)) →
      assign.wpIn (Fence.wide.inRound l) 1 P (Exit.then K (fun _ _ _ => False)) { tmps := (ps.zip (encs x)).foldl (fun t (p, v) => t.setIfInBounds p v) a.tmps, defers := [] } W)
    (hbody : ∀ (l : Nat) (pre : List α) (x : α) (W : World) (b : Nat), w.heap.size ≤ b → W.heap[b]? = some (ob x) → I pre W → Ok pre x W → body.wpIn (Fence.wide.inRound l) 1 P (collPostG w.heap.size Kp (I (pre ++ [x])) W) (a₁ x b) W)
    (hdone : ∀ (D : Nat) (xs : List α) (W : World), w.heap.size ≤ D → S xs → I xs W → W.heap[D]? = some (.deferred (some [])) → Q .normal { a with defers := { target := .collected D, args := #[] } :: a.defers } W) :
    (Code.rangeFunc g ps assign body).wpIn Fence.wide 3 P Q a w := by
  refine wpIn_rangeFunc fun fn hfn => ?_
  -- the two blocks that the statement lays: D for deferred calls, L the record
  have hD : ∃ D, D = w.heap.size := ⟨_, rfl⟩
  obtain ⟨D, hD⟩ := hD
  obtain ⟨W1, hW1⟩ : ∃ W1, W1 = (w.alloc (.deferred (some []))).alloc (.loop (recOf fn a.tmps ps assign body D .ready)) := ⟨_, rfl⟩
  have below1 : Below w.heap.size w W1 := by rw [hW1]; exact ((Below.refl _ w).alloc (Nat.le_refl _) _).alloc (by simp) _
  have atL : W1.heap[D + 1]? = some (.loop (recOf fn a.tmps ps assign body D .ready)) := by
    have := World.alloc_heap_new (w.alloc (.deferred (some []))) (.loop (recOf fn a.tmps ps assign body D .ready))
    rw [World.size_alloc, ← hD, ← hW1] at this
    exact this
  have atD : W1.heap[D]? = some (.deferred (some [])) := by
    have h := World.alloc_heap_new w (.deferred (some []))
    rw [← hD] at h
    rw [hW1, Below.heap_alloc _ _ _ (by simp; omega)]
    exact h
  refine ⟨D + 1, [{ target := .collected D, args := #[] }], W1, { target := .fn (.func gf) lb, args := #[.func (.yield (D + 1)) #[] #[]] }, W1, gf, #[.func (.yield (D + 1)) #[] #[]] ++ lb, W1, ?_, ?_, fun _ _ => trivial, ?_, (fun _ => by omega), ?_⟩
  · rw [hW1, hD]; exact run_enterLoop_outer _ _ _ _ _
  · simp only [resolve, hg]
    simp [go_sem]
  · simp [invoke, go_sem, eg]
  refine (hseq (D + 1) (fun pre V => I pre V ∧ V.heap[D + 1]? = some (.loop (recOf fn a.tmps ps assign body D .ready)) ∧ V.heap[D]? = some (.deferred (some []))) W1 below1 ?abides ?rounds ⟨hI _ _ _ h0 below1, atL, atD⟩).mono ?after
  case abides =>
    rintro pre A B ⟨h1, h2, h3⟩ hb
    exact ⟨hI _ _ _ h1 hb, (hb.block _ (Array.getElem?_eq_some_iff.1 h2).1).trans h2, (hb.block _ (Array.getElem?_eq_some_iff.1 h3).1).trans h3⟩
  case rounds =>
    rintro pre x V0 ⟨g1, g2, g3⟩ gx
    have hlt0 := (Array.getElem?_eq_some_iff.1 g2).1
    have hlt1 := (Array.getElem?_eq_some_iff.1 g3).1
    have hy := run_yield (P := P) (args := encs x) g2 (hps x)
    obtain ⟨V, hV⟩ : ∃ V, V = V0.alloc (ob x) := ⟨_, rfl⟩
    have bV : Below V0.heap.size V0 V := by rw [hV]; exact (Below.refl _ V0).alloc (Nat.le_refl _) _
    have h1 : I pre V := hI _ _ _ g1 bV
    have h2 : V.heap[D + 1]? = some (.loop (recOf fn a.tmps ps assign body D .ready)) := (bV.block _ hlt0).trans g2
    have h3 : V.heap[D]? = some (.deferred (some [])) := (bV.block _ hlt1).trans g3
    have hx : Ok pre x V := by rw [hV]; exact hOka _ _ _ gx
    have hk0 : Kp V0 V := by rw [hV]; exact hKa _ _ (by omega)
    have hbx : V.heap[V0.heap.size]? = some (ob x) := by rw [hV]; exact World.alloc_heap_new _ _
    have hlt := (Array.getElem?_eq_some_iff.1 h2).1
    refine ⟨fn, _, assign, body, hy, roundIn_of_wpIn hfn (hassign _ x V0 _ ?_)⟩
    rw [← hV]
    refine ⟨_, run_beginRound h2 rfl, ?_⟩
    have hDL : w.heap.size ≤ D + 1 := by omega
    have b2 : (V.putObj (D + 1) (.loop (recOf fn a.tmps ps assign body D .busy))).heap[D + 1]? = some (.loop (recOf fn a.tmps ps assign body D .busy)) := World.putObj_heap_same hlt
    have b3 : (V.putObj (D + 1) (.loop (recOf fn a.tmps ps assign body D .busy))).heap[D]? = some (.deferred (some [])) := (World.putObj_heap_other (by omega)).trans h3
    have b4 : (V.putObj (D + 1) (.loop (recOf fn a.tmps ps assign body D .busy))).heap[V0.heap.size]? = some (ob x) := (World.putObj_heap_other (by omega)).trans hbx
    refine wpIn_mono (hbody _ pre x (V.putObj (D + 1) (.loop (recOf fn a.tmps ps assign body D .busy))) V0.heap.size (by omega) b4 (hIp _ _ _ _ _ h1 hDL h2 rfl) (hOk _ _ _ _ _ _ hDL hx h2 rfl)) ?_
    rintro e a3 U hp
    cases e with
    | normal =>
      obtain ⟨k1, k2, k3⟩ := hp
      have u2 := k1.same _ _ (by omega) b2 rfl
      have u3 := k1.same _ _ (by omega) b3 rfl
      have hr := run_endRound (P := P) none u2
      refine ⟨_, _, hr, rfl, ⟨hIp _ _ _ _ _ k3 hDL u2 rfl, World.putObj_heap_same (Array.getElem?_eq_some_iff.1 u2).1, (World.putObj_heap_other (by omega)).trans u3⟩, ?_⟩
      exact hKt hk0 (hKt (hKt (hKb _ _ _ _ hDL h2 rfl) k2) (hKb _ _ _ _ hDL u2 rfl))
    | ret => exact hp.elim
    | exit _ => exact hp.elim
    | goto _ => exact hp.elim
    | panic _ => exact hp.elim
    | outgrown => exact hp.elim
  case after =>
    rintro e V ⟨⟨v, rfl⟩, xs, hS, h1, h2, h3⟩
    exact ⟨none, _, run_endLoop (P := P) h2 (by simp [recOf]), hdone D xs _ (by omega) hS (hIp _ _ _ _ _ h1 (by omega) h2 rfl) ((World.putObj_heap_other (by omega)).trans h3)⟩
end

/-- The iterator of term.all, whatever the loop. -/
theorem all_gives {n₀ Bb : Nat} {t : Tm} {a : Option Addr} {n c : Nat} {w : World} (hn : n₀ ≤ w.heap.size) (hbx : w.heap[Bb]? = some (.cells #[.int .i64 t.f, .slice a n c] 34 (0, 0))) (ht : Tat (· < n₀) w t a n c) :
    Gives Try.prog 72 #[.pointer (some ⟨Bb, 0, none⟩)] (fun x : Tr => #[x.v]) (fun pre x V => x.ok n₀ V ∧ pre.length < t.size) (KpT n₀) (fun xs => xs.map Tr.t = t.flat) w := by
  intro l J W hW hJ hY h0
  have hdd : ∀ k : Nat, (Fence.wide.depth.isSome = true → 1 ≤ k) := fun k h => by cases h
  have hb : W.heap[Bb]? = some (.cells #[.int .i64 t.f, .slice a n c] 34 (0, 0)) := (hW.block Bb (Array.getElem?_eq_some_iff.1 hbx).1).trans hbx
  obtain ⟨c1, c2⟩ := cell_box hb
  have hwk := walk_in l n₀ t.size J hJ (fun m pre x V hj hx => yieldAt_any m (hY pre x V hj hx)) t 1 a n c [] W (ht.bw hW) (Nat.le_trans hn hW.size) h0 (by simp)
  refine callsIn_of_wp Try.func72 rfl trivial ?_ rfl
  simp only [Try.ntmps72, List.size_toArray, List.length_cons, List.length_nil, Nat.reduceAdd, Nat.reduceSub, Array.replicate_succ, Array.replicate_zero, List.push_toArray, List.append_toArray, List.nil_append, List.cons_append]
  gi_wp2_with (refine ⟨trivial, ?_⟩; gi_at_call 73; refine hwk.mono ?_; rintro e W1 ⟨rfl, xs, hxs, hJ1, hk1⟩)
  go_end0
  exact ⟨⟨_, rfl⟩, xs, hxs, by simpa using hJ1⟩

theorem all_in (f : Int) (a : Option Addr) (n c : Nat) (w : World) :
    CallsIn Fence.wide 2 Try.prog 50 #[.agg #[.int .i64 f, .slice a n c]] w fun e w' => e = .returned (.func (.func 72) #[] #[.pointer (some ⟨w.heap.size, 0, none⟩)]) ∧ w' = w.alloc (.cells #[.int .i64 f, .slice a n c] 34) := by
  refine callsIn_of_wp Try.func50 rfl trivial ?_ rfl
  simp only [Try.ntmps50, List.size_toArray, List.length_cons, List.length_nil, Nat.reduceAdd, Nat.reduceSub, Array.replicate_succ, Array.replicate_zero, List.push_toArray, List.append_toArray, List.nil_append, List.cons_append]
  gi_wp2
  go_ret
  exact ⟨rfl, rfl⟩
end Go.Proofs.Ytmdhefepaolhcaa
