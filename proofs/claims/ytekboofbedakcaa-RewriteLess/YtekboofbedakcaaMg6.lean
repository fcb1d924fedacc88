/-
  AbZ2 RwUse1 RwFirst RwPut RwTerm ClMath KbRef KbRef2 RwOf AbKind CodeMath CodeLen CodePut CodePutMore RefSame CodeRef CodeAlive CodeReadMath CodeRead CodeUint CodeText CodeBackMath ClBy ClCode ClPut ClGet ClGet2 ClLen TmAlive TmAb6 ClTaut ClA
-/
import Derived.Test.YtekboofbedakcaaMg5
import Derived.Test.YtekboofbedakcaaMg3
import Derived.Test.YtekboofbedakcaaMg2
import Derived.Deep.WholeRow
import Derived.Laws.CopyRow
import Derived.Test.YtekboofbedakcaaMg4
import Derived.WalkKit
import Derived.Test.YtekboofbedakcaaChecked
import Derived.WalkLawsBesides
import Derived.WalkSpells
import Derived.Test.YtekboofbedakcaaMg1
import Derived.Laws.BitsAllLaws
import Derived.Deep.QuietTactic
import Derived.BigQuiet
import Derived.Laws.BytesArg
namespace Go.Proofs.Ytekboofbedakcaa
open Go.RowKit Go.MapKept
set_option linter.unusedVariables false
set_option linter.unusedSimpArgs false
structure GRel (N : Nat) (G : World → Prop) : Prop where
  up : ∀ B C, G B → Below B.heap.size B C → G C
  book : ∀ B l o o', N ≤ l → B.heap[l]? = some o → o.isCells = false → o'.isCells = false → G B → G (B.putObj l o')
def FR (X : Nat → Prop) (G : World → Prop) (A B : World) : Prop := (B.os = A.os ∧ B.tape = A.tape ∧ B.output = A.output) ∧ A.heap.size ≤ B.heap.size ∧ (∀ b, ¬ X b → b < A.heap.size → B.heap[b]? = A.heap[b]?) ∧ G B
theorem frel_of {N : Nat} {X : Nat → Prop} {G : World → Prop} (h : GRel N G) : FRel X (FR X G) := by
  refine ⟨fun A B C ⟨⟨k1, k2, k3⟩, h1, h2, h3⟩ hb => ⟨⟨hb.os.trans k1, hb.tape.trans k2, hb.output.trans k3⟩, Nat.le_trans h1 hb.size, fun b hx hl => (hb.block b (by omega)).trans (h2 b hx hl), h.up _ _ h3 hb⟩, fun A B C hb ⟨⟨k1, k2, k3⟩, h1, h2, h3⟩ => ⟨⟨k1.trans hb.os, k2.trans hb.tape, k3.trans hb.output⟩, Nat.le_trans hb.size h1, fun b hx hl => (h2 b hx (Nat.lt_of_lt_of_le hl hb.size)).trans (hb.block b hl), h3⟩, fun A B ⟨_, h1, h2, _⟩ => ⟨h1, h2⟩⟩

section
variable {P : Program}
theorem wp_rangeZ {g : Operand} {ps : Array Tmp} {assign body : Code} {Q : Exit → Act → World → Prop} {a : Act} {w : World} {gf : Nat} {lb : Array Value}
    (hg : a.eval g = .func (.func gf) #[] lb) (eg : ∀ args w, (callFunc gf args).run P w = .ok (.enter gf args) w)
    (b : Bool) {N : Nat} {X : Nat → Prop} {G : World → Prop} (hG : GRel N G) (hN : N ≤ w.heap.size) (hX : ∀ b, X b → b < w.heap.size) (Yt Yf : List Value → World → Prop)
    (hps : ∀ vs A, Yt vs A ∨ Yf vs A → vs.length = ps.size)
    (hIt : ∀ (l : Nat) (W : World) (N2 : Nat) (X2 : Nat → Prop) (G2 : World → Prop), GRel N2 G2 → N2 ≤ W.heap.size → (∀ b, X2 b → b < W.heap.size) → Below w.heap.size w W →
      (∀ vs A, Yt vs A → Below W.heap.size W A → YieldAt Fence.wide 1 P l vs.toArray A fun e B => e = .returned (.bool true) ∧ Below A.heap.size A B) →
      (∀ vs A, Yf vs A → Below W.heap.size W A → YieldAt Fence.wide 1 P l vs.toArray A fun e B => e = .returned (.bool false) ∧ FR X2 G2 A B) →
      Calls P gf (#[.func (.yield l) #[] #[]] ++ lb) W fun e V => (∃ v, e = .returned v) ∧ (b = true → Below W.heap.size W V) ∧ (b = false → FR X2 G2 W V))
    (hbt : ∀ (vs : List Value) (A : World) (r : Loop), Yt vs A → Below w.heap.size w A → A.heap[w.heap.size + 1]? = some (.loop r) → w.heap.size + 2 ≤ A.heap.size →
      assign.wpIn (Fence.wide.inRound (w.heap.size + 1)) 1 P (Exit.then (fun a1 A1 => Below A.heap.size A A1 ∧ body.wpIn (Fence.wide.inRound (w.heap.size + 1)) 1 P (fun e _ B => e = .normal ∧ Below A1.heap.size (A1.putObj (w.heap.size + 1) (.loop { r with state := .busy })) B) a1 (A1.putObj (w.heap.size + 1) (.loop { r with state := .busy }))) (fun _ _ _ => False))
        { tmps := (ps.zip vs.toArray).foldl (fun t (p, v) => t.setIfInBounds p v) a.tmps, defers := [] } A)
    (hbf : ∀ (vs : List Value) (A : World) (r : Loop), Yf vs A → Below w.heap.size w A → A.heap[w.heap.size + 1]? = some (.loop r) → w.heap.size + 2 ≤ A.heap.size →
      assign.wpIn (Fence.wide.inRound (w.heap.size + 1)) 1 P (Exit.then (fun a1 A1 => Below A.heap.size A A1 ∧ body.wpIn (Fence.wide.inRound (w.heap.size + 1)) 1 P (fun e _ B => e = .ret ∧ FR X G (A1.putObj (w.heap.size + 1) (.loop { r with state := .busy })) B) a1 (A1.putObj (w.heap.size + 1) (.loop { r with state := .busy }))) (fun _ _ _ => False))
        { tmps := (ps.zip vs.toArray).foldl (fun t (p, v) => t.setIfInBounds p v) a.tmps, defers := [] } A)
    (hdone : b = true → ∀ W : World, Below w.heap.size w W → W.heap[w.heap.size]? = some (.deferred (some [])) → Q .normal { a with defers := { target := .collected w.heap.size, args := #[] } :: a.defers } W)
    (hstop : b = false → ∀ W : World, FR X G w W → W.heap[w.heap.size]? = some (.deferred (some [])) → Q .ret { a with defers := { target := .collected w.heap.size, args := #[] } :: a.defers } W) :
    (Code.rangeFunc g ps assign body).wpIn Fence.wide 3 P Q a w := by
  refine wpIn_rangeFunc fun fn hfn => ?_
  obtain ⟨D, hD⟩ : ∃ D, D = w.heap.size := ⟨_, rfl⟩
  obtain ⟨rec, hrec⟩ : ∃ rec : LoopState → Option Code → Loop, rec = fun st pe => { state := st, pending := pe, fn, tmps := a.tmps, params := ps, assign, body, defers := w.heap.size } := ⟨_, rfl⟩
  obtain ⟨W1, hW1⟩ : ∃ W1, W1 = (w.alloc (.deferred (some []))).alloc (.loop (rec .ready none)) := ⟨_, rfl⟩
  have below1 : Below w.heap.size w W1 := by rw [hW1]; exact ((Below.refl _ w).alloc (Nat.le_refl _) _).alloc (by simp) _
  have hsz1 : W1.heap.size = w.heap.size + 2 := by rw [hW1]; simp
  have atL : W1.heap[w.heap.size + 1]? = some (.loop (rec .ready none)) := by
    have := World.alloc_heap_new (w.alloc (.deferred (some []))) (.loop (rec .ready none))
    rw [World.size_alloc, ← hW1] at this
    exact this
  have atD : W1.heap[w.heap.size]? = some (.deferred (some [])) := by
    rw [hW1, Below.heap_alloc _ _ _ (by simp)]
    exact World.alloc_heap_new w (.deferred (some []))
  -- behind a round that leaves
  let G2 : World → Prop := fun B => G B ∧ B.heap[w.heap.size + 1]? = some (.loop (rec .done (some .ret))) ∧ B.heap[w.heap.size]? = some (.deferred (some []))
  let X2 : Nat → Prop := fun b => X b ∨ b = w.heap.size + 1
  have hnX : ∀ b, w.heap.size ≤ b → ¬ X b := fun b hb hx => by have := hX b hx; omega
  have hG2 : GRel (w.heap.size + 2) G2 := by
    refine ⟨fun B C ⟨h1, h2, h3⟩ hb => ⟨hG.up _ _ h1 hb, (hb.block _ (Array.getElem?_eq_some_iff.1 h2).1).trans h2, (hb.block _ (Array.getElem?_eq_some_iff.1 h3).1).trans h3⟩, fun B l o o' hl ho hc hc' ⟨h1, h2, h3⟩ => ⟨hG.book B l o o' (by omega) ho hc hc' h1, (World.putObj_heap_other (by omega)).trans h2, (World.putObj_heap_other (by omega)).trans h3⟩⟩
  refine ⟨w.heap.size + 1, [{ target := .collected w.heap.size, args := #[] }], W1, { target := .fn (.func gf) lb, args := #[.func (.yield (w.heap.size + 1)) #[] #[]] }, W1, gf, #[.func (.yield (w.heap.size + 1)) #[] #[]] ++ lb, W1, ?_, ?_, fun _ _ => trivial, ?_, (fun _ => by omega), ?_⟩
  · rw [hW1, hrec]; exact run_enterLoop_outer _ _ _ _ _
  · simp only [resolve, hg]
    simp [go_sem]
  · simp [invoke, go_sem, eg]
  have hrun : ∀ (vs : List Value) (A : World), Yt vs A ∨ Yf vs A → Below W1.heap.size W1 A → (Instr.yield (w.heap.size + 1) vs.toArray).run P A = .ok (.round (w.heap.size + 1) fn ((ps.zip vs.toArray).foldl (fun t (p, v) => t.setIfInBounds p v) a.tmps) assign body) A := fun vs A hY hA => by
    have h2 : A.heap[w.heap.size + 1]? = some (.loop (rec .ready none)) := (hA.block _ (by omega)).trans atL
    have := run_yield (P := P) (args := vs.toArray) h2 (by rw [hrec]; simpa using hps vs A hY)
    rw [hrec] at this
    exact this
  refine callsIn_R (ro := none) (n := 2) ((hIt (w.heap.size + 1) W1 (w.heap.size + 2) X2 G2 hG2 (by omega) (fun b hb => hb.elim (fun h => by have := hX b h; omega) fun h => by omega) below1 (fun vs A hY hA => ?_) (fun vs A hY hA => ?_)).mono ?_)
  · have h2 : A.heap[w.heap.size + 1]? = some (.loop (rec .ready none)) := (hA.block _ (by omega)).trans atL
    have hAs := hA.size
    refine ⟨fn, _, assign, body, hrun vs A (.inl hY) hA, roundIn_of_wpIn hfn (wpIn_mono (hbt vs A _ hY (below1.trans (hA.mono (by omega))) h2 (by omega)) ?_)⟩
    intro e a1 A1 h
    cases e with
    | normal =>
      obtain ⟨h3, h4⟩ := h
      have h5 : A1.heap[w.heap.size + 1]? = some (.loop (rec .ready none)) := (h3.block _ (by omega)).trans h2
      have hb1 := run_beginRound (P := P) h5 (by rw [hrec])
      refine ⟨_, hb1, wpIn_mono h4 ?_⟩
      rintro e a3 B ⟨rfl, hB⟩
      have h6 : B.heap[w.heap.size + 1]? = some (.loop { rec .ready none with state := .busy }) := (hB.block _ (by have := h3.size; omega)).trans (World.putObj_heap_same (by have := h3.size; omega))
      have hr := run_endRound (P := P) none h6
      refine ⟨_, _, hr, rfl, ?_⟩
      have hA1 := h3.size
      have hBs := hB.size
      rw [World.putObj_size] at hBs
      refine ⟨?_, ?_, ?_, ?_, fun k hk => ?_⟩
      · exact (hB.os.trans h3.os : _)
      · exact (hB.tape.trans h3.tape : _)
      · exact (hB.output.trans h3.output : _)
      · rw [World.putObj_size]; omega
      · by_cases hkl : k = w.heap.size + 1
        · subst hkl
          rw [World.putObj_heap_same (by omega), h2, hrec]
          simp
        · rw [World.putObj_heap_other (fun e => hkl e), hB.block k (by omega), World.putObj_heap_other (fun e => hkl e)]
          exact h3.block k hk
    | _ => exact h.elim
  · have h2 : A.heap[w.heap.size + 1]? = some (.loop (rec .ready none)) := (hA.block _ (by omega)).trans atL
    have h2D : A.heap[w.heap.size]? = some (.deferred (some [])) := (hA.block _ (by omega)).trans atD
    have hAs := hA.size
    refine ⟨fn, _, assign, body, hrun vs A (.inr hY) hA, roundIn_of_wpIn hfn (wpIn_mono (hbf vs A _ hY (below1.trans (hA.mono (by omega))) h2 (by omega)) ?_)⟩
    intro e a1 A1 h
    cases e with
    | normal =>
      obtain ⟨h3, h4⟩ := h
      have hA1 := h3.size
      have h5 : A1.heap[w.heap.size + 1]? = some (.loop (rec .ready none)) := (h3.block _ (by omega)).trans h2
      have hb1 := run_beginRound (P := P) h5 (by rw [hrec])
      refine ⟨_, hb1, wpIn_mono h4 ?_⟩
      rintro e a3 B ⟨rfl, ⟨k1, k2, k3⟩, hBs, hB, hGB⟩
      rw [World.putObj_size] at hBs hB
      have h6 : B.heap[w.heap.size + 1]? = some (.loop { rec .ready none with state := .busy }) := (hB _ (hnX _ (by omega)) (by omega)).trans (World.putObj_heap_same (by omega))
      have h7 : B.heap[w.heap.size]? = some (.deferred (some [])) := (hB _ (hnX _ (by omega)) (by omega)).trans ((World.putObj_heap_other (by omega)).trans ((h3.block _ (by omega)).trans h2D))
      have hr := run_endRound (P := P) (some .ret) h6
      refine ⟨_, _, hr, rfl, ⟨k1.trans h3.os, k2.trans h3.tape, k3.trans h3.output⟩, ?_, fun k hx hk => ?_, ?_, ?_, ?_⟩
      · rw [World.putObj_size]; omega
      · have hkl : ¬ k = w.heap.size + 1 := fun e => hx (.inr e)
        rw [World.putObj_heap_other (fun e => hkl e), hB k (fun h => hx (.inl h)) (by omega), World.putObj_heap_other (fun e => hkl e)]
        exact h3.block k hk
      · exact hG.book _ _ _ _ (by omega) h6 rfl rfl hGB
      · rw [World.putObj_heap_same (by omega), hrec]; simp
      · rw [World.putObj_heap_other (by omega)]; exact h7
    | _ => exact h.elim
  · rintro e V ⟨⟨v, rfl⟩, ht, hf⟩
    cases hb : b with
    | true =>
      have hV := ht hb
      have h2 : V.heap[w.heap.size + 1]? = some (.loop (rec .ready none)) := (hV.block _ (by omega)).trans atL
      have h2D : V.heap[w.heap.size]? = some (.deferred (some [])) := (hV.block _ (by omega)).trans atD
      have hVs := hV.size
      refine ⟨none, _, by have := run_endLoop (P := P) h2 (by rw [hrec]; simp); rw [hrec] at this; exact this, hdone hb _ ?_ ((World.putObj_heap_other (by omega)).trans h2D)⟩
      have h3 : Below w.heap.size w V := below1.trans (hV.mono (by omega))
      exact ⟨h3.os, h3.tape, h3.output, by rw [World.putObj_size]; omega, fun k hk => (World.putObj_heap_other (by omega)).trans (h3.block k hk)⟩
    | false =>
      obtain ⟨⟨k1, k2, k3⟩, hVs, hV, hGV, hL, hDD⟩ := hf hb
      refine ⟨some .ret, _, by have := run_endLoop (P := P) hL (by rw [hrec]; simp); rw [hrec] at this; exact this, ?_⟩
      refine wpIn_ret (hstop hb _ ⟨⟨k1.trans below1.os, k2.trans below1.tape, k3.trans below1.output⟩, by rw [World.putObj_size]; omega, fun k hx hk => ?_, hG.book _ _ _ _ (by omega) hL rfl rfl hGV⟩ ((World.putObj_heap_other (by omega)).trans hDD))
      rw [World.putObj_heap_other (by omega), hV k (fun h => h.elim hx fun h => by omega) (by omega)]
      exact below1.block k hk

variable {nt : Nat}
theorem sim_args {fn : Func} (hn : fn.ntmps = nt) {args : List CV} {vs : List Value} {U : Nat → Nat → Prop} {w : World} (hargs : VReps U w args vs) (hl : Nat.ble args.length nt = true) (hnt : Nat.blt nt 100000 = true) {V : UX} (hV : V = ⟨U, fun _ => False, fun _ => none, fun _ _ h => by cases h⟩) : Sim w V nt (argS args 0) { tmps := vs.toArray ++ Array.replicate (fn.ntmps - vs.toArray.size) undef, defers := [] } w := by
  have hlen := hargs.len
  have hle := Nat.le_of_ble_eq_true hl
  have hnt := bL hnt
  have hno : ∀ {k av}, 100000 ≤ k → look (argS args 0) k = some av → False := fun {k av} h1 h2 => by rw [argS_none (by omega)] at h2; cases h2
  refine ⟨fun _ _ => False, fun _ => .slice none 0 0, BelowX.refl _ _, rfl, by simp [hn]; omega, fun d av h1 h2 => ?_, fun n o av h1 => (hno (by unfold fKey; omega) h1).elim, fun n o o' av av' h1 => (hno (by unfold fKey; omega) h1).elim, fun k av h1 h2 => (hno h2.1 h1).elim, fun k av g h1 h2 => (hno h2.1 h1).elim, fun k k' av av' g h1 h2 h3 => (hno h3.1 h1).elim, fun n g h1 => (by rw [hV] at h1; cases h1), fun b o hd => hd.elim⟩
  obtain ⟨_, c', h3, rfl⟩ := look_argS h1
  rw [Nat.sub_zero] at h3
  obtain ⟨v, h4, h5⟩ := hargs.at h3
  have hdl : d < vs.length := by
    rcases Nat.lt_or_ge d vs.length with h | h
    · exact h
    · rw [List.getElem?_eq_none h] at h4; cases h4
  refine ⟨v, ?_, avrep_val (h5.keep fun b o v hu hc => ⟨.inl ⟨World.block_lt_of_cell? w _ hc, by rw [hV]; exact ⟨hu, fun h => h⟩⟩, hc⟩)⟩
  rw [Array.getElem?_append_left (by simpa using hdl)]
  simpa using h4
theorem sim_vals (vs : List (Nat × CV)) {tm : Array Value} {w : World} (hsz : tm.size = nt) (hv : ∀ q ∈ vs, ∃ v, tm[q.1]? = some v ∧ VRep (fun _ _ => True) w q.2 v) (hk : (vs.all fun q => Nat.blt q.1 100000) = true) : Sim w topX nt (vs.map fun q => (q.1, .val q.2)) ⟨tm, []⟩ w := by
  rw [List.all_eq_true] at hk
  have hlow : ∀ {k av}, look (vs.map fun q => (q.1, AV.val q.2)) k = some av → ∃ q ∈ vs, k = q.1 ∧ av = .val q.2 := fun {k av} h1 => by
    obtain ⟨q, hq, he⟩ := List.mem_map.1 (look_mem h1)
    injection he with e1 e2
    exact ⟨q, hq, e1.symm, e2.symm⟩
  have hlt : ∀ {k av}, look (vs.map fun q => (q.1, AV.val q.2)) k = some av → k < 100000 := fun {k av} h1 => by
    obtain ⟨q, hq, rfl, _⟩ := hlow h1
    exact bL (hk q hq)
  refine ⟨fun _ _ => False, fun _ => .slice none 0 0, BelowX.refl _ _, rfl, hsz, fun d av h1 h2 => ?_, fun n o av h1 h2 h3 h4 => ?_, fun n o o' av av' h1 h2 => ?_, fun k av h1 h2 => ?_, fun k av g h1 h2 => ?_, fun k k' av av' g h1 h2 h3 h4 => ?_, fun k v h1 => (by cases h1), fun b o hd => hd.elim⟩
  · obtain ⟨q, hq, rfl, rfl⟩ := hlow h1
    obtain ⟨v, g1, g2⟩ := hv q hq
    exact ⟨v, g1, avrep_val (g2.keep fun b o v _ hc => ⟨.inl ⟨World.block_lt_of_cell? w _ hc, trivial, fun h => h⟩, hc⟩)⟩
  · have := hlt h1; unfold fKey at this; omega
  · have := hlt h1; unfold fKey at this; omega
  · have := hlt h1; have := h2.1; omega
  · have := hlt h1; have := h2.1; omega
  · have := hlt h1; have := h3.1; omega
theorem hw_top (w : World) : Hw w w topX := ⟨fun _ => rfl, fun _ h => h⟩

def RQ (P : Program) (fn : Func) (R : Ending → World → Prop) (e : Exit) (a' : Act) (w' : World) : Prop :=
  (e = .normal ∨ e = .ret) ∧ ∃ g, a'.defers = [⟨.collected g, #[]⟩] ∧ w'.heap[g]? = some (.deferred (some [])) ∧ ∃ v, (results fn a'.tmps).run P (w'.putObj g (.deferred none)) = .ok v (w'.putObj g (.deferred none)) ∧ R (.returned v) (w'.putObj g (.deferred none))
theorem callsR_of {f : FuncId} {fn : Func} {c : Code} {vs : Array Value} {w : World} {R : Ending → World → Prop} (hf : P.funcs[f]? = some fn) (hb : fn.body = some c) (h : c.wpIn Fence.wide 1 P (RQ P fn R) { tmps := vs ++ Array.replicate (fn.ntmps - vs.size) undef, defers := [] } w) : Calls P f vs w R := by
  refine callsIn_wide.1 (callsIn_of_wp_marks (F := Fence.wide) (n := 1) hf hb trivial (wpIn_mono h ?_) rfl)
  rintro e a' w' ⟨he, g, h1, h2, v, h3, h4⟩
  have hleave : LeavesInM Fence.wide 1 P fn a'.tmps R a'.defers .returning w' := by
    rw [h1]
    exact ⟨(fun e => by cases e), .inl ⟨g, _, rfl, run_takeDeferred h2, v, h3, h4⟩⟩
  rcases he with rfl | rfl
  · exact hleave
  · exact hleave
def AWpR (P : Program) (w0 : World) (U0 : UX) (nt : Nat) (c : Code) (Q : Exit → Act → World → Prop) (s : AS) : Prop := ∀ a w, Sim w0 U0 nt s a w → c.wpIn Fence.wide 1 P Q a w
variable {w0 : World} {U0 : UX} {s : AS}
theorem awpR_pre {x y : Code} {Q : Exit → Act → World → Prop} (h : AWp P w0 U0 nt x (fun e s' => e = .normal ∧ AWpR P w0 U0 nt y Q s') s) : AWpR P w0 U0 nt (.seq x y) Q s := fun a w hs => by
  have := h ⟨none, []⟩ a w hs
  unfold WP at this
  rw [wd_none hs.df] at this
  refine wpIn_seq (wpIn_mono this ?_)
  rintro e a' w' ⟨a'', rfl, s', ⟨rfl, h2⟩, h3⟩
  show Code.wpIn _ _ _ _ _ _ _
  rw [wd_none h3.df]
  exact h2 a'' w' h3
theorem AWpR.wk {c : Code} {Q : Exit → Act → World → Prop} {s' : AS} (h : Wk w0 U0 nt s s') (h2 : AWpR P w0 U0 nt c Q s') : AWpR P w0 U0 nt c Q s := fun a w hs => h2 a w (h a w hs)
end
end Go.Proofs.Ytekboofbedakcaa
namespace Go.Proofs.Ytekboofbedakcaa
open Go.RowKit
set_option linter.unusedVariables false
set_option linter.unusedSimpArgs false
set_option maxRecDepth 100000
theorem XAt.adr {U : Nat → Nat → Prop} {w : World} : ∀ {p : List Nat} {b off : Nat} {x : XT} {b' o' : Nat} {y : XT}, XAt U w b off x → x.adr b off p = some (b', o', y) → XAt U w b' o' y
  | [], b, off, x, b', o', y, h, e => by
    rw [XT.adr] at e
    cases e
    exact h
  | i :: p, b, off, x, b', o', y, h, e => by
    rw [XT.adr] at e
    split at e
    · rename_i z ad hz ha
      obtain ⟨g, o1, h1, h2⟩ := h.child hz
      rw [ha] at h1
      cases h1
      exact XAt.adr h2 e
    · cases e
structure RuOk (r : RuT) : Prop where
  ar : r.a.rng
  ao : r.a.ok
  av : r.a.vs.length ≤ 65
  sz : r.a.size ≤ 90000000000
  br : r.b.rng
  bo : r.b.ok
  bs : r.b.size ≤ 90000000000
  bv : ∀ v ∈ r.b.vs, v ∈ r.a.vs
  k : kb r.a r.b = 1
noncomputable def hitR (R : List RuT) (t : Tm) : Bool := R.any fun r => (mt r.a t []).1
noncomputable def usR (r : RuT) (t : Tm) : Tm := repT (imgB (mt r.a t []).2) r.b
noncomputable abbrev useC (id : Int) (b o n : Nat) (s : Tm) : CV := .row [.i id, ptrV b o, .row [.i s.f, .own n (s.l.map Tm.cv)]]

-- 
set_option maxHeartbeats 4000000 in
theorem use1 (R : List RuT) (hR : ∀ r ∈ R, RuOk r) (hRl : R.length ≤ 1000000) (l1 : Nat) (x : XT) (b off n : Nat) (N : Nat) (X : Nat → Prop) (G : World → Prop) (hG : GRel N G) (bb : Bool) (U : Nat → Nat → Prop) (w : World) (hx : XAt U w b off x) (hsz : ∀ p b' o' y, x.adr b off p = some (b', o', y) → 0 ≤ y.f → y.tm.rng ∧ y.tm.size ≤ 90000000000)
    (hbb : bb = (fst1 (hitR R) x.tm).isNone) (hN : N ≤ w.heap.size) (hX : ∀ b, X b → b < w.heap.size) (hn : n ≤ w.heap.size)
    (hY : ∀ p b' o' y r, fst1 (hitR R) x.tm = some p → x.adr b off p = some (b', o', y) → R.find? (fun r => (mt r.a y.tm []).1) = some r → YF Try.prog w l1 [useC r.id b' o' n (usR r y.tm)] (FR X G))
    (hpl : ∀ p, fst1 (hitR R) x.tm = some p → ∃ b' o' y, x.adr b off p = some (b', o', y) ∧ 0 ≤ y.f ∧ hitR R y.tm = true)
    (vs : List Value) (hargs : VReps U w [yldV l1, .ptr (ptrV b off), .ptr (.lst (R.map RuT.cv))] vs) :
    Calls Try.prog 49 vs.toArray w fun e V => (∃ v, e = .returned v) ∧ (bb = true → Below w.heap.size w V) ∧ (bb = false → FR X G w V) := by
  refine callsR_of Try.func49 rfl ?_
  have hs := sim_args (nt := 38) (fn := Try.f49) rfl hargs rfl rfl rfl
  suffices h : AWpR Try.prog w ⟨U, fun _ => False, fun _ => none, fun _ _ h => by cases h⟩ 38 _ _ (argS [yldV l1, .ptr (ptrV b off), .ptr (.lst (R.map RuT.cv))] 0) from h _ _ hs
  clear hs
  have hRz := RuT.size_all R
  refine awpR_pre (aR ?_)
  (refine nx (a_box (gN rfl) rfl rfl rfl rfl rfl) rfl ?_)
  refine ⟨rfl, ?_⟩
  refine AWpR.wk (wk_freeze 3 rfl rfl rfl (s' := [(1, AV.val (.ptr (ptrV b off))), (2, .val (.ptr (.lst (R.map RuT.cv))))]) ⟨rfl, rfl, trivial⟩ rfl rfl rfl) ?_
  refine awpR_pre (aR ?_)
  (refine nx (a_load_ptr (gN rfl) rfl rfl rfl rfl rfl rfl rfl rfl rfl) rfl ?_)
  (refine nx (a_call (gN rfl) rfl rfl rfl rfl rfl (wSymbols_abs w b off)) rfl ?_)
  refine ⟨rfl, ?_⟩
  rintro a w1 ⟨D, hv, h⟩
  have hw1 : Below w.heap.size w w1 := h.below.below fun k hk => hk
  obtain ⟨ys, lb, e1, e2, e3, e4⟩ := vrep_fn.1 (ev_val h (x := .tmp 10) (fun k _ => rfl) rfl)
  have hys : ys = [] := List.eq_nil_of_length_eq_zero e2
  subst hys
  have hcaps := sq_vreps e4 (by simpa using e3)
  obtain ⟨v2, t2, r2⟩ := h.slot 2 (.val (.ptr (.lst (R.map RuT.cv)))) rfl (by omega)
  obtain ⟨v3, t3, r3⟩ := h.slot 3 (.val (.ptr (yldV l1))) rfl (by omega)
  have r2 := r2.1
  have r3 := r3.1
  have hx1 : XAt (fun _ _ => True) w1 b off x := hx.keep fun b o v hu hc => ⟨trivial, by rw [cellH (hw1.block b (World.block_lt_of_cell? w _ hc))]; exact hc⟩
  -- what is known in a round
  have hfacts : ∀ (A : World) (r : Loop) (b' o' : Nat), Below w1.heap.size w1 A → ∀ q ∈ [(2, CV.ptr (.lst (R.map RuT.cv))), (3, CV.ptr (yldV l1)), (4, ptrV b' o')], ∃ v, (asgT [(4, 11)] (parT [11] [.pointer (some ⟨b', o', none⟩)] a.tmps))[q.1]? = some v ∧ VRep (fun _ _ => True) (A.putObj (w1.heap.size + 1) (.loop { r with state := .busy })) q.2 v := by
    intro A r b' o' hA q hq
    have hk : ∀ bb o v, (fun _ _ => True : Nat → Nat → Prop) bb o → w1.cell? ⟨bb, o, none⟩ = some v → (fun _ _ => True : Nat → Nat → Prop) bb o ∧ (A.putObj (w1.heap.size + 1) (.loop { r with state := .busy })).cell? ⟨bb, o, none⟩ = some v := fun bb o v _ hc => by
      have hlt : bb < w1.heap.size := World.block_lt_of_cell? w1 _ hc
      exact ⟨trivial, by rw [cellH ((World.putObj_heap_other (by omega)).trans (hA.block bb hlt))]; exact hc⟩
    simp only [List.mem_cons, List.not_mem_nil, or_false] at hq
    have hsz := h.size
    rcases hq with rfl | rfl | rfl
    · exact ⟨v2, by simpa [asgT, parT, Array.getElem?_setIfInBounds] using t2, (r2.mono fun _ _ _ => trivial).keep hk⟩
    · exact ⟨v3, by simpa [asgT, parT, Array.getElem?_setIfInBounds] using t3, (r3.mono fun _ _ _ => trivial).keep hk⟩
    · exact ⟨.pointer (some ⟨b', o', none⟩), by simp [asgT, parT, Array.getElem?_setIfInBounds, hsz], vrep_sc.2 ⟨rfl, rfl⟩⟩
  have hXA : ∀ (A : World) (r : Loop), Below w1.heap.size w1 A → XAt (fun _ _ => True) (A.putObj (w1.heap.size + 1) (.loop { r with state := .busy })) b off x := fun A r hA => hx1.keep fun bb o v _ hc => by
    have hlt : bb < w1.heap.size := World.block_lt_of_cell? w1 _ hc
    exact ⟨trivial, by rw [cellH ((World.putObj_heap_other (by omega)).trans (hA.block bb hlt))]; exact hc⟩
  have hsz2 : ∀ (b' o' : Nat), (asgT [(4, 11)] (parT [11] [.pointer (some ⟨b', o', none⟩)] a.tmps)).size = 38 := fun b' o' => by simp [asgT, parT, h.size]
  refine wpIn_block (wpIn_n (wp_rangeZ (gf := 65) (lb := lb.toArray) e1 (ent_of Try.func65 rfl rfl) bb hG (Nat.le_trans hN hw1.size) (fun k hk => Nat.lt_of_lt_of_le (hX k hk) hw1.size)
    (fun vs _ => ∃ p b' o' y, x.adr b off p = some (b', o', y) ∧ 0 ≤ y.f ∧ hitR R y.tm = false ∧ vs = [.pointer (some ⟨b', o', none⟩)])
    (fun vs _ => ∃ p b' o' y, fst1 (hitR R) x.tm = some p ∧ x.adr b off p = some (b', o', y) ∧ 0 ≤ y.f ∧ hitR R y.tm = true ∧ vs = [.pointer (some ⟨b', o', none⟩)])
    ?ps ?it ?rt ?rf ?done ?stop))
  case ps =>
    rintro vs A (⟨_, _, _, _, _, _, _, rfl⟩ | ⟨_, _, _, _, _, _, _, _, rfl⟩) <;> rfl
  case it =>
    intro l W N2 X2 G2 hG2 hN2 hX2 hW hT hF
    obtain ⟨F2, hFe⟩ : ∃ F2, F2 = FR X2 G2 := ⟨_, rfl⟩
    have hF2 : FRel X2 F2 := by rw [hFe]; exact frel_of hG2
    rw [← hFe] at hF ⊢
    have hq : WQ Try.prog (hitR R) F2 l x b off (fun _ _ => True) W := by
      refine ⟨hx1.keep fun bb o v _ hc => ⟨trivial, by rw [cellH (hW.block bb (World.block_lt_of_cell? w1 _ hc))]; exact hc⟩, fun p b' o' y k1 k2 k3 Rr A vs k4 k5 => ?_, fun p b' o' y k1 k2 Rr A vs k4 k5 => ?_⟩
      · obtain ⟨u, us, rfl, k6, k7⟩ := k5
        have k7 : us = [] := k7
        subst k7
        obtain ⟨rfl, _⟩ := vrep_sc.1 k6
        exact hT _ A ⟨p, b', o', y, k1, k2, k3, rfl⟩ k4
      · obtain ⟨u, us, rfl, k6, k7⟩ := k5
        have k7 : us = [] := k7
        subst k7
        obtain ⟨rfl, _⟩ := vrep_sc.1 k6
        obtain ⟨b2, o2, y2, g1, g2, g3⟩ := hpl p k1
        rw [k2] at g1
        cases g1
        exact hF _ A ⟨p, b', o', y, k1, k2, g2, g3, rfl⟩ k4
    have hva : VReps (fun _ _ => True) W [yldV l, .ptr (ptrV b off)] (.func (.yield l) #[] #[] :: lb) := by
      refine ⟨_, _, rfl, vrep_sc.2 ⟨rfl, rfl⟩, ?_⟩
      exact (hcaps.keep (V := fun _ _ => True) (w' := W) fun bb o v _ hc => ⟨trivial, by rw [cellH (hW.block bb (World.block_lt_of_cell? w1 _ hc))]; exact hc⟩)
    have harr : (#[Value.func (.yield l) #[] #[]] ++ lb.toArray) = (Value.func (.yield l) #[] #[] :: lb).toArray := by simp
    rw [harr]
    cases hf : fst1 (hitR R) x.tm with
    | none =>
      refine ((symT_q (hitR R) F2 l x b off hf).2.2.2 _ W _ hq hva).mono ?_
      rintro e V ⟨v, rfl, _, hb⟩
      refine ⟨⟨v, rfl⟩, fun _ => hb, fun h => ?_⟩
      rw [hbb, hf] at h
      cases h
    | some p =>
      refine ((symF_q (hitR R) F2 hF2 l x b off (by rw [hf]; simp)).2.2.2 _ W _ hq hva).mono ?_
      rintro e V ⟨v, rfl, _, hb⟩
      refine ⟨⟨v, rfl⟩, fun h => ?_, fun _ => hb⟩
      rw [hbb, hf] at h
      cases h
  case rt =>
    rintro vs A r ⟨p, b', o', y, hadr, hy0, hyh, rfl⟩ hA hL hA2
    rw [zip_par [11]]
    refine wpIn_region_lit (asg_run (ro := some (w1.heap.size + 1)) (al := [(4, 11)]) rfl ?_)
    refine ⟨Below.refl _ _, ?_⟩
    have hyat := (hXA A r hA).adr hadr
    obtain ⟨hyr, hys⟩ := hsz p b' o' y hadr hy0
    obtain ⟨A', hA'⟩ : ∃ A', A' = A.putObj (w1.heap.size + 1) (.loop { r with state := .busy }) := ⟨_, rfl⟩
    have hf := hfacts A r b' o' hA
    rw [← hA'] at hyat hf ⊢
    refine wpIn_mono ((?_ : AWp Try.prog A' topX 38 _ (fun e _ => e = .normal) [(2, .val (.ptr (.lst (R.map RuT.cv)))), (3, .val (.ptr (yldV l1))), (4, .val (ptrV b' o'))]) ⟨some (w1.heap.size + 1), []⟩ _ _ (sim_vals _ (hsz2 b' o') hf rfl)) ?_
    · have hW := hw_top A'
      have hmiss : ∀ r ∈ R, (mt r.a y.tm []).1 = false := fun r hr => by
        unfold hitR at hyh
        have := List.any_eq_false.1 hyh r hr
        simpa using this
      refine aB (aS (aR ?_))
      (refine nx (a_load_ptr (gN rfl) rfl rfl rfl rfl rfl rfl rfl rfl rfl) rfl ?_)
      (refine nx (a_len (gN rfl) rfl rfl rfl rfl rfl rfl rfl) rfl ?_)
      (refine nx (aM (gN rfl) rfl rfl rfl rfl rfl) rfl ?_)
      show AWp _ _ _ _ _ _ _
      refine aB (awp_count R.length (fun k => [(3, .val (.ptr (yldV l1))), (4, .val (ptrV b' o')), (12, .val (.lst (R.map RuT.cv))), (13, .val (.i (R.map RuT.cv).length)), (14, .val (.i k))]) (wk_sub ⟨rfl, rfl, rfl, rfl, rfl, trivial⟩) ?_)
      intro k hk
      refine aS (aR ?_)
      (refine nx (a_lss (gN rfl) rfl rfl rfl rfl rfl rfl) rfl ?_)
      show AWp _ _ _ _ _ _ _
      refine aS (aC rfl (fun hlt => aK ?_) (fun hlt => aE ?_))
      · have hkl : k < R.length := by simpa using hlt
        obtain ⟨ru, hru⟩ : ∃ ru, R[k]? = some ru := ⟨R[k], List.getElem?_eq_getElem hkl⟩
        have hru' := RuT.map_at hru
        have hrm := List.mem_of_getElem? hru
        have hok := hR ru hrm
        have hat := wAtNo_abs A' ru y.tm hok.ar hok.ao hok.av hyr hys (hmiss ru hrm)
        clear hlt
        show AWp _ _ _ _ _ _ _
        refine aS (aB (aS (aR ?_)))
        (refine nx (a_index (j := k) (gN rfl) rfl rfl rfl rfl rfl rfl rfl rfl rfl (hru') rfl (hRz)) rfl ?_)
        (refine nx (a_load_ad (gN rfl) rfl rfl rfl rfl rfl rfl rfl rfl rfl) rfl ?_)
        (refine nx (a_alloc (gN rfl) rfl rfl rfl rfl rfl rfl rfl rfl rfl rfl) rfl ?_)
        (refine nx (aSt (gN rfl) rfl rfl rfl rfl rfl rfl rfl rfl rfl rfl) rfl ?_)
        show AWp _ _ _ _ _ _ _
        refine aS (aD (by kernel_rfl) (by kernel_rfl) ?_)
        (refine nx (aL (gN rfl) rfl rfl rfl rfl rfl rfl rfl rfl rfl rfl rfl rfl) rfl ?_)
        (refine nx (aM (gN rfl) rfl rfl rfl rfl rfl) rfl ?_)
        (refine nx (a_nilZ (gN rfl) rfl rfl rfl rfl rfl) rfl ?_)
        (refine nx (a_loadZ hW (hyat.ld) (gN rfl) rfl rfl rfl rfl rfl rfl rfl rfl rfl) rfl ?_)
        (refine nx (a_call (gN rfl) rfl rfl rfl rfl rfl (hat)) rfl ?_)
        (refine nx (aM (gN rfl) rfl rfl rfl rfl rfl) rfl ?_)
        (refine nx (aX (gN rfl) rfl rfl rfl rfl rfl rfl) rfl ?_)
        (refine nx (aX (gN rfl) rfl rfl rfl rfl rfl rfl) rfl ?_)
        (refine nx (a_alloc (gN rfl) rfl rfl rfl rfl rfl rfl rfl rfl rfl rfl) rfl ?_)
        (refine nx (aSt (gN rfl) rfl rfl rfl rfl rfl rfl rfl rfl rfl rfl) rfl ?_)
        (refine nx (aA (gN rfl) rfl rfl rfl rfl rfl) rfl ?_)
        refine ⟨by kernel_rfl, ?_⟩
        show AWp _ _ _ _ _ _ _
        refine aS (aR ?_)
        (refine nx (aM (gN rfl) rfl rfl rfl rfl rfl) rfl ?_)
        (refine nx (aM (gN rfl) rfl rfl rfl rfl rfl) rfl ?_)
        (refine ⟨_, _, _, a_off (go_off rfl rfl rfl rfl (by first | rfl | assumption | (simp; done) | (simp [*]; done))) rfl rfl rfl, rfl, ?_⟩)
        (refine ⟨_, _, _, a_off (go_off rfl rfl rfl rfl (by first | rfl | assumption | (simp; done) | (simp [*]; done))) rfl rfl rfl, rfl, ?_⟩)
        (refine ⟨_, _, _, a_off (go_off rfl rfl rfl rfl (by first | rfl | assumption | (simp; done) | (simp [*]; done))) rfl rfl rfl, rfl, ?_⟩)
        (refine ⟨_, _, _, a_off (go_off rfl rfl rfl rfl (by first | rfl | assumption | (simp; done) | (simp [*]; done))) rfl rfl rfl, rfl, ?_⟩)
        (refine ⟨_, _, _, a_off (go_off rfl rfl rfl rfl (by first | rfl | assumption | (simp; done) | (simp [*]; done))) rfl rfl rfl, rfl, ?_⟩)
        (refine ⟨_, _, _, a_off (go_off rfl rfl rfl rfl (by first | rfl | assumption | (simp; done) | (simp [*]; done))) rfl rfl rfl, rfl, ?_⟩)
        (refine ⟨_, _, _, a_off (go_off rfl rfl rfl rfl (by first | rfl | assumption | (simp; done) | (simp [*]; done))) rfl rfl rfl, rfl, ?_⟩)
        (refine ⟨_, _, _, a_off (go_off rfl rfl rfl rfl (by first | rfl | assumption | (simp; done) | (simp [*]; done))) rfl rfl rfl, rfl, ?_⟩)
        (refine ⟨_, _, _, aPf (gN rfl) rfl rfl rfl rfl rfl ?hb rfl, rfl, ?_⟩; case hb => (first | rfl | assumption | (simp; done)))
        show AWp _ _ _ _ _ _ _
        refine aC rfl (fun hc => by cases hc) (fun _ => aK ?_)
        show AWp _ _ _ _ _ _ _
        refine aR ?_
        (refine nx (a_add (gN rfl) rfl rfl rfl rfl rfl rfl (by first | omega | (simp only [List.length_map, List.length_append, List.length_cons, List.length_nil] <;> omega) | (simp <;> omega))) rfl ?_)
        (refine nx (aM (gN rfl) rfl rfl rfl rfl rfl) rfl ?_)
        exact ⟨hkl, wk_sub ⟨rfl, rfl, rfl, rfl, rfl, trivial⟩⟩
      · rfl
    · rintro e a2 B ⟨a3, rfl, s', rfl, D', hv', h3⟩
      have h4 := h3.below.below fun k h => h
      rw [show A'.heap.size = A.heap.size by rw [hA', World.putObj_size]] at h4
      exact ⟨rfl, h4⟩
  case rf =>
    rintro vs A r ⟨p, b', o', y, hfst, hadr, hy0, hyh, rfl⟩ hA hL hA2
    rw [zip_par [11]]
    refine wpIn_region_lit (asg_run (ro := some (w1.heap.size + 1)) (al := [(4, 11)]) rfl ?_)
    refine ⟨Below.refl _ _, ?_⟩
    have hyat := (hXA A r hA).adr hadr
    obtain ⟨hyr, hys⟩ := hsz p b' o' y hadr hy0
    obtain ⟨ru, hfind⟩ : ∃ ru, R.find? (fun r => (mt r.a y.tm []).1) = some ru := by
      unfold hitR at hyh
      obtain ⟨r, hr1, hr2⟩ := List.any_eq_true.1 hyh
      cases e : R.find? (fun r => (mt r.a y.tm []).1) with
      | some ru => exact ⟨ru, rfl⟩
      | none => exact absurd hr2 (List.find?_eq_none.1 e r hr1)
    obtain ⟨hmt, k0, hk0, hru0, hbef⟩ := List.find?_eq_some_iff_getElem.1 hfind
    have hYf := hY p b' o' y ru hfst hadr hfind
    obtain ⟨A', hA'⟩ : ∃ A', A' = A.putObj (w1.heap.size + 1) (.loop { r with state := .busy }) := ⟨_, rfl⟩
    have hwA : Below w.heap.size w A' := by
      have h1 : Below w.heap.size w A := hw1.trans (hA.mono hw1.size)
      have h2 := hw1.size
      rw [hA']
      exact ⟨h1.os, h1.tape, h1.output, by rw [World.putObj_size]; exact h1.size, fun k hk => (World.putObj_heap_other (by omega)).trans (h1.block k hk)⟩
    have hYA := hYf.up hwA
    have hnA : n ≤ A'.heap.size := Nat.le_trans hn hwA.size
    have hf := hfacts A r b' o' hA
    rw [← hA'] at hyat hf ⊢
    refine wpIn_mono ((?_ : AWpZ Try.prog A' topX 38 (FR X G A') _ (fun _ _ => False) (fun e _ => e = .ret) [(2, .val (.ptr (.lst (R.map RuT.cv)))), (3, .val (.ptr (yldV l1))), (4, .val (ptrV b' o'))]) ⟨some (w1.heap.size + 1), []⟩ _ _ (sim_vals _ (hsz2 b' o') hf rfl)) ?_
    · have hW := hw_top A'
      refine awpz_block (awpz_seq (awpz_of (aR ?_)))
      (refine nx (a_load_ptr (gN rfl) rfl rfl rfl rfl rfl rfl rfl rfl rfl) rfl ?_)
      (refine nx (a_len (gN rfl) rfl rfl rfl rfl rfl rfl rfl) rfl ?_)
      (refine nx (aM (gN rfl) rfl rfl rfl rfl rfl) rfl ?_)
      show AWpZ _ _ _ _ _ _ _ _ _
      refine awpz_block (awpz_countI R.length (fun k => k ≤ k0) (fun k => [(3, .val (.ptr (yldV l1))), (4, .val (ptrV b' o')), (12, .val (.lst (R.map RuT.cv))), (13, .val (.i (R.map RuT.cv).length)), (14, .val (.i k))]) (wk_sub ⟨rfl, rfl, rfl, rfl, rfl, trivial⟩) (Nat.zero_le _) ?_)
      intro k hk hI
      refine awpz_seq (awpz_of (aR ?_))
      (refine nx (a_lss (gN rfl) rfl rfl rfl rfl rfl rfl) rfl ?_)
      show AWpZ _ _ _ _ _ _ _ _ _
      refine awpz_seq (awpz_of (aC rfl (fun hlt => aK ?_) (fun hlt => aE ?_)))
      · have hkl : k < R.length := by simpa using hlt
        clear hlt
        show AWpZ _ _ _ _ _ _ _ _ _
        by_cases hkk : k = k0
        · subst hkk
          have hru : R[k]? = some ru := by rw [List.getElem?_eq_getElem hk0, hru0]
          have hru' := RuT.map_at hru
          have hrm := List.mem_of_getElem? hru
          have hok := hR ru hrm
          have hat := wAt_q n ru y.tm hok.ar hok.ao hok.av hok.sz hok.br hok.bo hok.bs hok.bv hyr hys hmt hok.k _ rfl
          have hQ : QUp (fun (_ : Nat → Nat → Prop) w => n ≤ w.heap.size) := fun U V w w' h hb _ => Nat.le_trans h hb.size
          have hq : (fun (_ : Nat → Nat → Prop) (w : World) => n ≤ w.heap.size) topX.m A' := hnA
          refine awpz_seq (awpz_block (awpz_seq (awpz_of (aR ?_))))
          (refine nx (a_index (j := k) (gN rfl) rfl rfl rfl rfl rfl rfl rfl rfl rfl (hru') rfl (hRz)) rfl ?_)
          (refine nx (a_load_ad (gN rfl) rfl rfl rfl rfl rfl rfl rfl rfl rfl) rfl ?_)
          (refine nx (a_alloc (gN rfl) rfl rfl rfl rfl rfl rfl rfl rfl rfl rfl) rfl ?_)
          (refine nx (aSt (gN rfl) rfl rfl rfl rfl rfl rfl rfl rfl rfl rfl) rfl ?_)
          show AWpZ _ _ _ _ _ _ _ _ _
          refine awpz_seq (awpz_of (aD (by kernel_rfl) (by kernel_rfl) ?_))
          (refine nx (aL (gN rfl) rfl rfl rfl rfl rfl rfl rfl rfl rfl rfl rfl rfl) rfl ?_)
          (refine nx (aM (gN rfl) rfl rfl rfl rfl rfl) rfl ?_)
          (refine nx (a_nilZ (gN rfl) rfl rfl rfl rfl rfl) rfl ?_)
          (refine nx (a_loadZ hW (hyat.ld) (gN rfl) rfl rfl rfl rfl rfl rfl rfl rfl rfl) rfl ?_)
          (refine nx (a_callQ hQ hW hq (gN rfl) rfl rfl rfl rfl rfl (hat)) rfl ?_)
          (refine nx (aM (gN rfl) rfl rfl rfl rfl rfl) rfl ?_)
          (refine nx (aX (gN rfl) rfl rfl rfl rfl rfl rfl) rfl ?_)
          (refine nx (aX (gN rfl) rfl rfl rfl rfl rfl rfl) rfl ?_)
          (refine nx (a_alloc (gN rfl) rfl rfl rfl rfl rfl rfl rfl rfl rfl rfl) rfl ?_)
          (refine nx (aSt (gN rfl) rfl rfl rfl rfl rfl rfl rfl rfl rfl rfl) rfl ?_)
          (refine nx (aA (gN rfl) rfl rfl rfl rfl rfl) rfl ?_)
          refine ⟨by kernel_rfl, ?_⟩
          show AWpZ _ _ _ _ _ _ _ _ _
          refine awpz_seq (awpz_regionF (r := .val (.b false)) 8 [(27, .bool true)] rfl rfl rfl rfl rfl ?_ (fun w2 hw2 => ?_))
          · skip
            (refine nxY (AOp.y (aM (gN rfl) rfl rfl rfl rfl rfl)) rfl ?_)
            (refine nxY (AOp.y (aM (gN rfl) rfl rfl rfl rfl rfl)) rfl ?_)
            (refine nxY (AOp.y (a_load_ptr (gd_on rfl rfl rfl rfl (by first | rfl | assumption | (simp; done))) rfl rfl rfl rfl rfl rfl rfl rfl rfl)) rfl ?_)
            (refine nxY (AOp.y (aF (gd_on rfl rfl rfl rfl (by first | rfl | assumption | (simp; done))) rfl rfl rfl rfl rfl rfl rfl rfl rfl)) rfl ?_)
            (refine nxY (AOp.y (aLb (gd_on rfl rfl rfl rfl (by first | rfl | assumption | (simp; done))) rfl rfl rfl rfl rfl rfl rfl rfl rfl rfl rfl rfl)) rfl ?_)
            (refine nxY (AOp.y (aM (gd_on rfl rfl rfl rfl (by first | rfl | assumption | (simp; done))) rfl rfl rfl rfl rfl)) rfl ?_)
            (refine nxY (AOp.y (aL (gd_on rfl rfl rfl rfl (by first | rfl | assumption | (simp; done))) rfl rfl rfl rfl rfl rfl rfl rfl rfl rfl rfl rfl)) rfl ?_)
            (refine nxY (AOp.y (a_build (gd_on rfl rfl rfl rfl (by first | rfl | assumption | (simp; done))) rfl rfl rfl rfl rfl rfl rfl rfl rfl rfl rfl)) rfl ?_)
            exact ⟨⟨rfl, trivial⟩, fend_yield hW (frel_of hG) hYA (gd_on rfl rfl rfl rfl rfl) rfl rfl rfl⟩
          · skip
            (refine nxY (AOp.y (a_not (gd_on rfl rfl rfl rfl (by first | rfl | assumption | (simp; done))) rfl rfl rfl rfl rfl)) rfl ?_)
            (refine ⟨_, _, _, AOp.y (aPt (gN rfl) rfl rfl rfl rfl rfl ?hb rfl), rfl, ?_⟩; case hb => (first | rfl | assumption | (simp; done)))
            intro w3 hw3
            refine aC rfl (fun _ => aT rfl) (fun hc => by cases hc)
        · obtain ⟨ru, hru⟩ : ∃ ru, R[k]? = some ru := ⟨R[k], List.getElem?_eq_getElem hkl⟩
          have hru' := RuT.map_at hru
          have hrm := List.mem_of_getElem? hru
          have hok := hR ru hrm
          have hmk : (mt ru.a y.tm []).1 = false := by
            have := hbef k (by omega)
            rw [List.getElem?_eq_getElem hkl] at hru
            injection hru with hru
            rw [hru] at this
            simpa using this
          have hat := wAtNo_abs A' ru y.tm hok.ar hok.ao hok.av hyr hys hmk
          refine awpz_of ?_
          refine aS (aB (aS (aR ?_)))
          (refine nx (a_index (j := k) (gN rfl) rfl rfl rfl rfl rfl rfl rfl rfl rfl (hru') rfl (hRz)) rfl ?_)
          (refine nx (a_load_ad (gN rfl) rfl rfl rfl rfl rfl rfl rfl rfl rfl) rfl ?_)
          (refine nx (a_alloc (gN rfl) rfl rfl rfl rfl rfl rfl rfl rfl rfl rfl) rfl ?_)
          (refine nx (aSt (gN rfl) rfl rfl rfl rfl rfl rfl rfl rfl rfl rfl) rfl ?_)
          show AWp _ _ _ _ _ _ _
          refine aS (aD (by kernel_rfl) (by kernel_rfl) ?_)
          (refine nx (aL (gN rfl) rfl rfl rfl rfl rfl rfl rfl rfl rfl rfl rfl rfl) rfl ?_)
          (refine nx (aM (gN rfl) rfl rfl rfl rfl rfl) rfl ?_)
          (refine nx (a_nilZ (gN rfl) rfl rfl rfl rfl rfl) rfl ?_)
          (refine nx (a_loadZ hW (hyat.ld) (gN rfl) rfl rfl rfl rfl rfl rfl rfl rfl rfl) rfl ?_)
          (refine nx (a_call (gN rfl) rfl rfl rfl rfl rfl (hat)) rfl ?_)
          (refine nx (aM (gN rfl) rfl rfl rfl rfl rfl) rfl ?_)
          (refine nx (aX (gN rfl) rfl rfl rfl rfl rfl rfl) rfl ?_)
          (refine nx (aX (gN rfl) rfl rfl rfl rfl rfl rfl) rfl ?_)
          (refine nx (a_alloc (gN rfl) rfl rfl rfl rfl rfl rfl rfl rfl rfl rfl) rfl ?_)
          (refine nx (aSt (gN rfl) rfl rfl rfl rfl rfl rfl rfl rfl rfl rfl) rfl ?_)
          (refine nx (aA (gN rfl) rfl rfl rfl rfl rfl) rfl ?_)
          refine ⟨by kernel_rfl, ?_⟩
          show AWp _ _ _ _ _ _ _
          refine aS (aR ?_)
          (refine nx (aM (gN rfl) rfl rfl rfl rfl rfl) rfl ?_)
          (refine nx (aM (gN rfl) rfl rfl rfl rfl rfl) rfl ?_)
          (refine ⟨_, _, _, a_off (go_off rfl rfl rfl rfl (by first | rfl | assumption | (simp; done) | (simp [*]; done))) rfl rfl rfl, rfl, ?_⟩)
          (refine ⟨_, _, _, a_off (go_off rfl rfl rfl rfl (by first | rfl | assumption | (simp; done) | (simp [*]; done))) rfl rfl rfl, rfl, ?_⟩)
          (refine ⟨_, _, _, a_off (go_off rfl rfl rfl rfl (by first | rfl | assumption | (simp; done) | (simp [*]; done))) rfl rfl rfl, rfl, ?_⟩)
          (refine ⟨_, _, _, a_off (go_off rfl rfl rfl rfl (by first | rfl | assumption | (simp; done) | (simp [*]; done))) rfl rfl rfl, rfl, ?_⟩)
          (refine ⟨_, _, _, a_off (go_off rfl rfl rfl rfl (by first | rfl | assumption | (simp; done) | (simp [*]; done))) rfl rfl rfl, rfl, ?_⟩)
          (refine ⟨_, _, _, a_off (go_off rfl rfl rfl rfl (by first | rfl | assumption | (simp; done) | (simp [*]; done))) rfl rfl rfl, rfl, ?_⟩)
          (refine ⟨_, _, _, a_off (go_off rfl rfl rfl rfl (by first | rfl | assumption | (simp; done) | (simp [*]; done))) rfl rfl rfl, rfl, ?_⟩)
          (refine ⟨_, _, _, a_off (go_off rfl rfl rfl rfl (by first | rfl | assumption | (simp; done) | (simp [*]; done))) rfl rfl rfl, rfl, ?_⟩)
          (refine ⟨_, _, _, aPf (gN rfl) rfl rfl rfl rfl rfl ?hb rfl, rfl, ?_⟩; case hb => (first | rfl | assumption | (simp; done)))
          show AWp _ _ _ _ _ _ _
          refine aC rfl (fun hc => by cases hc) (fun _ => aK ?_)
          show AWp _ _ _ _ _ _ _
          refine aR ?_
          (refine nx (a_add (gN rfl) rfl rfl rfl rfl rfl rfl (by first | omega | (simp only [List.length_map, List.length_append, List.length_cons, List.length_nil] <;> omega) | (simp <;> omega))) rfl ?_)
          (refine nx (aM (gN rfl) rfl rfl rfl rfl rfl) rfl ?_)
          exact ⟨hkl, by omega, wk_sub ⟨rfl, rfl, rfl, rfl, rfl, trivial⟩⟩
      · exfalso
        have : ¬ k < R.length := by simpa using hlt
        omega
    · rintro e a2 B ⟨a3, rfl, ⟨s', h0, _⟩ | ⟨w2, s', hF2, rfl, D', hv', h3⟩⟩
      · exact h0.elim
      · exact ⟨rfl, (frel_of hG).up _ _ _ hF2 (h3.below.below fun k h => h)⟩
  case done =>
    intro hb W hW hD
    have hlt := (Array.getElem?_eq_some_iff.1 hD).1
    have h2 : Below w.heap.size w (W.putObj w1.heap.size (.deferred none)) := by
      have h1 : Below w.heap.size w W := hw1.trans (hW.mono hw1.size)
      have h2 := hw1.size
      exact ⟨h1.os, h1.tape, h1.output, by rw [World.putObj_size]; exact h1.size, fun k hk => (World.putObj_heap_other (by omega)).trans (h1.block k hk)⟩
    refine ⟨.inl rfl, w1.heap.size, by rw [h.dfr], hD, .tuple #[], by simp [results], ⟨_, rfl⟩, fun _ => h2, fun h => ?_⟩
    rw [hb] at h
    cases h
  case stop =>
    rintro hb W ⟨⟨k1, k2, k3⟩, hWs, hW, hGW⟩ hD
    have hs1 := hw1.size
    refine ⟨.inr rfl, w1.heap.size, by rw [h.dfr], hD, .tuple #[], by simp [results], ⟨_, rfl⟩, fun h => ?_, fun _ => ⟨⟨k1.trans hw1.os, k2.trans hw1.tape, k3.trans hw1.output⟩, by rw [World.putObj_size]; omega, fun k hx hk => ?_, hG.book _ _ _ _ (by omega) hD rfl rfl hGW⟩⟩
    · rw [hb] at h
      cases h
    · exact (World.putObj_heap_other (by omega)).trans ((hW k hx (by omega)).trans (hw1.block k hk))
section
variable {P : Program} {ops : Array Oper} {o : Oper} {os : List Oper} {a : Act} {w : World} {Q : Exit → Act → World → Prop} {ro : Option Nat}
theorem st_val (hg : o.guard = none) {v : Value} {w' : World} (hnd : ∀ c, o.op ≠ .defer c) (he : (execOp a.eval o).run P w = .ok (.value v) w') (h : wpListIn (wideR ro) 1 P ops Q os (a.put o.dst v) w') : wpListIn (wideR ro) 1 P ops Q (o :: os) a w := by
  unfold wpListIn
  rw [if_pos (by simp [Region.wanted, hg])]
  refine ⟨fun _ _ => trivial, ?_⟩
  rw [Oper.semAt_eq _ _ _ (fun c hc => absurd hc (hnd c)), he]
  exact h
theorem st_skip (hg : o.guard = none) (hd : o.dst = none) {w' : World} (hnd : ∀ c, o.op ≠ .defer c) (he : (execOp a.eval o).run P w = .ok .skip w') (h : wpListIn (wideR ro) 1 P ops Q os a w') : wpListIn (wideR ro) 1 P ops Q (o :: os) a w := by
  unfold wpListIn
  rw [if_pos (by simp [Region.wanted, hg])]
  refine ⟨fun _ _ => trivial, ?_⟩
  rw [Oper.semAt_eq _ _ _ (fun c hc => absurd hc (hnd c)), he]
  show wpListIn _ _ _ _ _ _ (a.put o.dst undef) w'
  rw [hd]
  exact h
variable {ρ : Operand → Value}
theorem h_field {ty : TypeId} {x : Operand} {i b off z : Nat} {fs : Array Field} {f : Field} (ho : o.op = .fieldAddr ty x i) (hu : P.underlying ty = some (.struct fs)) (hf : fs[i]? = some f) (hz : (P.info? f.type).map (·.size) = some z) (hz0 : Nat.beq z 0 = false) (hx : ρ x = .pointer (some ⟨b, off, none⟩)) : (execOp ρ o).run P w = .ok (.value (.pointer (some ⟨b, off + f.offset, none⟩))) w := by
  have hsz := run_sizeOf (P := P) (w := w) hz
  have hz1 : z ≠ 0 := fun e => by rw [e] at hz0; cases hz0
  have hadd := add_at b off f.offset
  simp [execOp, ho, Instr.fieldAt, run_underlying hu, hf, Instr.sureAddr, hx, fieldPlace, hsz, hz1, hadd]
theorem h_load {ty : TypeId} {x : Operand} {b off z : Nat} {ds : TypeDesc} {c : CV} {v : Value} (ho : o.op = .load ty x) (hu : P.underlying ty = some ds) (hi : (P.info? ty).map (·.size) = some z) (hx : ρ x = .pointer (some ⟨b, off, none⟩)) (hq : LdOk (fun _ _ => True) w b off c) (hk : aggB ds = Nat.beq c.k 2) (hz : c.size = z) (hv : ∀ u, VRep (fun _ _ => True) w c u → u = v) : (execOp ρ o).run P w = .ok (.value v) w := by
  obtain ⟨xs, h2, h3⟩ := hq
  obtain ⟨u, h4, h6, _⟩ := run_loadTree hu hi hk hz h2 (b := b) (off := off) (fun i hi => (h3 i hi).2)
  have := hv u h6
  subst this
  simp [execOp, ho, Instr.loadAt, Instr.sureAddr, hx, h4]
theorem h_nil {x : Operand} {b off : Nat} (ho : o.op = .nilCheck x) (hx : ρ x = .pointer (some ⟨b, off, none⟩)) : (execOp ρ o).run P w = .ok (.value (.pointer (some ⟨b, off, none⟩))) w := by
  simp [execOp, ho, hx]
theorem h_alloc {ty : TypeId} {v : Value} (ho : o.op = .alloc ty) (hi : (P.info? ty).map (·.zero) = some (some v)) : (execOp ρ o).run P w = .ok (.value (.pointer (some ⟨w.heap.size, 0, none⟩))) (w.alloc (.cells v.cells ty)) := by
  cases hi' : P.info? ty with
  | none => rw [hi'] at hi; simp at hi
  | some i =>
    rw [hi'] at hi
    simp at hi
    simp [execOp, ho, Instr.alloc, zeroValue, typeInfo, hi', hi, run_newVar]
theorem h_store {ty : TypeId} {x y : Operand} {z g q : Nat} {ys zs us vs : List Value} {t : TypeId} (ho : o.op = .store ty x y) (hi : (P.info? ty).map (·.size) = some z) (hx : ρ x = .pointer (some ⟨g, q, none⟩)) (hg : w.heap[g]? = some (.cells (ys ++ zs ++ us).toArray t (0, 0))) (hq : ys.length = q) (hv : (ρ y).cells.toList = vs) (hl : vs.length = zs.length) (hz : vs.length = z) (h1 : ∀ u ∈ vs, u.oneCell' = true) : (execOp ρ o).run P w = .ok .skip (w.setRow g (ys ++ vs ++ us).toArray) := by
  have hrun := run_storeTree (P := P) hi hg hq hv hl hz h1
  simp [execOp, ho, Instr.storeAt, Instr.sureAddr, hx, hrun]
end
theorem i01 {v : Value} {i : Nat} (h : i < [v].length) : i = 0 := by simpa using h
theorem ld_cells {w : World} {b : Nat} {cs : Array Value} {ty : TypeId} {fl : Nat × Nat} (h : w.heap[b]? = some (.cells cs ty fl)) {off : Nat} {c : CV} {xs : List Value} (hr : Rep (fun _ _ => True) w c xs) (hx : ∀ i, i < xs.length → cs[off + i]? = xs[i]?) : LdOk (fun _ _ => True) w b off c := by
  refine ⟨xs, hr, fun i hi => ⟨trivial, ?_⟩⟩
  rw [← hx i hi]
  simp [World.cell?, h]

theorem set2_at {α : Type} (x y : α) : ∀ (o : Nat) (l : List α), o + 1 < l.length → l.take o ++ [x, y] ++ l.drop (o + 2) = (l.set o x).set (o + 1) y
  | 0, a :: b :: l, _ => rfl
  | 0, [], h => by simp at h
  | 0, [_], h => by simp at h
  | o + 1, [], h => by simp at h
  | o + 1, a :: l, h => by
    have := set2_at x y o l (by simpa using h)
    simp only [List.take_succ_cons, List.cons_append, List.drop_succ_cons, List.set_cons_succ]
    rw [← this]
theorem cv_inj17 : ∀ {t s : Tm}, t.cv = s.cv → t = s := by
  intro t
  induction t using Tm.ind with
  | h f l ih =>
    intro s h
    cases s with
    | mk g m =>
      rw [Tm.cv_eq, Tm.cv_eq] at h
      injection h with _ _ h
      injection h with h1 h2
      injection h1 with _ h1 _
      injection h1 with _ h1
      injection h2 with h2 _
      injection h2 with _ _ h2
      have h1 : f = g := h1
      have h2 : l.map Tm.cv = m.map Tm.cv := h2
      subst h1
      have : ∀ (l' m' : List Tm), (∀ t ∈ l', t ∈ l) → l'.map Tm.cv = m'.map Tm.cv → l' = m' := by
        intro l'
        induction l' with
        | nil => intro m' _ e; cases m' with
          | nil => rfl
          | cons _ _ => cases e
        | cons t l' ih2 =>
          intro m' hm e
          cases m' with
          | nil => cases e
          | cons u m' =>
            rw [List.map_cons, List.map_cons] at e
            injection e with e1 e2
            rw [ih t (hm t (by simp)) e1, ih2 m' (fun s hs => hm s (List.mem_cons_of_mem _ hs)) e2]
      rw [this l m (fun _ h => h) h2]
def StG (w : World) (g o : Nat) (f : Int) (h : Value) (B : World) : Prop := (∀ k, k < w.heap.size → k ≠ g → B.heap[k]? = w.heap[k]?) ∧ ∃ cur ty, w.heap[g]? = some (.cells cur ty (0, 0)) ∧ B.heap[g]? = some (.cells ((cur.setIfInBounds o (.int .i64 f)).setIfInBounds (o + 1) h) ty (0, 0))

theorem tm_eta17 (t : Tm) : (⟨t.f, t.l⟩ : Tm) = t := by cases t; rfl
theorem load_one {w : World} {ty : TypeId} {ds : TypeDesc} {g : Nat} {x : Value} {t : TypeId} (hu : Try.prog.underlying ty = some ds) (hi : (Try.prog.info? ty).map (·.size) = some 1) (hk : aggB ds = false) (hx : x.oneCell' = true) (h : w.heap[g]? = some (.cells #[x] t (0, 0))) : (loadVar ty ⟨g, 0, none⟩).run Try.prog w = .ok x w := by
  obtain ⟨xs, h2, h3⟩ := ld_cells h (off := 0) (c := .sc x) (xs := [x]) (rep_sc.2 ⟨rfl, hx⟩) (fun i hi => by rw [i01 hi]; rfl)
  obtain ⟨u, h4, h6, _⟩ := run_loadTree (c := .sc x) hu hi hk rfl h2 (b := g) (off := 0) (fun i hi => (h3 i hi).2)
  rw [(vrep_sc.1 h6).1] at h4
  exact h4
theorem results_first {tmps : Array Value} {w : World} {g : Nat} {z : Int} {c : Bool} (hp : tmps.getD 2 undef = .pointer (some ⟨g, 0, none⟩)) (hp3 : tmps.getD 3 undef = .pointer (some ⟨g + 1, 0, none⟩)) (h1 : w.heap[g]? = some (.cells #[.int .i64 z] 3 (0, 0))) (h2 : w.heap[g + 1]? = some (.cells #[.bool c] 4 (0, 0))) :
    (results Try.f32 tmps).run Try.prog w = .ok (.tuple #[.int .i64 z, .bool c]) w := by
  have hp' : tmps[2]?.getD undef = .pointer (some ⟨g, 0, none⟩) := by simpa using hp
  have hp3' : tmps[3]?.getD undef = .pointer (some ⟨g + 1, 0, none⟩) := by simpa using hp3
  have l1 := load_one Try.underlying3 (by kernel_rfl) rfl rfl h1
  have l2 := load_one Try.underlying4 (by kernel_rfl) rfl rfl h2
  simp [results, hp', hp3', asAddr, l1, l2]
set_option maxHeartbeats 4000000 in
theorem first_any (R : List RuT) (hR : ∀ r ∈ R, RuOk r) (hRl : R.length ≤ 1000000) (x : XT) (b off : Nat) (bb : Bool) (U : Nat → Nat → Prop) (w : World) (hx : XAt U w b off x) (hsz : ∀ p b' o' y, x.adr b off p = some (b', o', y) → 0 ≤ y.f → y.tm.rng ∧ y.tm.size ≤ 90000000000)
    (hbb : bb = (fst1 (hitR R) x.tm).isNone) (hpl : ∀ p, fst1 (hitR R) x.tm = some p → ∃ b' o' y, x.adr b off p = some (b', o', y) ∧ 0 ≤ y.f ∧ hitR R y.tm = true ∧ Fz w b')
    (v : Value) (hv : VRep U w (useV b off R) v) :
    Calls Try.prog 32 #[v] w fun e V => (bb = true → e = .returned (.tuple #[.int .i64 0, .bool false]) ∧ Below w.heap.size w V) ∧
      (bb = false → ∃ p b' o' y r xs, fst1 (hitR R) x.tm = some p ∧ x.adr b off p = some (b', o', y) ∧ R.find? (fun r => (mt r.a y.tm []).1) = some r ∧ e = .returned (.tuple #[.int .i64 r.id, .bool true]) ∧ xs.tm = usR r y.tm ∧ XR (fun k _ => w.heap.size ≤ k) V xs ∧ xs.bl.Nodup ∧ StG w b' o' xs.f xs.h V ∧ (V.os = w.os ∧ V.tape = w.tape ∧ V.output = w.output ∧ w.heap.size ≤ V.heap.size)) := by
  obtain ⟨ys, lb, rfl, e2, e3, e4⟩ := vrep_fn.1 hv
  have hys : ys = [] := List.eq_nil_of_length_eq_zero e2
  subst hys
  have hcaps := sq_vreps e4 (by simpa using e3)
  refine callsR_of Try.func32 rfl (wpIn_n (n := 3) ?_)
  simp only [Try.ntmps32, List.size_toArray, List.length_cons, List.length_nil, Nat.reduceAdd, Nat.reduceSub, Array.replicate_succ, Array.replicate_zero, List.push_toArray, List.append_toArray, List.nil_append, List.cons_append]
  gi_wp2
  rename_i Q9 K9 hK9
  obtain ⟨wl, hwl⟩ : ∃ wl, wl = (w.alloc (.cells #[.int .i64 0] 3)).alloc (.cells #[.bool false] 4) := ⟨_, rfl⟩
  rw [← hwl]
  have hszl : wl.heap.size = w.heap.size + 2 := by rw [hwl]; simp
  have hb0 : Below w.heap.size w wl := by rw [hwl]; exact bA (bA (bW _) _) _
  have hbx2 : wl.heap[w.heap.size]? = some (.cells #[.int .i64 0] 3 (0, 0)) := by
    have h1 := World.alloc_heap_new w (.cells #[.int .i64 0] 3)
    rw [hwl, Below.heap_alloc _ _ _ (by simp)]
    exact h1
  have hbx3 : wl.heap[w.heap.size + 1]? = some (.cells #[.bool false] 4 (0, 0)) := by
    have h1 := World.alloc_heap_new (w.alloc (.cells #[.int .i64 0] 3)) (.cells #[.bool false] 4)
    rw [World.size_alloc, ← hwl] at h1
    exact h1
  clear hwl
  have hxl : XAt (fun _ _ => True) wl b off x := hx.keep fun b o v hu hc => ⟨trivial, by rw [cellH (hb0.block b (World.block_lt_of_cell? w _ hc))]; exact hc⟩
  obtain ⟨G, hGd⟩ : ∃ G : World → Prop, G = fun B => ∃ p b' o' y r xs, fst1 (hitR R) x.tm = some p ∧ x.adr b off p = some (b', o', y) ∧ R.find? (fun r => (mt r.a y.tm []).1) = some r ∧ xs.tm = usR r y.tm ∧ XR (fun k _ => w.heap.size ≤ k) B xs ∧ xs.bl.Nodup ∧ StG w b' o' xs.f xs.h B ∧ B.heap[w.heap.size]? = some (.cells #[.int .i64 r.id] 3 (0, 0)) ∧ B.heap[w.heap.size + 1]? = some (.cells #[.bool true] 4 (0, 0)) := ⟨_, rfl⟩
  have hG : GRel (w.heap.size + 2) G := by
    rw [hGd]
    have hlt : ∀ {B : World} {k : Nat} {o : Obj}, B.heap[k]? = some o → k < B.heap.size := fun h => (Array.getElem?_eq_some_iff.1 h).1
    refine ⟨fun B C ⟨p, b', o', y, r, xs, g1, g2, g3, g4, g5, g6, ⟨g7, cur, ty, g8, g9⟩, g10, g11⟩ hb => ⟨p, b', o', y, r, xs, g1, g2, g3, g4, g5.bw hb, g6, ⟨fun k hk hne => ?_, cur, ty, g8, (hb.block _ (hlt g9)).trans g9⟩, (hb.block _ (hlt g10)).trans g10, (hb.block _ (hlt g11)).trans g11⟩, fun B l o o' hl ho hc hc' ⟨p, b', o1, y, r, xs, g1, g2, g3, g4, g5, g6, ⟨g7, cur, ty, g8, g9⟩, g10, g11⟩ => ⟨p, b', o1, y, r, xs, g1, g2, g3, g4, ?_, g6, ⟨fun k hk hne => (World.putObj_heap_other (by omega)).trans (g7 k hk hne), cur, ty, g8, ?_⟩, (World.putObj_heap_other (by omega)).trans g10, (World.putObj_heap_other (by omega)).trans g11⟩⟩
    · have h1 := g7 k hk hne
      rw [Array.getElem?_eq_getElem hk] at h1
      have h2 := hb.block k (hlt h1)
      rw [h2, h1, Array.getElem?_eq_getElem hk]
    · refine g5.keep fun k q v hu hcell => ⟨hu, ?_⟩
      by_cases hkl : k = l
      · subst hkl
        simp only [World.cell?, ho] at hcell
        cases o with
        | cells c e f => cases hc
        | _ => simp at hcell
      · rw [cellH (World.putObj_heap_other (fun e => hkl e))]; exact hcell
    · have := hlt g8
      exact (World.putObj_heap_other (by omega)).trans g9
  refine wp_rangeZ (gf := 49) (lb := lb.toArray) rfl (ent_of Try.func49 rfl rfl) bb (X := fun k => (∃ p o' y, fst1 (hitR R) x.tm = some p ∧ x.adr b off p = some (k, o', y)) ∨ k = w.heap.size ∨ k = w.heap.size + 1) hG (by omega) ?hX
    (fun _ _ => False) (fun vs A => ∃ p b' o' y r Rr, fst1 (hitR R) x.tm = some p ∧ x.adr b off p = some (b', o', y) ∧ R.find? (fun r => (mt r.a y.tm []).1) = some r ∧ VReps Rr A [useC r.id b' o' wl.heap.size (usR r y.tm)] vs)
    ?ps ?it ?rt ?rf ?done ?stop
  case hX =>
    rintro k (⟨p, o', y, h1, h2⟩ | rfl | rfl)
    · obtain ⟨b2, o2, y2, g1, _, _, cur, ty, g4⟩ := hpl p h1
      rw [h2] at g1
      cases g1
      have := (Array.getElem?_eq_some_iff.1 g4).1
      omega
    · omega
    · omega
  case ps =>
    rintro vs A (h | ⟨p, b', o', y, r, Rr, _, _, _, h⟩)
    · exact h.elim
    · exact h.len
  case it =>
    intro l W N2 X2 G2 hG2 hN2 hX2 hW hT hF
    have hbw : Below w.heap.size w W := hb0.trans (hW.mono hb0.size)
    have hxW : XAt (fun _ _ => True) W b off x := hx.keep fun b o v hu hc => ⟨trivial, by rw [cellH (hbw.block b (World.block_lt_of_cell? w _ hc))]; exact hc⟩
    have hva : VReps (fun _ _ => True) W [yldV l, .ptr (ptrV b off), .ptr (.lst (R.map RuT.cv))] (.func (.yield l) #[] #[] :: lb) := by
      refine ⟨_, _, rfl, vrep_sc.2 ⟨rfl, rfl⟩, ?_⟩
      exact (hcaps.keep (V := fun _ _ => True) (w' := W) fun bb o v _ hc => ⟨trivial, by rw [cellH (hbw.block bb (World.block_lt_of_cell? w _ hc))]; exact hc⟩)
    have harr : (#[Value.func (.yield l) #[] #[]] ++ lb.toArray) = (Value.func (.yield l) #[] #[] :: lb).toArray := by simp
    rw [harr]
    exact use1 R hR hRl l x b off wl.heap.size N2 X2 G2 hG2 bb _ W hxW hsz hbb hN2 hX2 hW.size (fun p b' o' y r k1 k2 k3 Rr A vs k4 k5 => hF vs A ⟨p, b', o', y, r, Rr, k1, k2, k3, k5⟩ k4) (fun p hp => by obtain ⟨b', o', y, g1, g2, g3, _⟩ := hpl p hp; exact ⟨b', o', y, g1, g2, g3⟩) _ hva
  case rt =>
    rintro vs A r h
    exact h.elim
  case rf =>
    rintro vs A rec ⟨p, b', o', y, r, Rr, h1, h2, h3, u, us, rfl, h4, h5⟩ hA hL hA2
    have h5 : us = [] := h5
    subst h5
    obtain ⟨xs', rfl, y1, z1, e1, f1, y2, z2, e2', f2, y3, z3, e3', f3, f4⟩ := vrep_row.1 h4
    have f4 : z3 = [] := f4
    subst f4
    obtain ⟨rfl, _⟩ := rep_sc.1 f1
    obtain ⟨rfl, _⟩ := rep_sc.1 f2
    obtain ⟨y4, z4, e4', f5, y5, z5, e5, f6, f7⟩ := rep_row.1 f3
    have f7 : z5 = [] := f7
    subst f7
    obtain ⟨rfl, _⟩ := rep_sc.1 f5
    obtain ⟨xs, rfl, k1, k2, k3⟩ := rep_own.1 f6
    subst e5; subst e4'; subst e3'; subst e2'; subst e1
    obtain ⟨b2, o2, y2', g1, _, _, cur, ty, g4⟩ := hpl p h1
    rw [h2] at g1
    cases g1
    have hcvs : (xs.l.map XT.tm) = (usR r y.tm).l := by
      have e := k1
      rw [cvs_tm] at e
      have := cv_inj17 (t := ⟨0, xs.l.map XT.tm⟩) (s := ⟨0, (usR r y.tm).l⟩) (by rw [Tm.cv_eq, Tm.cv_eq]; show CV.row [.i 0, .lst ((xs.l.map XT.tm).map Tm.cv)] = CV.row [.i 0, .lst ((usR r y.tm).l.map Tm.cv)]; rw [e])
      injection this
    have hbA : Below w.heap.size w A := hb0.trans (hA.mono hb0.size)
    have hAs := hA.size
    have hblt : b' < w.heap.size := (Array.getElem?_eq_some_iff.1 g4).1
    have hyw := hx.adr h2
    have hq0 : cur[o']? = some (.int .i64 y.f) := by have := hyw.2.1.2; simpa [World.cell?, g4] using this
    have hq1 : cur[o' + 1]? = some y.h := by have := hyw.2.2.2; simpa [World.cell?, g4] using this
    have hol : o' + 1 < cur.toList.length := by
      have := (Array.getElem?_eq_some_iff.1 hq1).1
      simpa using this
    obtain ⟨h9, hh9⟩ : ∃ h9, h9 = xs.h := ⟨_, rfl⟩
    have h91 : h9.oneCell' = true := by rw [hh9]; rfl
    rw [← hh9]
    obtain ⟨f9, hf9⟩ : ∃ f9, f9 = (usR r y.tm).f := ⟨_, rfl⟩
    rw [← hf9]
    have hW1 : (A.alloc (.cells (Value.agg #[.int .i64 0, .pointer none, .int .i64 0, .slice none 0 0]).cells 105)).setRow A.heap.size ([] ++ [Value.int .i64 r.id, .pointer (some ⟨b', o', none⟩), .int .i64 f9, h9] ++ []).toArray = A.alloc (.cells #[.int .i64 r.id, .pointer (some ⟨b', o', none⟩), .int .i64 f9, h9] 105) := World.setRow_alloc_new _ _ _ _
    obtain ⟨A1, hA1⟩ : ∃ A1, A1 = A.alloc (.cells #[.int .i64 r.id, .pointer (some ⟨b', o', none⟩), .int .i64 f9, h9] 105) := ⟨_, rfl⟩
    have hA1b : Below A.heap.size A A1 := by rw [hA1]; exact bA (bW _) _
    have hA1s : A1.heap.size = A.heap.size + 1 := by rw [hA1]; simp
    obtain ⟨A', hA'⟩ : ∃ A', A' = A1.putObj (wl.heap.size + 1) (.loop { rec with state := .busy }) := ⟨_, rfl⟩
    have hA's : A'.heap.size = A.heap.size + 1 := by rw [hA', World.putObj_size, hA1s]
    have hkA : ∀ k, k ≠ wl.heap.size + 1 → k < A.heap.size → A'.heap[k]? = A.heap[k]? := fun k hk hlt => by rw [hA', World.putObj_heap_other (fun e => hk e)]; exact hA1b.block k hlt
    have hkw : ∀ k, k < w.heap.size → A'.heap[k]? = w.heap[k]? := fun k hk => (hkA k (by omega) (by omega)).trans (hbA.block k hk)
    have hbox : A'.heap[A.heap.size]? = some (.cells #[.int .i64 r.id, .pointer (some ⟨b', o', none⟩), .int .i64 f9, h9] 105 (0, 0)) := by
      rw [hA', World.putObj_heap_other (by omega), hA1]
      exact World.alloc_heap_new _ _
    have hcur : A'.heap[b']? = some (.cells (cur.toList.take o' ++ (cur.toList.drop o').take 2 ++ cur.toList.drop (o' + 2)).toArray ty (0, 0)) := by
      rw [hkw b' hblt, g4]
      congr 2
      apply Array.ext'
      simp only [List.append_assoc]
      rw [← List.drop_drop, List.take_append_drop, List.take_append_drop]
    rw [zip_par [6]]
    show Code.wpIn (Fence.wide.inRound (wl.heap.size + 1)) 1 _ _ _ { tmps := #[.func (.func 49) #[] lb.toArray, undef, .pointer (some ⟨w.heap.size, 0, none⟩), .pointer (some ⟨w.heap.size + 1, 0, none⟩), undef, .func (.func 49) #[] lb.toArray, .agg #[.int .i64 r.id, .pointer (some ⟨b', o', none⟩), .int .i64 f9, h9], undef, undef, undef, undef, undef, undef, undef], defers := [] } _
    refine wpIn_region_lit (st_val rfl (fun c h => by cases h) (h_alloc (v := .agg #[.int .i64 0, .pointer none, .int .i64 0, .slice none 0 0]) rfl (by kernel_rfl)) ?_)
    refine st_skip rfl rfl (fun c h => by cases h) (h_store (ys := []) (zs := [.int .i64 0, .pointer none, .int .i64 0, .slice none 0 0]) (us := []) (vs := [.int .i64 r.id, .pointer (some ⟨b', o', none⟩), .int .i64 f9, h9]) (z := 4) rfl (by kernel_rfl) rfl (World.alloc_heap_new _ _) rfl rfl rfl rfl (fun u hu => by
      simp only [List.mem_cons, List.not_mem_nil, or_false] at hu
      rcases hu with rfl | rfl | rfl | rfl <;> first | rfl | exact h91)) ?_
    rw [hW1, ← hA1]
    refine ⟨hA1b, ?_⟩
    rw [← hA']
    refine wpIn_block (wpIn_seq (wpIn_region_lit ?_))
    refine st_val rfl (fun c h => by cases h) (h_field (b := A.heap.size) (off := 0) rfl Try.underlying105 rfl (z := 1) (by kernel_rfl) rfl rfl) ?_
    simp only [Act.put, List.setIfInBounds_toArray, List.set_cons_zero, List.set_cons_succ]
    refine st_val rfl (fun c h => by cases h) (h_load (b := A.heap.size) (off := 1) (c := ptrV b' o') (z := 1) (ds := _) rfl Try.underlying85 (by kernel_rfl) rfl (ld_cells hbox (xs := [.pointer (some ⟨b', o', none⟩)]) (rep_sc.2 ⟨rfl, rfl⟩) (fun i hi => by rw [i01 hi]; rfl)) rfl rfl (fun u hu => (vrep_sc.1 hu).1)) ?_
    simp only [Act.put, List.setIfInBounds_toArray, List.set_cons_zero, List.set_cons_succ]
    refine st_val rfl (fun c h => by cases h) (h_field (b := A.heap.size) (off := 0) rfl Try.underlying105 rfl (z := 2) (by kernel_rfl) rfl rfl) ?_
    simp only [Act.put, List.setIfInBounds_toArray, List.set_cons_zero, List.set_cons_succ]
    refine st_val rfl (fun c h => by cases h) (h_load (b := A.heap.size) (off := 2) (c := .row [.i f9, .sc h9]) (z := 2) (ds := _) rfl Try.underlying37 (by kernel_rfl) rfl (ld_cells hbox (xs := [.int .i64 f9, h9]) (rep_row.2 ⟨[.int .i64 f9], [h9], rfl, rep_int _ _, [h9], [], rfl, rep_sc.2 ⟨rfl, h91⟩, rfl⟩) (fun i hi => by
      have : i = 0 ∨ i = 1 := by simp at hi; omega
      rcases this with rfl | rfl <;> rfl)) rfl rfl (v := .agg #[.int .i64 f9, h9]) (fun u hu => by
      obtain ⟨xs2, rfl, y1, z1, q1, q2, y2, z2, q3, q4, q5⟩ := vrep_row.1 hu
      have q5 : z2 = [] := q5
      subst q5
      obtain ⟨rfl, _⟩ := rep_sc.1 q2
      obtain ⟨rfl, _⟩ := rep_sc.1 q4
      rw [q1, q3]
      rfl)) ?_
    simp only [Act.put, List.setIfInBounds_toArray, List.set_cons_zero, List.set_cons_succ]
    refine st_val rfl (fun c h => by cases h) (h_nil (b := b') (off := o') rfl rfl) ?_
    simp only [Act.put, List.setIfInBounds_toArray, List.set_cons_zero, List.set_cons_succ]
    refine st_skip rfl rfl (fun c h => by cases h) (h_store (g := b') (q := o') (vs := [.int .i64 f9, h9]) (z := 2) rfl (by kernel_rfl) rfl hcur (by rw [List.length_take]; omega) rfl (by rw [List.length_take, List.length_drop]; show 2 = _; omega) rfl (fun u hu => by
      simp only [List.mem_cons, List.not_mem_nil, or_false] at hu
      rcases hu with rfl | rfl <;> first | rfl | exact h91)) ?_
    obtain ⟨W3, hW3⟩ : ∃ W3, W3 = A'.setRow b' (cur.toList.take o' ++ [Value.int .i64 f9, h9] ++ cur.toList.drop (o' + 2)).toArray := ⟨_, rfl⟩
    rw [← hW3]
    have hb3 : W3.heap[b']? = some (.cells (cur.toList.take o' ++ [Value.int .i64 f9, h9] ++ cur.toList.drop (o' + 2)).toArray ty (0, 0)) := by rw [hW3]; exact setRow_heap _ _ _ _ _ _ hcur
    have hk3 : ∀ k, k ≠ b' → W3.heap[k]? = A'.heap[k]? := fun k hk => by rw [hW3]; exact setRow_other _ _ _ _ hk
    have hbox3 := (hk3 A.heap.size (by omega)).trans hbox
    have h23 : W3.heap[w.heap.size]? = some (.cells ([] ++ [Value.int .i64 0] ++ []).toArray 3 (0, 0)) := (hk3 _ (by omega)).trans ((hkA _ (by omega) (by omega)).trans ((hA.block _ (by omega)).trans hbx2))
    have h33 : W3.heap[w.heap.size + 1]? = some (.cells ([] ++ [Value.bool false] ++ []).toArray 4 (0, 0)) := (hk3 _ (by omega)).trans ((hkA _ (by omega) (by omega)).trans ((hA.block _ (by omega)).trans hbx3))
    show Code.wpIn _ _ _ _ _ _ _
    refine wpIn_seq (wpIn_region_lit ?_)
    refine st_val rfl (fun c h => by cases h) (h_field (b := A.heap.size) (off := 0) rfl Try.underlying105 rfl (z := 1) (by kernel_rfl) rfl rfl) ?_
    simp only [Act.put, List.setIfInBounds_toArray, List.set_cons_zero, List.set_cons_succ]
    refine st_val rfl (fun c h => by cases h) (h_load (b := A.heap.size) (off := 0) (c := .i r.id) (z := 1) (ds := _) rfl Try.underlying3 (by kernel_rfl) rfl (ld_cells hbox3 (xs := [.int .i64 r.id]) (rep_sc.2 ⟨rfl, rfl⟩) (fun i hi => by rw [i01 hi]; rfl)) rfl rfl (fun u hu => (vrep_sc.1 hu).1)) ?_
    simp only [Act.put, List.setIfInBounds_toArray, List.set_cons_zero, List.set_cons_succ]
    refine st_skip rfl rfl (fun c h => by cases h) (h_store (g := w.heap.size) (q := 0) (vs := [.int .i64 r.id]) (z := 1) rfl (by kernel_rfl) rfl h23 rfl rfl rfl rfl (by simp [Value.oneCell'])) ?_
    obtain ⟨W4, hW4⟩ : ∃ W4, W4 = W3.setRow w.heap.size ([] ++ [Value.int .i64 r.id] ++ []).toArray := ⟨_, rfl⟩
    rw [← hW4]
    have hb4 : W4.heap[w.heap.size]? = some (.cells #[.int .i64 r.id] 3 (0, 0)) := by rw [hW4]; exact setRow_heap _ _ _ _ _ _ h23
    have hk4 : ∀ k, k ≠ w.heap.size → W4.heap[k]? = W3.heap[k]? := fun k hk => by rw [hW4]; exact setRow_other _ _ _ _ hk
    have h34 := (hk4 (w.heap.size + 1) (by omega)).trans h33
    refine st_skip rfl rfl (fun c h => by cases h) (h_store (g := w.heap.size + 1) (q := 0) (vs := [.bool true]) (z := 1) rfl (by kernel_rfl) rfl h34 rfl rfl rfl rfl (by simp [Value.oneCell'])) ?_
    obtain ⟨W5, hW5⟩ : ∃ W5, W5 = W4.setRow (w.heap.size + 1) ([] ++ [Value.bool true] ++ []).toArray := ⟨_, rfl⟩
    rw [← hW5]
    have hb5 : W5.heap[w.heap.size + 1]? = some (.cells #[.bool true] 4 (0, 0)) := by rw [hW5]; exact setRow_heap _ _ _ _ _ _ h34
    have hk5 : ∀ k, k ≠ w.heap.size + 1 → W5.heap[k]? = W4.heap[k]? := fun k hk => by rw [hW5]; exact setRow_other _ _ _ _ hk
    have hk : ∀ k, k ≠ b' → k ≠ w.heap.size → k ≠ w.heap.size + 1 → W5.heap[k]? = A'.heap[k]? := fun k e1 e2 e3 => (hk5 k e3).trans ((hk4 k e2).trans (hk3 k e1))
    show Code.wpIn _ _ _ _ _ _ _
    refine wpIn_ret ⟨rfl, ⟨by rw [hW5, hW4, hW3]; exact ⟨rfl, rfl, rfl⟩, by rw [hW5, hW4, hW3]; simp, fun k hx hkl => hk k (fun e => hx (.inl ⟨p, o', y, h1, by rw [e]; exact h2⟩)) (fun e => hx (.inr (.inl e))) (fun e => hx (.inr (.inr e))), ?_⟩⟩
    rw [hGd]
    have hxsb : ∀ k ∈ xs.bl, wl.heap.size ≤ k ∧ k < A.heap.size := fun k hkb => by
      obtain ⟨q1, q, q2⟩ := k2.lt k hkb
      exact ⟨q2.2, q1⟩
    refine ⟨p, b', o', y, r, ⟨f9, xs.a, xs.c, xs.l⟩, h1, h2, h3, by rw [XT.tm_eq, hf9]; show Tm.mk _ (xs.l.map XT.tm) = _; rw [hcvs]; exact tm_eta17 _, ?_, ?_, ⟨fun k hkl hne => (hk k hne (by omega) (by omega)).trans (hkw k hkl), cur, ty, g4, ?_⟩, (hk5 _ (by omega)).trans hb4, hb5⟩
    · have h5 : XR (fun k _ => w.heap.size ≤ k) W5 xs := k2.keepB fun k q v hkb hu hcell => by
        obtain ⟨q1, q2⟩ := hxsb k hkb
        refine ⟨by omega, ?_⟩
        have hnL : k ≠ wl.heap.size + 1 := fun e => by
          subst e
          simp [World.cell?, hL] at hcell
        rw [cellH ((hk k (by omega) (by omega) (by omega)).trans (hkA k hnL q2))]
        exact hcell
      rw [xr_iff] at h5 ⊢
      exact h5
    · have h6 := k3
      rw [XT.bl_eq] at h6 ⊢
      exact h6
    · rw [hk5 b' (by omega), hk4 b' (by omega), hb3]
      congr 2
      apply Array.ext'
      rw [set2_at _ _ o' cur.toList hol]
      show _ = ((cur.setIfInBounds o' (.int .i64 f9)).setIfInBounds (o' + 1) (XT.mk f9 xs.a xs.c xs.l).h).toList
      rw [hh9]
      simp [XT.h]
  case done =>
    intro hb W hW hD
    refine hK9 _ _ (wpIn_n (n := 1) (wpIn_seq (wpIn_region_lit ?_)))
    have h2 : W.heap[w.heap.size]? = some (.cells ([] ++ [Value.int .i64 0] ++ []).toArray 3 (0, 0)) := (hW.block _ (by omega)).trans hbx2
    have h3 : W.heap[w.heap.size + 1]? = some (.cells ([] ++ [Value.bool false] ++ []).toArray 4 (0, 0)) := (hW.block _ (by omega)).trans hbx3
    refine st_skip (ro := none) rfl rfl (fun c h => by cases h) (h_store (g := w.heap.size) (q := 0) (vs := [.int .i64 0]) (z := 1) rfl (by kernel_rfl) rfl h2 rfl rfl rfl rfl (by simp [Value.oneCell'])) ?_
    have e2 : W.setRow w.heap.size ([] ++ [Value.int .i64 0] ++ []).toArray = W := setRow_self _ _ _ _ _ h2
    rw [e2]
    refine st_skip (ro := none) rfl rfl (fun c h => by cases h) (h_store (g := w.heap.size + 1) (q := 0) (vs := [.bool false]) (z := 1) rfl (by kernel_rfl) rfl h3 rfl rfl rfl rfl (by simp [Value.oneCell'])) ?_
    have e3 : W.setRow (w.heap.size + 1) ([] ++ [Value.bool false] ++ []).toArray = W := setRow_self _ _ _ _ _ h3
    rw [e3]
    show Code.wpIn _ _ _ _ _ _ _
    have hDl := (Array.getElem?_eq_some_iff.1 hD).1
    refine wpIn_ret ⟨.inr rfl, wl.heap.size, rfl, hD, .tuple #[.int .i64 0, .bool false], results_first (g := w.heap.size) rfl rfl ((World.putObj_heap_other (by omega)).trans h2) ((World.putObj_heap_other (by omega)).trans h3), fun _ => ⟨rfl, ?_⟩, fun h => ?_⟩
    · have h5 : Below w.heap.size w W := hb0.trans (hW.mono hb0.size)
      exact ⟨h5.os, h5.tape, h5.output, by rw [World.putObj_size]; exact h5.size, fun k hk => (World.putObj_heap_other (by omega)).trans (h5.block k hk)⟩
    · rw [hb] at h
      cases h
  case stop =>
    rintro hb W ⟨⟨k1, k2, k3⟩, hWs, hW, hGW⟩ hD
    have hGW2 := hG.book _ _ _ (.deferred none) (by omega) hD rfl rfl hGW
    rw [hGd] at hGW2
    obtain ⟨p, b', o', y, r, xs, g1, g2, g3, g4, g5, g6, g7, g8, g9⟩ := hGW2
    refine ⟨.inr rfl, wl.heap.size, rfl, hD, .tuple #[.int .i64 r.id, .bool true], results_first (g := w.heap.size) rfl rfl g8 g9, fun h => ?_, fun _ => ⟨p, b', o', y, r, xs, g1, g2, g3, rfl, g4, g5, g6, g7, k1.trans hb0.os, k2.trans hb0.tape, k3.trans hb0.output, ?_⟩⟩
    · rw [hb] at h
      cases h
    · rw [World.putObj_size]; omega
end Go.Proofs.Ytekboofbedakcaa
namespace Go.Proofs.Ytekboofbedakcaa
open Go.RowKit
set_option linter.unusedVariables false
set_option linter.unusedSimpArgs false
def atN : Tm → List Nat → Option Tm
  | t, [] => some t
  | t, i :: p => match t.l[i]? with
    | some s => atN s p
    | none => none
def puN : Tm → List Nat → Tm → Tm
  | _, [], u => u
  | t, i :: p, u => match t.l[i]? with
    | some s => ⟨t.f, t.l.set i (puN s p u)⟩
    | none => t
theorem adr_tm : ∀ {p : List Nat} {x : XT} {b off b' o' : Nat} {y : XT}, x.adr b off p = some (b', o', y) → atN x.tm p = some y.tm
  | [], x, b, off, b', o', y, h => by
    rw [XT.adr] at h
    cases h
    rfl
  | i :: p, x, b, off, b', o', y, h => by
    rw [XT.adr] at h
    split at h
    · rename_i z ad hz ha
      rw [atN, XT.tm_l, List.getElem?_map, hz]
      exact adr_tm h
    · cases h
theorem adr_of : ∀ {p : List Nat} {x : XT} {b off : Nat} {U : Nat → Nat → Prop} {w : World} {y : Tm}, XR U w x → atN x.tm p = some y → ∃ b' o' z, x.adr b off p = some (b', o', z) ∧ z.tm = y
  | [], x, b, off, U, w, y, h, e => by
    rw [atN] at e
    cases e
    exact ⟨b, off, x, rfl, rfl⟩
  | i :: p, x, b, off, U, w, y, h, e => by
    rw [atN, XT.tm_l, List.getElem?_map] at e
    cases hz : x.l[i]? with
    | none => rw [hz] at e; cases e
    | some z =>
      rw [hz] at e
      have e : atN z.tm p = some y := e
      obtain ⟨⟨_, _, _, g, o1, h4, _⟩, h6⟩ := xr_iff.1 h
      have ha := h4 (fun e => by rw [e] at hz; simp at hz)
      obtain ⟨b', o', z', h7, h8⟩ := adr_of (b := g) (off := o1 + 2 * i) (h6 z (List.mem_of_getElem? hz)) e
      exact ⟨b', o', z', by rw [XT.adr_cons hz ha]; exact h7, h8⟩
theorem fst1_spec (hit : Tm → Bool) : ∀ {t : Tm} {p : List Nat}, fst1 hit t = some p → ∃ y, atN t p = some y ∧ 0 ≤ y.f ∧ hit y = true := by
  intro t
  induction t using Tm.ind with
  | h f l ih =>
    intro p h
    rw [fst1_eq] at h
    split at h
    · cases h
    rename_i hf
    split at h
    · rename_i hh
      cases h
      exact ⟨_, rfl, by have hf : ¬ f < 0 := hf; show 0 ≤ f; omega, hh⟩
    have key : ∀ (l' : List Tm) (n : Nat), (∀ s ∈ l', s ∈ l) → fstL n (l'.map (fst1 hit)) = some p → ∃ i q s, p = (n + i) :: q ∧ l'[i]? = some s ∧ fst1 hit s = some q := by
      intro l'
      induction l' with
      | nil => intro n _ h; simp [fstL] at h
      | cons s l' ih2 =>
        intro n hm h
        rw [List.map_cons] at h
        cases hs : fst1 hit s with
        | some q =>
          rw [hs, fstL] at h
          cases h
          exact ⟨0, q, s, rfl, rfl, hs⟩
        | none =>
          rw [hs, fstL] at h
          obtain ⟨i, q, s', h1, h2, h3⟩ := ih2 (n + 1) (fun s hs => hm s (List.mem_cons_of_mem _ hs)) h
          exact ⟨i + 1, q, s', by rw [h1]; congr 1; omega, by simpa using h2, h3⟩
    obtain ⟨i, q, s, h1, h2, h3⟩ := key l 0 (fun _ h => h) h
    obtain ⟨y, h4, h5⟩ := ih s (List.mem_of_getElem? h2) h3
    refine ⟨y, ?_, h5⟩
    rw [h1, atN, Nat.zero_add]
    show (match l[i]? with | some s => atN s q | none => none) = _
    rw [h2]
    exact h4
theorem strip_kid {t s : Tm} (h : t.strip = t) (hs : s ∈ t.l) : s.strip = s ∧ s ∈ t.ps := by
  rw [Tm.strip_eq] at h
  have h2 : t.ps.map Tm.strip = t.l := by
    have := congrArg Tm.l h
    exact this
  have hlen : t.ps = t.l := by
    unfold Tm.ps at h2 ⊢
    split
    · rename_i hf
      rw [if_pos hf] at h2
      exact h2
    · rfl
  rw [hlen] at h2 ⊢
  have : ∀ l : List Tm, l.map Tm.strip = l → ∀ s ∈ l, s.strip = s := by
    intro l
    induction l with
    | nil => intro _ s hs; cases hs
    | cons a l ih =>
      intro e s hs
      rw [List.map_cons] at e
      injection e with e1 e2
      rcases List.mem_cons.1 hs with rfl | hs
      · exact e1
      · exact ih e2 s hs
  exact ⟨this t.l h2 s hs, hs⟩
theorem atN_facts : ∀ {p : List Nat} {t y : Tm}, t.strip = t → t.rng → atN t p = some y → y.strip = y ∧ y.rng ∧ y.size ≤ t.size
  | [], t, y, h1, h2, e => by
    rw [atN] at e
    cases e
    exact ⟨h1, h2, Nat.le_refl _⟩
  | i :: p, t, y, h1, h2, e => by
    rw [atN] at e
    split at e
    · rename_i s hs
      have hm := List.mem_of_getElem? hs
      obtain ⟨k1, k2⟩ := strip_kid h1 hm
      obtain ⟨k3, k4, k5⟩ := atN_facts k1 (((Tm.rng_iff _).1 h2).2 s hm) e
      have := Tm.size_part k2
      exact ⟨k3, k4, by omega⟩
    · cases e
theorem adr_bl : ∀ {p : List Nat} {x : XT} {b off b' o' : Nat} {y : XT}, x.adr b off p = some (b', o', y) → (p = [] ∧ b' = b ∧ o' = off) ∨ (p ≠ [] ∧ b' ∈ x.bl)
  | [], x, b, off, b', o', y, h => by
    rw [XT.adr] at h
    cases h
    exact .inl ⟨rfl, rfl, rfl⟩
  | i :: p, x, b, off, b', o', y, h => by
    refine .inr ⟨by simp, ?_⟩
    rw [XT.adr] at h
    split at h
    · rename_i z ad hz ha
      rw [XT.bl_eq, List.mem_append]
      rcases adr_bl h with ⟨_, h1, _⟩ | ⟨_, h1⟩
      · left
        unfold XT.bb
        rw [ha]
        cases hl : x.l with
        | nil => rw [hl] at hz; simp at hz
        | cons _ _ => simp [h1]
      · exact .inr (List.mem_flatMap.2 ⟨z, List.mem_of_getElem? hz, h1⟩)
    · cases h
theorem bl_nodup_kid {x z : XT} {i : Nat} (hz : x.l[i]? = some z) {ad : Addr} (ha : x.a = some ad) (h : x.bl.Nodup) : (ad.block :: z.bl).Nodup ∧ ∀ j y, x.l[j]? = some y → j ≠ i → ∀ b ∈ y.bl, b ≠ ad.block ∧ b ∉ z.bl := by
  rw [XT.bl_eq, List.nodup_append] at h
  obtain ⟨_, h2, h3⟩ := h
  have hbb : ad.block ∈ x.bb := by
    unfold XT.bb
    rw [ha]
    cases hl : x.l with
    | nil => rw [hl] at hz; simp at hz
    | cons _ _ => simp
  have hnd : ∀ y ∈ x.l, y.bl.Nodup := fun y hy => by
    have : ∀ l : List XT, (l.flatMap XT.bl).Nodup → ∀ y ∈ l, y.bl.Nodup := by
      intro l
      induction l with
      | nil => intro _ y hy; cases hy
      | cons a l ih =>
        intro h y hy
        rw [List.flatMap_cons, List.nodup_append] at h
        rcases List.mem_cons.1 hy with rfl | hy
        · exact h.1
        · exact ih h.2.1 y hy
    exact this _ h2 y hy
  have hdis : ∀ (l : List XT), (l.flatMap XT.bl).Nodup → ∀ (i j : Nat) (y z : XT), l[i]? = some z → l[j]? = some y → j ≠ i → ∀ b ∈ y.bl, b ∉ z.bl := by
    intro l
    induction l with
    | nil => intro _ i j y z h; simp at h
    | cons a l ih =>
      intro h i j y z hi hj hne b hb hbz
      rw [List.flatMap_cons, List.nodup_append] at h
      match i, j with
      | 0, 0 => exact hne rfl
      | 0, j + 1 =>
        simp only [List.getElem?_cons_zero, Option.some.injEq] at hi
        subst hi
        exact h.2.2 b hbz b (List.mem_flatMap.2 ⟨y, List.mem_of_getElem? (by simpa using hj), hb⟩) rfl
      | i + 1, 0 =>
        simp only [List.getElem?_cons_zero, Option.some.injEq] at hj
        subst hj
        exact h.2.2 b hb b (List.mem_flatMap.2 ⟨z, List.mem_of_getElem? (by simpa using hi), hbz⟩) rfl
      | i + 1, j + 1 => exact ih h.2.1 i j y z (by simpa using hi) (by simpa using hj) (by omega) b hb hbz
  refine ⟨List.nodup_cons.2 ⟨fun hb => h3 _ hbb _ (List.mem_flatMap.2 ⟨z, List.mem_of_getElem? hz, hb⟩) rfl, hnd z (List.mem_of_getElem? hz)⟩, fun j y hy hne b hb => ⟨fun e => h3 _ hbb _ (List.mem_flatMap.2 ⟨y, List.mem_of_getElem? hy, hb⟩) e.symm, hdis _ h2 i j y z hz hy hne b hb⟩⟩
theorem store_x {n : Nat} {w V : World} : ∀ (p : List Nat) (x : XT) (b off b' o' : Nat) (y xs : XT), XAt (fun k _ => n ≤ k) w b off x → (b :: x.bl).Nodup → x.adr b off p = some (b', o', y) → StG w b' o' xs.f xs.h V → XR (fun k _ => n ≤ k) V xs → ∃ x', x'.tm = puN x.tm p xs.tm ∧ XAt (fun k _ => n ≤ k) V b off x' ∧ ∀ k ∈ x'.bl, k ∈ x.bl ∨ k ∈ xs.bl
  | [], x, b, off, b', o', y, xs, hx, hnd, ha, hst, hxs => by
    rw [XT.adr] at ha
    cases ha
    obtain ⟨h1, cur, ty, h2, h3⟩ := hst
    have hq0 : cur[off]? = some (.int .i64 x.f) := by have := hx.2.1.2; simpa [World.cell?, h2] using this
    have hq1 : cur[off + 1]? = some x.h := by have := hx.2.2.2; simpa [World.cell?, h2] using this
    have l1 := (Array.getElem?_eq_some_iff.1 hq0).1
    have l2 := (Array.getElem?_eq_some_iff.1 hq1).1
    refine ⟨xs, rfl, ⟨hxs, ⟨hx.2.1.1, ?_⟩, hx.2.2.1, ?_⟩, fun k hk => .inr hk⟩
    · simp [World.cell?, h3, Array.getElem?_setIfInBounds, l1]
    · simp [World.cell?, h3, Array.getElem?_setIfInBounds, l2]
  | i :: p, x, b, off, b', o', y, xs, hx, hnd, ha, hst, hxs => by
    have hbl := adr_bl ha
    rw [XT.adr] at ha
    split at ha
    · rename_i z ad hz had
      obtain ⟨g, o1, h1, h2⟩ := hx.child hz
      rw [had] at h1
      cases h1
      rw [List.nodup_cons] at hnd
      obtain ⟨k1, k2⟩ := bl_nodup_kid hz had hnd.2
      have hne : b ≠ b' := by
        rcases hbl with ⟨e, _⟩ | ⟨_, hb⟩
        · cases e
        · exact fun e => hnd.1 (e ▸ hb)
      obtain ⟨z', q1, q2, q3⟩ := store_x p z g (o1 + 2 * i) b' o' y xs h2 k1 ha hst hxs
      have hbz := adr_bl ha
      have hil : i < x.l.length := by
        rcases Nat.lt_or_ge i x.l.length with h | h
        · exact h
        · rw [List.getElem?_eq_none h] at hz; cases hz
      obtain ⟨s1, cur, ty, s2, s3⟩ := hst
      have hblk : ∀ k, k ≠ b' → k < w.heap.size → V.heap[k]? = w.heap[k]? := fun k e hk => s1 k hk e
      refine ⟨⟨x.f, x.a, x.c, x.l.set i z'⟩, ?_, ⟨?_, ?_, ?_⟩, ?_⟩
      · rw [XT.tm_eq, puN, XT.tm_l, List.getElem?_map, hz]
        show Tm.mk x.f ((x.l.set i z').map XT.tm) = Tm.mk x.tm.f ((x.l.map XT.tm).set i (puN z.tm p xs.tm))
        rw [XT.tm_f, List.map_set, q1]
      · obtain ⟨⟨c1, c2, c3, g', o1', c4, c5⟩, c6⟩ := xr_iff.1 hx.1
        have c4' := c4 (fun e => by rw [e] at hz; simp at hz)
        rw [had] at c4'
        cases c4'
        rw [xr_iff]
        refine ⟨⟨by show (x.l.set i z').length ≤ x.c; rw [List.length_set]; exact c1, c2, fun h => by have := c3 h; rw [List.length_set]; exact this, g, o1, fun _ => had, fun j u hu => ?_⟩, fun u hu => ?_⟩
        · have hu : (x.l.set i z')[j]? = some u := hu
          by_cases hji : j = i
          · subst hji
            rw [List.getElem?_set_self hil] at hu
            cases hu
            exact ⟨q2.2.1, by rw [← Nat.add_assoc]; exact q2.2.2⟩
          · rw [List.getElem?_set_ne (fun e => hji e.symm)] at hu
            obtain ⟨⟨d1, d2⟩, d3, d4⟩ := c5 j u hu
            have hcell : ∀ o v, w.cell? ⟨g, o, none⟩ = some v → (g = b' → o ≠ o' ∧ o ≠ o' + 1) → V.cell? ⟨g, o, none⟩ = some v := fun o v hc hoo => by
              by_cases hg : g = b'
              · subst hg
                obtain ⟨e1, e2⟩ := hoo rfl
                simp only [World.cell?, s2] at hc
                simp only [World.cell?, s3]
                have hc : cur[o]? = some v := by simpa using hc
                simp [Array.getElem?_setIfInBounds, Ne.symm e1, Ne.symm e2, hc]
              · rw [cellH (hblk g hg (World.block_lt_of_cell? w _ hc))]; exact hc
            have hoo : g = b' → o' = o1 + 2 * i := fun e => by
              rcases hbz with ⟨_, _, h⟩ | ⟨_, h⟩
              · exact h
              · rw [List.nodup_cons] at k1
                exact absurd (e ▸ h) k1.1
            exact ⟨⟨d1, hcell _ _ d2 fun e => by have := hoo e; omega⟩, d3, hcell _ _ d4 fun e => by have := hoo e; omega⟩
        · have hu : u ∈ x.l.set i z' := hu
          obtain ⟨j, hj⟩ := List.getElem?_of_mem hu
          by_cases hji : j = i
          · subst hji
            rw [List.getElem?_set_self hil] at hj
            cases hj
            exact q2.1
          · rw [List.getElem?_set_ne (fun e => hji e.symm)] at hj
            refine (c6 u (List.mem_of_getElem? hj)).keepB fun k o v hk hu hc => ⟨hu, ?_⟩
            obtain ⟨e1, e2⟩ := k2 j u hj hji k hk
            have : k ≠ b' := by
              rcases hbz with ⟨_, h, _⟩ | ⟨_, h⟩
              · rw [h]; exact e1
              · exact fun e => e2 (e ▸ h)
            rw [cellH (hblk k this (World.block_lt_of_cell? w _ hc))]
            exact hc
      · refine ⟨hx.2.1.1, ?_⟩
        rw [cellH (hblk b hne (World.block_lt_of_cell? w _ hx.2.1.2))]
        exact hx.2.1.2
      · refine ⟨hx.2.2.1, ?_⟩
        rw [cellH (hblk b hne (World.block_lt_of_cell? w _ hx.2.2.2))]
        have := hx.2.2.2
        unfold XT.h at this ⊢
        rw [List.length_set]
        exact this
      · intro k hk
        rw [XT.bl_eq, List.mem_append, List.mem_flatMap] at hk
        rw [XT.bl_eq, List.mem_append, List.mem_flatMap]
        rcases hk with hk | ⟨u, hu, hk⟩
        · left; left
          unfold XT.bb at hk ⊢
          have hk : k ∈ (match x.a, x.l.set i z' with | some ad, _ :: _ => [ad.block] | _, _ => []) := hk
          rw [had] at hk ⊢
          cases hl : x.l with
          | nil => rw [hl] at hz; simp at hz
          | cons u0 us0 =>
            cases hl2 : x.l.set i z' with
            | nil => rw [hl2] at hk; cases hk
            | cons _ _ => rw [hl2] at hk; exact hk
        · have hu : u ∈ x.l.set i z' := hu
          obtain ⟨j, hj⟩ := List.getElem?_of_mem hu
          by_cases hji : j = i
          · subst hji
            rw [List.getElem?_set_self hil] at hj
            cases hj
            rcases q3 k hk with h | h
            · exact .inl (.inr ⟨z, List.mem_of_getElem? hz, h⟩)
            · exact .inr h
          · rw [List.getElem?_set_ne (fun e => hji e.symm)] at hj
            exact .inl (.inr ⟨u, List.mem_of_getElem? hj, hk⟩)
    · cases ha
end Go.Proofs.Ytekboofbedakcaa
namespace Go.Proofs.Ytekboofbedakcaa
open Go.RowKit
set_option linter.unusedVariables false
set_option linter.unusedSimpArgs false
set_option maxRecDepth 100000
noncomputable def trm (R : List RuT) (t : Tm) : Option (Tm × Int) := match fst1 (hitR R) t with
  | none => none
  | some p => match atN t p with
    | none => none
    | some y => match R.find? (fun r => (mt r.a y []).1) with
      | none => none
      | some r => some (puN t p (usR r y), r.id)
theorem trm_none {R : List RuT} {t : Tm} (h : fst1 (hitR R) t = none) : trm R t = none := by unfold trm; rw [h]
theorem trm_some {R : List RuT} {t y : Tm} {p : List Nat} {r : RuT} (h : fst1 (hitR R) t = some p) (h2 : atN t p = some y) (h3 : R.find? (fun r => (mt r.a y []).1) = some r) : trm R t = some (puN t p (usR r y), r.id) := by
  unfold trm
  rw [h]
  simp only
  rw [h2]
  simp only
  rw [h3]
theorem results_term {tmps : Array Value} {w : World} {g : Nat} {x y u v : Value} (hp : tmps.getD 4 undef = .pointer (some ⟨g, 0, none⟩)) (h5 : tmps.getD 5 undef = u) (h6 : tmps.getD 6 undef = v) (hg : w.heap[g]? = some (.cells #[x, y] 37 (0, 0))) :
    (results Try.f11 tmps).run Try.prog w = .ok (.tuple #[.agg #[x, y], u, v]) w := by
  have hp' : tmps[4]?.getD undef = .pointer (some ⟨g, 0, none⟩) := by simpa using hp
  have h5' : tmps[5]?.getD undef = u := by simpa using h5
  have h6' : tmps[6]?.getD undef = v := by simpa using h6
  simp [results, hp', h5', h6', asAddr, run_loadVar_row w g _ 37 #[x, y] (0, 0) _ hg Try.underlying37 rfl info_tm_size]

theorem box17 {w1 : World} {g : Nat} {x y : Value} (h : w1.heap[g]? = some (.cells #[x, y] 37 (0, 0))) : (w1.cell? ⟨g, 0, none⟩ = some x ∧ w1.cell? ⟨g, 1, none⟩ = some y) ∧ (w1.frozen? ⟨g, 0, none⟩ = false ∧ w1.frozen? ⟨g, 1, none⟩ = false) := ⟨⟨by simp [World.cell?, h], by simp [World.cell?, h]⟩, frozen_box h⟩
set_option maxHeartbeats 4000000 in
theorem wTerm_abs (W : World) (R : List RuT) (hR : ∀ r ∈ R, RuOk r) (hRl : R.length ≤ 1000000) (t : Tm) (hr : t.rng) (hs : t.size ≤ 90000000000) :
    AFun Try.prog W 11 [.lst (R.map RuT.cv), t.cw] (match trm R t.strip with | none => .tup [t.strip.cw, .i 0, .b false] | some (s, id) => .tup [s.cw, .i id, .b true]) := by
  refine ⟨ent_of Try.func11 rfl rfl, by cases trm R t.strip <;> exact .inr rfl, by cases trm R t.strip <;> rfl, ?_⟩
  obtain ⟨rv, hrv⟩ : ∃ rv, rv = (match trm R t.strip with | none => AV.tup [t.strip.cw, .i 0, .b false] | some (s, id) => .tup [s.cw, .i id, .b true]) := ⟨_, rfl⟩
  rw [← hrv]
  have HRV := hid hrv
  clear hrv
  rintro U w vs _ ⟨u1, us1, rfl, h1, u2, us2, rfl, h2, h3⟩
  have h3 : us2 = [] := h3
  subst h3
  obtain ⟨a0, n0, c0, rfl, hn0, _⟩ := vrep_lst.1 h1
  rw [List.length_map] at hn0
  obtain ⟨a, n, c, rfl, hta⟩ := tat_of_vrep hr h2
  obtain ⟨w0, hw0⟩ : ∃ w0, w0 = (w.alloc (.cells #[.int .i64 t.f, .slice a n c] 37)).alloc (.cells #[.int .i64 0, .slice none 0 0] 37) := ⟨_, rfl⟩
  have hX0 : w0.heap[w.heap.size]? = some (.cells #[.int .i64 t.f, .slice a n c] 37 (0, 0)) := by
    rw [hw0, Below.heap_alloc _ _ _ (by simp)]
    exact World.alloc_heap_new _ _
  have hX1 : w0.heap[w.heap.size + 1]? = some (.cells #[.int .i64 0, .slice none 0 0] 37 (0, 0)) := by
    have h1 := World.alloc_heap_new (w.alloc (.cells #[.int .i64 t.f, .slice a n c] 37)) (.cells #[.int .i64 0, .slice none 0 0] 37)
    rw [World.size_alloc, ← hw0] at h1
    exact h1
  have hw0s : w0.heap.size = w.heap.size + 2 := by rw [hw0]; simp
  have HB0 : Hid (Below w.heap.size w w0) := by rw [hw0]; exact bA (bA (bW _) _) _
  have HX : Hid (∀ w1, Below w0.heap.size w0 w1 → w1.heap[w.heap.size]? = some (.cells #[.int .i64 t.f, .slice a n c] 37 (0, 0)) ∧ w1.heap[w.heap.size + 1]? = some (.cells #[.int .i64 0, .slice none 0 0] 37 (0, 0))) := fun w1 hb => ⟨(hb.block _ (by omega)).trans hX0, (hb.block _ (by omega)).trans hX1⟩
  have HCl : Hid (∀ w1, Below w0.heap.size w0 w1 → Calls Try.prog 31 #[.agg #[.int .i64 t.f, .slice a n c]] w1 (CloneX w1 t)) := fun w1 hb => cloneX_any t a n c w1 (hta.bw (bN HB0.out hb)) hs
  -- behind Clone
  have hP : ∀ (w1 : World) (x1 : XT) (a1 : Option Addr) (n1 c1 : Nat), Below w0.heap.size w0 w1 → x1.tm = t.strip → x1.f = t.f → x1.h = .slice a1 n1 c1 → XR (fun b _ => w0.heap.size ≤ b) w1 x1 → (∀ b ∈ x1.bl, Fz w1 b) →
      ∀ w2, w2 = ((w1.setCell ⟨w.heap.size, 0, none⟩ (.int .i64 t.f)).setCell ⟨w.heap.size, 1, none⟩ (.slice a1 n1 c1)) → Below w.heap.size w w2 ∧ w0.heap.size ≤ w2.heap.size ∧ XAt (fun b _ => w.heap.size ≤ b) w2 w.heap.size 0 x1 ∧ (∀ b ∈ w.heap.size :: x1.bl, Fz w2 b) ∧ w2.heap[w.heap.size + 1]? = some (.cells #[.int .i64 0, .slice none 0 0] 37 (0, 0)) := by
    intro w1 x1 a1 n1 c1 hb hxt hxf hxh hxr hxz w2 hw2
    have hk : ∀ k, k ≠ w.heap.size → w2.heap[k]? = w1.heap[k]? := fun k hk => by
      rw [hw2, Below.heap_setCell _ _ _ _ hk, Below.heap_setCell _ _ _ _ hk]
    have hbx : w2.heap[w.heap.size]? = some (.cells #[.int .i64 t.f, .slice a1 n1 c1] 37 (0, 0)) := by
      rw [hw2]; exact two_block (HX.out w1 hb).1 _ _
    have hs2 : w2.heap.size = w1.heap.size := by rw [hw2]; simp
    have hb1s := hb.size
    refine ⟨?_, by omega, ⟨hxr.keepB fun b o v hbb hu hc => ⟨by omega, ?_⟩, ⟨Nat.le_refl _, ?_⟩, Nat.le_refl _, ?_⟩, fun b hbb => ?_, ?_⟩
    · rw [hw2]
      exact ((bN HB0.out hb).setCell (p := ⟨w.heap.size, 0, none⟩) (Nat.le_refl _) _).setCell (p := ⟨w.heap.size, 1, none⟩) (Nat.le_refl _) _
    · have hne : b ≠ w.heap.size := by omega
      rw [cellH (hk b hne)]; exact hc
    · rw [hxf]; exact (box17 hbx).1.1
    · rw [hxh]; exact (box17 hbx).1.2
    · rcases List.mem_cons.1 hbb with rfl | hbb
      · exact ⟨_, _, hbx⟩
      · obtain ⟨_, _, q⟩ := hxr.lt b hbb
        exact (hxz b hbb).same (hk b (by omega))
    · rw [hk _ (by omega)]; exact (HX.out w1 hb).2
  have HP := hid hP
  clear hP
  have HU : Hid (∀ w2, Below w.heap.size w w2 → Calls Try.prog 33 #[.slice a0 n0 c0, .pointer (some ⟨w.heap.size, 0, none⟩)] w2 fun e w3 => ∃ v, e = .returned v ∧ VRep (fun _ _ => True) w3 (useV w.heap.size 0 R) v ∧ Below w2.heap.size w2 w3) := fun w2 hb => by
    refine ((wUses_abs w w.heap.size 0 R).2.2.2 (fun _ _ => True) w2 [_, _] trivial ⟨_, _, rfl, h1.keep fun b o v _ hc => ⟨trivial, by rw [cellH (hb.block b (World.block_lt_of_cell? w _ hc))]; exact hc⟩, _, _, rfl, vrep_sc.2 ⟨rfl, rfl⟩, rfl⟩).mono ?_
    rintro e w3 ⟨v, rfl, h4, h5⟩
    exact ⟨v, rfl, VRep.mono (fun _ _ _ => trivial) h4, h5⟩
  have hrs := rng_strip17 t hr
  have HF : Hid (∀ (x1 : XT) (w3 : World) (v3 : Value), x1.tm = t.strip → XAt (fun b _ => w.heap.size ≤ b) w3 w.heap.size 0 x1 → (w.heap.size :: x1.bl).Nodup → (∀ b ∈ w.heap.size :: x1.bl, Fz w3 b) → VRep (fun _ _ => True) w3 (useV w.heap.size 0 R) v3 → w.heap.size ≤ w3.heap.size →
      Calls Try.prog 32 #[v3] w3 fun e V => (fst1 (hitR R) t.strip = none → e = .returned (.tuple #[.int .i64 0, .bool false]) ∧ Below w3.heap.size w3 V) ∧ (∀ p, fst1 (hitR R) t.strip = some p → ∃ s id x', trm R t.strip = some (s, id) ∧ e = .returned (.tuple #[.int .i64 id, .bool true]) ∧ x'.tm = s ∧ XAt (fun b _ => w.heap.size ≤ b) V w.heap.size 0 x' ∧ (∀ k, k < w3.heap.size → k ∉ w.heap.size :: x1.bl → V.heap[k]? = w3.heap[k]?) ∧ (∀ k ∈ x'.bl, k ∈ x1.bl ∨ w3.heap.size ≤ k) ∧ V.os = w3.os ∧ V.tape = w3.tape ∧ V.output = w3.output ∧ w3.heap.size ≤ V.heap.size)) := fun x1 w3 v3 hxt hx hnd hfz hv3 hws => by
    have hx2 : XAt (fun _ _ => True) w3 w.heap.size 0 x1 := hx.keep fun _ _ _ _ hc => ⟨trivial, hc⟩
    refine (first_any R hR hRl x1 w.heap.size 0 (fst1 (hitR R) x1.tm).isNone _ w3 hx2 (fun p b' o' y hadr _ => ?_) rfl (fun p hp => ?_) v3 hv3).mono ?_
    · have h5 := adr_tm hadr
      rw [hxt] at h5
      obtain ⟨_, k2, k3⟩ := atN_facts (Tm.strip_strip t) hrs h5
      rw [Tm.strip_size] at k3
      exact ⟨k2, by omega⟩
    · obtain ⟨y, h5, h6, h7⟩ := fst1_spec _ hp
      obtain ⟨b', o', z, h8, rfl⟩ := adr_of (b := w.heap.size) (off := 0) hx.1 h5
      refine ⟨b', o', z, h8, by rw [← XT.tm_f]; exact h6, h7, hfz b' ?_⟩
      rcases adr_bl h8 with ⟨_, h9, _⟩ | ⟨_, h9⟩
      · rw [h9]; simp
      · exact List.mem_cons_of_mem _ h9
    · rintro e V ⟨k1, k2⟩
      rw [hxt] at k1 k2
      refine ⟨fun h => k1 (by rw [h]; rfl), fun p hp => ?_⟩
      obtain ⟨p', b', o', y, r, xs, g1, g2, g3, g4, g5, g6, g7, g8, g9, g10, g11, g12⟩ := k2 (by rw [hp]; rfl)
      rw [hp] at g1
      cases g1
      have h5 := adr_tm g2
      rw [hxt] at h5
      obtain ⟨x', q1, q2, q3⟩ := store_x p x1 w.heap.size 0 b' o' y xs hx hnd g2 g8 (g6.keep fun b o v hu hc => ⟨by omega, hc⟩)
      refine ⟨_, _, x', trm_some hp h5 g3, g4, by rw [q1, hxt, g5], q2, fun k hk hnk => g8.1 k hk fun e => hnk ?_, fun k hk => (q3 k hk).imp id fun h => (g6.lt k h).2.choose_spec, g9, g10, g11, g12⟩
      rw [e]
      rcases adr_bl g2 with ⟨_, h9, _⟩ | ⟨_, h9⟩
      · rw [h9]; simp
      · exact List.mem_cons_of_mem _ h9
  have HW := hid hw0
  clear hw0
  have hq : Below w0.heap.size w0 w0 := bW _
  obtain ⟨⟨c1, c2⟩, f1, f2⟩ := box17 (HX.out w0 hq).1
  obtain ⟨⟨c3, c4⟩, f3, f4⟩ := box17 (HX.out w0 hq).2
  go_enter Try.func11, Try.ntmps11
  go_wp2_with fail
  rw [← HW.out]
  go_wp2_with (first
    | (go_at_call 33; obtain ⟨w2, hw2⟩ : ∃ w2, w2 = ((w1.setCell ⟨w.heap.size, 0, none⟩ (.int .i64 t.f)).setCell ⟨w.heap.size, 1, none⟩ (.slice a1 n1 c1')) := ⟨_, rfl⟩; rw [← hw2]; obtain ⟨p1, p2, p3, p4, p5⟩ := HP.out w1 x1 a1 n1 c1' hb1 hxt hxf hxh hxr hxz w2 hw2; clear hw2; have hcl := HU.out w2 p1; simp only [hn0] at hcl; refine hcl.mono ?_; rintro e w3 ⟨v3, rfl, hv3, hb3⟩; dsimp only)
    | (go_at_call 31; refine (HCl.out _ hq).mono ?_; rintro e w1 ⟨x1, a1, n1, c1', hxt, hxf, hxh, rfl, hxr, hxn, hxz, hb1⟩; obtain ⟨⟨d1, d2⟩, g1, g2⟩ := box17 (HX.out w1 hb1).1; dsimp only))
  have hnd : (w.heap.size :: x1.bl).Nodup := List.nodup_cons.2 ⟨fun h => by
    obtain ⟨_, _, q⟩ := hxr.lt _ h
    omega, hxn⟩
  have hx3 : XAt (fun b _ => w.heap.size ≤ b) w3 w.heap.size 0 x1 := p3.keep fun b o v hu hc => ⟨hu, by rw [cellH (hb3.block b (World.block_lt_of_cell? w2 _ hc))]; exact hc⟩
  have hz3 : ∀ b ∈ w.heap.size :: x1.bl, Fz w3 b := fun b hb => (p4 b hb).bw hb3
  have hr3 : w3.heap[w.heap.size + 1]? = some (.cells #[.int .i64 0, .slice none 0 0] 37 (0, 0)) := (hb3.block _ (by omega)).trans p5
  have hb3' : Below w.heap.size w w3 := p1.trans (hb3.mono p1.size)
  have hs3 := hb3.size
  refine Calls.mono (HF.out x1 w3 v3 hxt hx3 hnd hz3 hv3 hb3'.size) ?_
  rintro e V ⟨k1, k2⟩
  have hnr : w.heap.size + 1 ∉ w.heap.size :: x1.bl := fun h => by
    rcases List.mem_cons.1 h with h | h
    · omega
    · obtain ⟨_, _, q⟩ := hxr.lt _ h
      omega
  cases hfst : fst1 (hitR R) t.strip with
  | none =>
    obtain ⟨rfl, hbV⟩ := k1 hfst
    clear k1 k2
    have hxV : XAt (fun b _ => w.heap.size ≤ b) V w.heap.size 0 x1 := hx3.keep fun b o v hu hc => ⟨hu, by rw [cellH (hbV.block b (World.block_lt_of_cell? w3 _ hc))]; exact hc⟩
    have hrV := (hbV.block _ (by omega)).trans hr3
    obtain ⟨⟨e3, e4⟩, i1, i2⟩ := box17 hrV
    have e1 := hxV.2.1.2
    have e2 := hxV.2.2.2
    rw [hxf] at e1
    rw [hxh] at e2
    rw [Nat.zero_add] at e2
    dsimp only
    go_wp2_with fail
    refine bodyPost_ret (results_term (u := .int .i64 0) (v := .bool false) (g := w.heap.size + 1) rfl rfl rfl (two_block hrV _ _)) rfl ?_
    have hrv := HRV.out
    rw [trm_none hfst] at hrv
    rw [hrv]
    refine ⟨_, rfl, ⟨[_, _, _], rfl, _, _, rfl, ?_, _, _, rfl, vrep_sc.2 ⟨rfl, rfl⟩, _, _, rfl, vrep_sc.2 ⟨rfl, rfl⟩, rfl⟩, ?_⟩
    · refine vrep_row.2 ⟨[.int .i64 t.f, .slice a1 n1 c1'], rfl, [.int .i64 t.f], [.slice a1 n1 c1'], rfl, by rw [Tm.strip_f]; exact rep_int _ _, [.slice a1 n1 c1'], [], rfl, ?_, rfl⟩
      rw [← hxt, XT.tm_l, ← cvs_tm, ← hxh]
      refine rep_of_xr (hxV.1.keepB fun b o v hbb hu hc => ⟨.inr hu, ?_⟩)
      obtain ⟨_, _, q⟩ := hxr.lt b hbb
      rw [cellH (by rw [Below.heap_setCell _ _ _ _ (by show b ≠ w.heap.size + 1; omega), Below.heap_setCell _ _ _ _ (by show b ≠ w.heap.size + 1; omega)] : _ = (V.heap[b]? : Option Obj))]
      exact hc
    · have h5 : Below w.heap.size w V := hb3'.trans (hbV.mono hb3'.size)
      exact (h5.setCell (p := ⟨w.heap.size + 1, 0, none⟩) (by show w.heap.size ≤ w.heap.size + 1; omega) _).setCell (p := ⟨w.heap.size + 1, 1, none⟩) (by show w.heap.size ≤ w.heap.size + 1; omega) _
  | some p =>
    obtain ⟨s, id, x', g1, rfl, g3, hxV, g5, gb, g6, g7, g8, g9⟩ := k2 p hfst
    clear k1 k2
    have hrV := (g5 _ (by omega) hnr).trans hr3
    obtain ⟨⟨e3, e4⟩, i1, i2⟩ := box17 hrV
    have e1 := hxV.2.1.2
    have e2 := hxV.2.2.2
    rw [Nat.zero_add] at e2
    obtain ⟨a9, n9, c9, h9⟩ : ∃ a n c, x'.h = .slice a n c := ⟨_, _, _, rfl⟩
    rw [h9] at e2
    dsimp only
    go_wp2_with fail
    refine bodyPost_ret (results_term (u := .int .i64 id) (v := .bool true) (g := w.heap.size + 1) rfl rfl rfl (two_block hrV _ _)) rfl ?_
    have hrv := HRV.out
    rw [g1] at hrv
    rw [hrv]
    refine ⟨_, rfl, ⟨[_, _, _], rfl, _, _, rfl, ?_, _, _, rfl, vrep_sc.2 ⟨rfl, rfl⟩, _, _, rfl, vrep_sc.2 ⟨rfl, rfl⟩, rfl⟩, ?_⟩
    · refine vrep_row.2 ⟨[.int .i64 x'.f, .slice a9 n9 c9], rfl, [.int .i64 x'.f], [.slice a9 n9 c9], rfl, by rw [← g3, XT.tm_f]; exact rep_int _ _, [.slice a9 n9 c9], [], rfl, ?_, rfl⟩
      rw [← g3, XT.tm_l, ← cvs_tm, ← h9]
      refine rep_of_xr (hxV.1.keepB fun b o v hbb hu hc => ⟨.inr hu, ?_⟩)
      have hne : b ≠ w.heap.size + 1 := by
        rcases gb b hbb with h | h
        · obtain ⟨_, _, q⟩ := hxr.lt b h
          omega
        · omega
      rw [cellH (by rw [Below.heap_setCell _ _ _ _ hne, Below.heap_setCell _ _ _ _ hne] : _ = (V.heap[b]? : Option Obj))]
      exact hc
    · have h5 : Below w.heap.size w V := ⟨g6.trans hb3'.os, g7.trans hb3'.tape, g8.trans hb3'.output, by have := hb3'.size; omega, fun k hk => (g5 k (by omega) fun h => by
        rcases List.mem_cons.1 h with h | h
        · omega
        · obtain ⟨_, _, q⟩ := hxr.lt _ h
          omega).trans (hb3'.block k hk)⟩
      exact (h5.setCell (p := ⟨w.heap.size + 1, 0, none⟩) (by show w.heap.size ≤ w.heap.size + 1; omega) _).setCell (p := ⟨w.heap.size + 1, 1, none⟩) (by show w.heap.size ≤ w.heap.size + 1; omega) _
end Go.Proofs.Ytekboofbedakcaa
namespace Go.Proofs.Ytekboofbedakcaa
open Go.RowKit
set_option linter.unusedVariables false
structure Lt where
  neg : Bool
  a : Tm
  b : Tm
noncomputable abbrev Lt.cw (l : Lt) : CV := .row [.b l.neg, l.a.cw, l.b.cw]
noncomputable def Lt.cv (l : Lt) : CV := l.cw
theorem Lt.size_all (c : List Lt) : ∀ x ∈ c.map Lt.cv, x.size = 5 := by
  intro x hx
  obtain ⟨l, _, rfl⟩ := List.mem_map.1 hx
  rfl
theorem Lt.map_at {c : List Lt} {i : Nat} {l : Lt} (h : c[i]? = some l) : (c.map Lt.cv)[i]? = some l.cw := by rw [List.getElem?_map, h]; rfl
def Lt.strip (l : Lt) : Lt := ⟨l.neg, l.a.strip, l.b.strip⟩
end Go.Proofs.Ytekboofbedakcaa
namespace Go.Proofs.Ytekboofbedakcaa
open Go.RowKit
set_option linter.unusedVariables false
set_option linter.unusedSimpArgs false
set_option maxRecDepth 100000
theorem cnt_vsK (l : List Tm) {v : Int} (hv : 0 ≤ v) : cntF (-1 - v) l = (vsL l).count v := by
  unfold cntF vsL
  induction l with
  | nil => rfl
  | cons t l ih =>
    rw [List.filter_cons, List.filter_cons]
    by_cases h : t.f = -1 - v
    · have h2 : t.f < 0 := by omega
      rw [if_pos (by simpa using h), if_pos (by simpa using h2), List.length_cons, ih, List.map_cons, List.count_cons]
      simp only [beq_iff_eq]
      rw [if_pos (by omega)]
    · rw [if_neg (by simpa using h)]
      by_cases h2 : t.f < 0
      · rw [if_pos (by simpa using h2), ih, List.map_cons, List.count_cons]
        simp only [beq_iff_eq]
        rw [if_neg (by omega)]
        rfl
      · rw [if_neg (by simpa using h2)]; exact ih
-- 
theorem rCount_abs (W : World) (t : Tm) (v : Int) (hr : t.rng) (hok : t.ok) (hts : t.size ≤ 90000000000) (hv : 0 ≤ v ∧ v ≤ 9223372036854775807) : AFun Try.prog W 81 [t.cw, .i v] (.val (.i (t.vs.count v : Nat))) := by
  rw [show t.vs.count v = cntF (-1 - v) t.flat from (cnt_vsK t.flat hv.1).symm]
  refine afun_of (rs := [.i (cntF (-1 - v) t.flat : Nat)]) Try.func81 Try.ntmps81 rfl rfl rfl rfl ?_
  intro w U hW
  refine aS (aR ?_)
  (refine nx (a_box (gN rfl) rfl rfl rfl rfl rfl) rfl ?_)
  (refine nx (aA (gN rfl) rfl rfl rfl rfl rfl) rfl ?_)
  show AWp _ _ _ _ _ _ _
  refine aS (aR ?_)
  (refine nx (aL (gN rfl) rfl rfl rfl rfl rfl rfl rfl rfl rfl rfl rfl rfl) rfl ?_)
  (refine nx (a_call (gN rfl) rfl rfl rfl rfl rfl (refFlat_abs w t hok hts)) rfl ?_)
  (refine nx (aA (gN rfl) rfl rfl rfl rfl rfl) rfl ?_)
  show AWp _ _ _ _ _ _ _
  unfold Tm.size at hts
  obtain ⟨l, hl⟩ : ∃ l, l = t.flat := ⟨_, rfl⟩
  rw [← hl] at hts ⊢
  have hsz := Tm.size_all l
  refine aS (aR ?_)
  (refine nx (aA (gN rfl) rfl rfl rfl rfl rfl) rfl ?_)
  show AWp _ _ _ _ _ _ _
  refine aS (aS (aR ?_))
  (refine nx (aA (gN rfl) rfl rfl rfl rfl rfl) rfl ?_)
  show AWp _ _ _ _ _ _ _
  refine aB (awp_count l.length (fun i => [(1, .val (.i v)), (5, .val (.lst (l.map Tm.cv))), (6, .val (.i (cntF (-1 - v) (l.take i) : Nat))), (7, .val (.i i))]) (wk_sub ⟨rfl, rfl, rfl, rfl, trivial⟩) ?_)
  intro i hi
  refine aS (aS (aR ?_))
  (refine nx (aM (gN rfl) rfl rfl rfl rfl rfl) rfl ?_)
  (refine nx (aM (gN rfl) rfl rfl rfl rfl rfl) rfl ?_)
  (refine nx (a_len (gN rfl) rfl rfl rfl rfl rfl rfl rfl) rfl ?_)
  (refine nx (a_lss (gN rfl) rfl rfl rfl rfl rfl rfl) rfl ?_)
  show AWp _ _ _ _ _ _ _
  refine aC rfl (fun hc => aK ?_) (fun hc => aE ?_)
  · have hil : i < l.length := by
      simp only [List.length_map, decide_eq_true_eq] at hc
      omega
    clear hc
    obtain ⟨s, hs⟩ : ∃ s, l[i]? = some s := ⟨l[i], List.getElem?_eq_getElem hil⟩
    have hs' := Tm.map_at hs
    have htk : l.take (i + 1) = l.take i ++ [s] := by rw [List.take_add_one, hs]; rfl
    have hcl := cntF_le (-1 - v) (l.take i)
    rw [List.length_take] at hcl
    show AWp _ _ _ _ _ _ _
    refine aS (aB (aS (aR ?_)))
    (refine nx (aM (gN rfl) rfl rfl rfl rfl rfl) rfl ?_)
    (refine nx (aM (gN rfl) rfl rfl rfl rfl rfl) rfl ?_)
    (refine nx (a_index (gN rfl) rfl rfl rfl rfl rfl rfl rfl rfl rfl (by assumption) rfl (by first | assumption | exact sZ rfl | exact Tm.size_all _ | exact Bd.size_all _ | exact ints_size _ | exact bys_size _ | exact Lt.size_all _)) rfl ?_)
    (refine nx (a_field_ad (gN rfl) rfl rfl rfl rfl rfl rfl rfl rfl rfl rfl rfl) rfl ?_)
    (refine nx (a_load_ad (gN rfl) rfl rfl rfl rfl rfl rfl rfl rfl rfl) rfl ?_)
    (refine nx (aM (gN rfl) rfl rfl rfl rfl rfl) rfl ?_)
    (refine nx (a_sub (gN rfl) rfl rfl rfl rfl rfl rfl (by first | omega | (simp only [List.length_map, List.length_append, List.length_cons, List.length_nil] <;> omega) | (simp <;> omega))) rfl ?_)
    (refine nx (a_eql (gN rfl) rfl rfl rfl rfl rfl rfl) rfl ?_)
    show AWp _ _ _ _ _ _ _
    refine aC rfl (fun hc => ?_) (fun hc => aK ?_)
    · have hsf : s.f = -1 - v := by simpa using hc
      refine aR ?_
      (refine nx (aM (gN rfl) rfl rfl rfl rfl rfl) rfl ?_)
      (refine nx (a_add (gN rfl) rfl rfl rfl rfl rfl rfl (by first | omega | (simp only [List.length_map, List.length_append, List.length_cons, List.length_nil] <;> omega) | (simp <;> omega))) rfl ?_)
      (refine nx (aA (gN rfl) rfl rfl rfl rfl rfl) rfl ?_)
      show AWp _ _ _ _ _ _ _
      refine aR ?_
      (refine nx (aM (gN rfl) rfl rfl rfl rfl rfl) rfl ?_)
      (refine nx (a_add (gN rfl) rfl rfl rfl rfl rfl rfl (by first | omega | (simp only [List.length_map, List.length_append, List.length_cons, List.length_nil] <;> omega) | (simp <;> omega))) rfl ?_)
      (refine nx (aA (gN rfl) rfl rfl rfl rfl rfl) rfl ?_)
      refine ⟨hil, wk_sub ⟨rfl, rfl, ?_, rfl, trivial⟩⟩
      rw [htk, cntF_snoc, if_pos hsf]
      rfl
    · have hsf : ¬ s.f = -1 - v := by simpa using hc
      show AWp _ _ _ _ _ _ _
      refine aR ?_
      (refine nx (aM (gN rfl) rfl rfl rfl rfl rfl) rfl ?_)
      (refine nx (a_add (gN rfl) rfl rfl rfl rfl rfl rfl (by first | omega | (simp only [List.length_map, List.length_append, List.length_cons, List.length_nil] <;> omega) | (simp <;> omega))) rfl ?_)
      (refine nx (aA (gN rfl) rfl rfl rfl rfl rfl) rfl ?_)
      refine ⟨hil, wk_sub ⟨rfl, rfl, ?_, rfl, trivial⟩⟩
      rw [htk, cntF_snoc, if_neg hsf]
      rfl
  · have hil : i = l.length := by
      simp only [List.length_map, decide_eq_false_iff_not] at hc
      omega
    subst hil
    rw [List.take_length]
    show AWp _ _ _ _ _ _ _
    refine aS (aR ?_)
    (refine nx (aM (gN rfl) rfl rfl rfl rfl rfl) rfl ?_)
    (refine nx (aA (gN rfl) rfl rfl rfl rfl rfl) rfl ?_)
    show AWp _ _ _ _ _ _ _
    exact aT ⟨.inr rfl, rfl⟩
theorem cov_vars (a b : Tm) : cov a b ↔ ∀ v ∈ b.nv, b.vs.count v ≤ a.vs.count v := by
  unfold cov Tm.nv
  constructor
  · intro h v _; exact h v
  · intro h v
    by_cases hv : v ∈ b.vs
    · exact h v ((mem_nub _ v).2 hv)
    · rw [List.count_eq_zero_of_not_mem hv]; omega
theorem vs_rng {t : Tm} (hr : t.rng) : ∀ v ∈ t.vs, 0 ≤ v ∧ v ≤ 9223372036854775807 := by
  intro v hv
  unfold Tm.vs vsL at hv
  obtain ⟨s, hs, rfl⟩ := List.mem_map.1 hv
  rw [List.mem_filter] at hs
  have h1 := Tm.rng_flat hr s hs.1
  have h2 : s.f < 0 := by simpa using hs.2
  omega
-- 
theorem rCovers_abs (W : World) (a b : Tm) (ha : a.rng) (hao : a.ok) (has : a.size ≤ 90000000000) (hb : b.rng) (hbo : b.ok) (hbs : b.size ≤ 90000000000) : AFun Try.prog W 63 [a.cw, b.cw] (.val (.b (covB a b))) := by
  refine afun_of (rs := [.b (covB a b)]) Try.func63 Try.ntmps63 rfl rfl rfl rfl ?_
  intro w U hW
  have hvl := varsF_len b.flat
  refine aS (aR ?_)
  (refine nx (a_box (gN rfl) rfl rfl rfl rfl rfl) rfl ?_)
  (refine nx (a_box (gN rfl) rfl rfl rfl rfl rfl) rfl ?_)
  (refine nx (aA (gN rfl) rfl rfl rfl rfl rfl) rfl ?_)
  show AWp _ _ _ _ _ _ _
  have f1 := refVars_abs w b hb hbo hbs
  rw [nv_vars] at f1 hvl
  refine aS (aR ?_)
  (refine nx (aL (gN rfl) rfl rfl rfl rfl rfl rfl rfl rfl rfl rfl rfl rfl) rfl ?_)
  (refine nx (a_call (gN rfl) rfl rfl rfl rfl rfl (f1)) rfl ?_)
  (refine nx (aA (gN rfl) rfl rfl rfl rfl rfl) rfl ?_)
  show AWp _ _ _ _ _ _ _
  have hvr : ∀ v ∈ b.nv, 0 ≤ v ∧ v ≤ 9223372036854775807 := fun v hv => vs_rng hb v ((mem_nub _ v).1 hv)
  have hcv := cov_vars a b
  obtain ⟨l, hl⟩ : ∃ l, l = b.nv := ⟨_, rfl⟩
  rw [← hl] at hvl hvr hcv ⊢
  unfold Tm.size at hbs
  have hsz := ints_size l
  refine aS (aS (aR ?_))
  (refine nx (aA (gN rfl) rfl rfl rfl rfl rfl) rfl ?_)
  show AWp _ _ _ _ _ _ _
  refine aB (awp_countI l.length (fun i => ∀ j v, j < i → l[j]? = some v → b.vs.count v ≤ a.vs.count v) (fun i => [(2, .bp 2 0 []), (100002, .bx a.cw), (3, .bp 3 0 []), (100003, .bx b.cw), (5, .val (.lst (l.map CV.i))), (6, .val (.i i))]) (wk_sub ⟨rfl, rfl, rfl, rfl, rfl, rfl, trivial⟩) (fun j v hj => by omega) ?_)
  intro i hi hI
  refine aS (aS (aR ?_))
  (refine nx (aM (gN rfl) rfl rfl rfl rfl rfl) rfl ?_)
  (refine nx (aM (gN rfl) rfl rfl rfl rfl rfl) rfl ?_)
  (refine nx (a_len (gN rfl) rfl rfl rfl rfl rfl rfl rfl) rfl ?_)
  (refine nx (a_lss (gN rfl) rfl rfl rfl rfl rfl rfl) rfl ?_)
  show AWp _ _ _ _ _ _ _
  refine aC rfl (fun hc => aK ?_) (fun hc => aE ?_)
  · have hil : i < l.length := by
      simp only [List.length_map, decide_eq_true_eq] at hc
      omega
    clear hc
    obtain ⟨v, hv⟩ : ∃ v, l[i]? = some v := ⟨l[i], List.getElem?_eq_getElem hil⟩
    have hv' := ints_at hv
    have hvm := List.mem_of_getElem? hv
    have c1 := rCount_abs w b v hb hbo (by unfold Tm.size; omega) (hvr v hvm)
    have c2 := rCount_abs w a v ha hao has (hvr v hvm)
    show AWp _ _ _ _ _ _ _
    refine aS (aB (aS (aD (by kernel_rfl) (by kernel_rfl) ?_)))
    (refine nx (aL (gN rfl) rfl rfl rfl rfl rfl rfl rfl rfl rfl rfl rfl rfl) rfl ?_)
    (refine nx (aM (gN rfl) rfl rfl rfl rfl rfl) rfl ?_)
    (refine nx (aM (gN rfl) rfl rfl rfl rfl rfl) rfl ?_)
    (refine nx (a_index (j := i) (gN rfl) rfl rfl rfl rfl rfl rfl rfl rfl rfl (hv') rfl (hsz)) rfl ?_)
    (refine nx (a_load_ad (gN rfl) rfl rfl rfl rfl rfl rfl rfl rfl rfl) rfl ?_)
    (refine nx (a_call (gN rfl) rfl rfl rfl rfl rfl (c1)) rfl ?_)
    (refine nx (aL (gN rfl) rfl rfl rfl rfl rfl rfl rfl rfl rfl rfl rfl rfl) rfl ?_)
    (refine nx (aM (gN rfl) rfl rfl rfl rfl rfl) rfl ?_)
    (refine nx (aM (gN rfl) rfl rfl rfl rfl rfl) rfl ?_)
    (refine nx (a_index (j := i) (gN rfl) rfl rfl rfl rfl rfl rfl rfl rfl rfl (hv') rfl (hsz)) rfl ?_)
    (refine nx (a_load_ad (gN rfl) rfl rfl rfl rfl rfl rfl rfl rfl rfl) rfl ?_)
    (refine nx (a_call (gN rfl) rfl rfl rfl rfl rfl (c2)) rfl ?_)
    (refine nx (a_gtr (gN rfl) rfl rfl rfl rfl rfl rfl) rfl ?_)
    refine ⟨by kernel_rfl, ?_⟩
    show AWp _ _ _ _ _ _ _
    refine aC rfl (fun hc => ?_) (fun hc => aK ?_)
    · have hn : ¬ b.vs.count v ≤ a.vs.count v := by
        have := of_decide_eq_true hc
        omega
      have hcf : covB a b = false := by
        rw [← Bool.not_eq_true, covB_iff, hcv]
        exact fun h => hn (h v hvm)
      rw [hcf]
      refine aS (aR ?_)
      (refine nx (aA (gN rfl) rfl rfl rfl rfl rfl) rfl ?_)
      show AWp _ _ _ _ _ _ _
      exact aT ⟨.inr rfl, rfl⟩
    · have hn : b.vs.count v ≤ a.vs.count v := by
        have := of_decide_eq_false hc
        omega
      show AWp _ _ _ _ _ _ _
      refine aR ?_
      (refine nx (aM (gN rfl) rfl rfl rfl rfl rfl) rfl ?_)
      (refine nx (a_add (gN rfl) rfl rfl rfl rfl rfl rfl (by first | omega | (simp only [List.length_map, List.length_append, List.length_cons, List.length_nil] <;> omega) | (simp <;> omega))) rfl ?_)
      (refine nx (aA (gN rfl) rfl rfl rfl rfl rfl) rfl ?_)
      refine ⟨hil, fun j u hj hu => ?_, wk_sub ⟨rfl, rfl, rfl, rfl, rfl, rfl, trivial⟩⟩
      rcases Nat.lt_or_ge j i with h | h
      · exact hI j u h hu
      · have : j = i := by omega
        subst this
        rw [hv] at hu
        cases hu
        exact hn
  · have hil : i = l.length := by
      simp only [List.length_map, decide_eq_false_iff_not] at hc
      omega
    subst hil
    have hcf : covB a b = true := by
      rw [covB_iff, hcv]
      intro v hv
      obtain ⟨j, hj⟩ := List.getElem?_of_mem hv
      refine hI j v ?_ hj
      rcases Nat.lt_or_ge j l.length with h | h
      · exact h
      · rw [List.getElem?_eq_none h] at hj; cases hj
    rw [hcf]
    show AWp _ _ _ _ _ _ _
    refine aS (aR ?_)
    (refine nx (aA (gN rfl) rfl rfl rfl rfl rfl) rfl ?_)
    show AWp _ _ _ _ _ _ _
    exact aT ⟨.inr rfl, rfl⟩
theorem same_kb (a b : Tm) : sameT a b = decide (kb a b = 0) := by rw [Bool.eq_iff_iff, sameT_iff, decide_eq_true_iff, kb_zero]
-- 
set_option maxHeartbeats 2000000 in
theorem rGreater_abs (W : World) : ∀ a : Tm, a.rng → a.ok → a.size ≤ 90000000000 → ∀ b : Tm, b.rng → b.ok → b.size ≤ 90000000000 → AFun Try.prog W 46 [a.cw, b.cw] (.val (.b (decide (kb a b = 1)))) := by
  intro a
  induction a using Tm.ind generalizing W with
  | h f l ih =>
  intro ha hao has b hb hbo hbs
  obtain ⟨a, hae⟩ : ∃ a, a = Tm.mk f l := ⟨_, rfl⟩
  have hfa : a.f = f := by rw [hae]
  have hla : a.l = l := by rw [hae]
  rw [← hae] at ha hao has ⊢
  rw [← hla] at ih
  clear hae hfa hla
  have hok' := (Tm.ok_iff _).1 hao
  have hr' := (Tm.rng_iff _).1 ha
  have hbok' := (Tm.ok_iff _).1 hbo
  have hbr' := (Tm.rng_iff _).1 hb
  have hsz := Tm.size_all a.l
  have hsz2 := Tm.size_all b.l
  obtain ⟨K, hK⟩ : ∃ K, K = decide (kb a b = 1) := ⟨_, rfl⟩
  rw [← hK]
  refine afun_of (rs := [.b K]) Try.func46 Try.ntmps46 rfl rfl rfl rfl ?_
  intro w U hW
  refine aS (aR ?_)
  (refine nx (a_box (gN rfl) rfl rfl rfl rfl rfl) rfl ?_)
  (refine nx (a_box (gN rfl) rfl rfl rfl rfl rfl) rfl ?_)
  (refine nx (aA (gN rfl) rfl rfl rfl rfl rfl) rfl ?_)
  show AWp _ _ _ _ _ _ _
  have s1 := refSame_abs w a b hao hbo
  have c1 := rCovers_abs w a b ha hao has hb hbo hbs
  by_cases hs : sameT a b = true
  · have hk : kb a b = 0 := by rw [same_kb] at hs; exact of_decide_eq_true hs
    rw [hs] at s1
    rw [hK, hk]
    refine aS (aS (aR ?_))
    (refine nx (aL (gN rfl) rfl rfl rfl rfl rfl rfl rfl rfl rfl rfl rfl rfl) rfl ?_)
    (refine nx (aL (gN rfl) rfl rfl rfl rfl rfl rfl rfl rfl rfl rfl rfl rfl) rfl ?_)
    (refine nx (a_call (gN rfl) rfl rfl rfl rfl rfl (s1)) rfl ?_)
    (refine nx (aM (gN rfl) rfl rfl rfl rfl rfl) rfl ?_)
    (refine ⟨_, _, _, a_off (go_off rfl rfl rfl rfl (by first | rfl | assumption | (simp; done) | (simp [*]; done))) rfl rfl rfl, rfl, ?_⟩)
    (refine ⟨_, _, _, a_off (go_off rfl rfl rfl rfl (by first | rfl | assumption | (simp; done) | (simp [*]; done))) rfl rfl rfl, rfl, ?_⟩)
    (refine ⟨_, _, _, a_off (go_off rfl rfl rfl rfl (by first | rfl | assumption | (simp; done) | (simp [*]; done))) rfl rfl rfl, rfl, ?_⟩)
    (refine ⟨_, _, _, a_off (go_off rfl rfl rfl rfl (by first | rfl | assumption | (simp; done) | (simp [*]; done))) rfl rfl rfl, rfl, ?_⟩)
    (refine ⟨_, _, _, aPt (gN rfl) rfl rfl rfl rfl rfl ?hb rfl, rfl, ?_⟩; case hb => (first | rfl | assumption | (simp; done)))
    show AWp _ _ _ _ _ _ _
    refine aC rfl (fun hc => ?_) (fun hc => by cases hc)
    refine aS (aR ?_)
    (refine nx (aA (gN rfl) rfl rfl rfl rfl rfl) rfl ?_)
    show AWp _ _ _ _ _ _ _
    exact aT ⟨.inr rfl, rfl⟩
  have hs : sameT a b = false := by simpa using hs
  have hk0 : kb a b ≠ 0 := by rw [same_kb] at hs; exact of_decide_eq_false hs
  rw [hs] at s1
  by_cases hcv : covB a b = true
  case neg =>
    have hk : ¬ kb a b = 1 := fun h => hcv ((covB_iff a b).2 ((kb_one a b).1 h).1)
    have hcv : covB a b = false := by simpa using hcv
    rw [hcv] at c1
    have hK0 : K = false := by rw [hK]; simpa using hk
    rw [hK0]
    refine aS (aS (aR ?_))
    (refine nx (aL (gN rfl) rfl rfl rfl rfl rfl rfl rfl rfl rfl rfl rfl rfl) rfl ?_)
    (refine nx (aL (gN rfl) rfl rfl rfl rfl rfl rfl rfl rfl rfl rfl rfl rfl) rfl ?_)
    (refine nx (a_call (gN rfl) rfl rfl rfl rfl rfl (s1)) rfl ?_)
    (refine nx (aM (gN rfl) rfl rfl rfl rfl rfl) rfl ?_)
    (refine nx (aL (gd_on rfl rfl rfl rfl (by first | rfl | assumption | (simp; done))) rfl rfl rfl rfl rfl rfl rfl rfl rfl rfl rfl rfl) rfl ?_)
    (refine nx (aL (gd_on rfl rfl rfl rfl (by first | rfl | assumption | (simp; done))) rfl rfl rfl rfl rfl rfl rfl rfl rfl rfl rfl rfl) rfl ?_)
    (refine nx (a_call (gd_on rfl rfl rfl rfl (by first | rfl | assumption | (simp; done))) rfl rfl rfl rfl rfl (c1)) rfl ?_)
    (refine nx (a_not (gd_on rfl rfl rfl rfl (by first | rfl | assumption | (simp; done))) rfl rfl rfl rfl rfl) rfl ?_)
    (refine ⟨_, _, _, aPf (gN rfl) rfl rfl rfl rfl rfl ?hb rfl, rfl, ?_⟩; case hb => (first | rfl | assumption | (simp; done)))
    show AWp _ _ _ _ _ _ _
    refine aC rfl (fun hc => ?_) (fun hc => by cases hc)
    refine aS (aR ?_)
    (refine nx (aA (gN rfl) rfl rfl rfl rfl rfl) rfl ?_)
    show AWp _ _ _ _ _ _ _
    exact aT ⟨.inr rfl, rfl⟩
  have hcov := (covB_iff a b).1 hcv
  rw [hcv] at c1
  refine aS (aS (aR ?_))
  (refine nx (aL (gN rfl) rfl rfl rfl rfl rfl rfl rfl rfl rfl rfl rfl rfl) rfl ?_)
  (refine nx (aL (gN rfl) rfl rfl rfl rfl rfl rfl rfl rfl rfl rfl rfl rfl) rfl ?_)
  (refine nx (a_call (gN rfl) rfl rfl rfl rfl rfl (s1)) rfl ?_)
  (refine nx (aM (gN rfl) rfl rfl rfl rfl rfl) rfl ?_)
  (refine nx (aL (gd_on rfl rfl rfl rfl (by first | rfl | assumption | (simp; done))) rfl rfl rfl rfl rfl rfl rfl rfl rfl rfl rfl rfl) rfl ?_)
  (refine nx (aL (gd_on rfl rfl rfl rfl (by first | rfl | assumption | (simp; done))) rfl rfl rfl rfl rfl rfl rfl rfl rfl rfl rfl rfl) rfl ?_)
  (refine nx (a_call (gd_on rfl rfl rfl rfl (by first | rfl | assumption | (simp; done))) rfl rfl rfl rfl rfl (c1)) rfl ?_)
  (refine nx (a_not (gd_on rfl rfl rfl rfl (by first | rfl | assumption | (simp; done))) rfl rfl rfl rfl rfl) rfl ?_)
  (refine ⟨_, _, _, aPf (gN rfl) rfl rfl rfl rfl rfl ?hb rfl, rfl, ?_⟩; case hb => (first | rfl | assumption | (simp; done)))
  show AWp _ _ _ _ _ _ _
  refine aC rfl (fun hc => by cases hc) (fun hc => aK ?_)
  show AWp _ _ _ _ _ _ _
  refine aS (aD (by kernel_rfl) (by kernel_rfl) ?_)
  (refine nx (aL (gN rfl) rfl rfl rfl rfl rfl rfl rfl rfl rfl rfl rfl rfl) rfl ?_)
  (refine nx (a_call (gN rfl) rfl rfl rfl rfl rfl (refFlat_abs w a hao has)) rfl ?_)
  (refine nx (a_len (gN rfl) rfl rfl rfl rfl rfl rfl rfl) rfl ?_)
  (refine nx (aL (gN rfl) rfl rfl rfl rfl rfl rfl rfl rfl rfl rfl rfl rfl) rfl ?_)
  (refine nx (a_call (gN rfl) rfl rfl rfl rfl rfl (refFlat_abs w b hbo hbs)) rfl ?_)
  (refine nx (a_len (gN rfl) rfl rfl rfl rfl rfl rfl rfl) rfl ?_)
  (refine nx (aA (gN rfl) rfl rfl rfl rfl rfl) rfl ?_)
  (refine nx (aA (gN rfl) rfl rfl rfl rfl rfl) rfl ?_)
  refine ⟨by kernel_rfl, ?_⟩
  show AWp _ _ _ _ _ _ _
  have ea : (a.flat.map Tm.cv).length = a.size := List.length_map ..
  have eb : (b.flat.map Tm.cv).length = b.size := List.length_map ..
  have hKeq : K = true ↔ b.size < a.size ∨ (a.size = b.size ∧ wi a b = 1) := by
    rw [hK, decide_eq_true_iff, kb_one]
    exact ⟨fun h => h.2, fun h => ⟨hcov, h⟩⟩
  refine AWp.wk (wk_sub (s' := [(2, AV.bp 2 0 []), (100002, .bx a.cw), (3, .bp 3 0 []), (100003, .bx b.cw), (5, .val (.i (a.size : Int))), (6, .val (.i (b.size : Int)))]) ⟨rfl, rfl, rfl, rfl, ?_, ?_, trivial⟩) ?_
  · rw [← ea]; rfl
  · rw [← eb]; rfl
  by_cases hmn : a.size = b.size
  case neg =>
    have g : decide ((a.size : Int) ≠ (b.size : Int)) = true := by simp; omega
    have hr : decide ((a.size : Int) > (b.size : Int)) = K := by
      rw [Bool.eq_iff_iff, decide_eq_true_iff, hKeq]
      omega
    refine aS (aS (aR ?_))
    (refine nx (aM (gN rfl) rfl rfl rfl rfl rfl) rfl ?_)
    (refine nx (aM (gN rfl) rfl rfl rfl rfl rfl) rfl ?_)
    (refine nx (a_neq (gN rfl) rfl rfl rfl rfl rfl rfl) rfl ?_)
    (refine nx (aM (gN rfl) rfl rfl rfl rfl rfl) rfl ?_)
    (refine ⟨_, _, _, a_off (go_off rfl rfl rfl rfl (by first | rfl | assumption | (simp; done) | (simp [*]; done))) rfl rfl rfl, rfl, ?_⟩)
    (refine ⟨_, _, _, a_off (go_off rfl rfl rfl rfl (by first | rfl | assumption | (simp; done) | (simp [*]; done))) rfl rfl rfl, rfl, ?_⟩)
    (refine ⟨_, _, _, a_off (go_off rfl rfl rfl rfl (by first | rfl | assumption | (simp; done) | (simp [*]; done))) rfl rfl rfl, rfl, ?_⟩)
    (refine ⟨_, _, _, aPt (gN rfl) rfl rfl rfl rfl rfl ?hb rfl, rfl, ?_⟩; case hb => (first | rfl | assumption | (simp; done)))
    (refine nx (aM (gN rfl) rfl rfl rfl rfl rfl) rfl ?_)
    (refine ⟨_, _, _, a_off (go_off rfl rfl rfl rfl (by first | rfl | assumption | (simp; done) | (simp [*]; done))) rfl rfl rfl, rfl, ?_⟩)
    (refine ⟨_, _, _, a_off (go_off rfl rfl rfl rfl (by first | rfl | assumption | (simp; done) | (simp [*]; done))) rfl rfl rfl, rfl, ?_⟩)
    (refine ⟨_, _, _, a_off (go_off rfl rfl rfl rfl (by first | rfl | assumption | (simp; done) | (simp [*]; done))) rfl rfl rfl, rfl, ?_⟩)
    (refine ⟨_, _, _, aPt (gN rfl) rfl rfl rfl rfl rfl ?hb rfl, rfl, ?_⟩; case hb => (first | rfl | assumption | (simp; done)))
    show AWp _ _ _ _ _ _ _
    refine aC rfl (fun hc => ?_) (fun hc => by cases hc)
    refine aS (aR ?_)
    (refine nx (aM (gN rfl) rfl rfl rfl rfl rfl) rfl ?_)
    (refine nx (aM (gN rfl) rfl rfl rfl rfl rfl) rfl ?_)
    (refine nx (a_gtr (gN rfl) rfl rfl rfl rfl rfl rfl) rfl ?_)
    (refine nx (aA (gN rfl) rfl rfl rfl rfl rfl) rfl ?_)
    show AWp _ _ _ _ _ _ _
    refine aT ⟨.inr rfl, ?_⟩
    rw [← hr]; rfl
  have g : decide ((a.size : Int) ≠ (b.size : Int)) = false := by simp; omega
  have hr : decide ((a.size : Int) > (b.size : Int)) = false := by simp; omega
  by_cases haf : a.f < 0
  · have g2 : decide (a.f < 0) = true := by simpa using haf
    have hK0 : K = false := by
      rw [← Bool.not_eq_true, hKeq, wi_one]
      omega
    refine aS (aS (aR ?_))
    (refine nx (aM (gN rfl) rfl rfl rfl rfl rfl) rfl ?_)
    (refine nx (aM (gN rfl) rfl rfl rfl rfl rfl) rfl ?_)
    (refine nx (a_neq (gN rfl) rfl rfl rfl rfl rfl rfl) rfl ?_)
    (refine nx (aM (gN rfl) rfl rfl rfl rfl rfl) rfl ?_)
    (refine nx (aF (gd_on rfl rfl rfl rfl (by first | rfl | assumption | (simp; done))) rfl rfl rfl rfl rfl rfl rfl rfl rfl) rfl ?_)
    (refine nx (aLb (gd_on rfl rfl rfl rfl (by first | rfl | assumption | (simp; done))) rfl rfl rfl rfl rfl rfl rfl rfl rfl rfl rfl rfl) rfl ?_)
    (refine nx (a_lss (gd_on rfl rfl rfl rfl (by first | rfl | assumption | (simp; done))) rfl rfl rfl rfl rfl rfl) rfl ?_)
    (refine ⟨_, _, _, aPf (gN rfl) rfl rfl rfl rfl rfl ?hb rfl, rfl, ?_⟩; case hb => (first | rfl | assumption | (simp; done)))
    (refine nx (aM (gN rfl) rfl rfl rfl rfl rfl) rfl ?_)
    (refine ⟨_, _, _, a_off (go_off rfl rfl rfl rfl (by first | rfl | assumption | (simp; done) | (simp [*]; done))) rfl rfl rfl, rfl, ?_⟩)
    (refine ⟨_, _, _, a_off (go_off rfl rfl rfl rfl (by first | rfl | assumption | (simp; done) | (simp [*]; done))) rfl rfl rfl, rfl, ?_⟩)
    (refine ⟨_, _, _, a_off (go_off rfl rfl rfl rfl (by first | rfl | assumption | (simp; done) | (simp [*]; done))) rfl rfl rfl, rfl, ?_⟩)
    (refine ⟨_, _, _, aPt (gN rfl) rfl rfl rfl rfl rfl ?hb rfl, rfl, ?_⟩; case hb => (first | rfl | assumption | (simp; done)))
    show AWp _ _ _ _ _ _ _
    refine aC rfl (fun hc => ?_) (fun hc => by cases hc)
    refine aS (aR ?_)
    (refine nx (aM (gN rfl) rfl rfl rfl rfl rfl) rfl ?_)
    (refine nx (aM (gN rfl) rfl rfl rfl rfl rfl) rfl ?_)
    (refine nx (a_gtr (gN rfl) rfl rfl rfl rfl rfl rfl) rfl ?_)
    (refine nx (aA (gN rfl) rfl rfl rfl rfl rfl) rfl ?_)
    show AWp _ _ _ _ _ _ _
    refine aT ⟨.inr rfl, ?_⟩
    rw [hK0, ← hr]; rfl
  have g2 : decide (a.f < 0) = false := by simpa using haf
  refine aS (aS (aR ?_))
  (refine nx (aM (gN rfl) rfl rfl rfl rfl rfl) rfl ?_)
  (refine nx (aM (gN rfl) rfl rfl rfl rfl rfl) rfl ?_)
  (refine nx (a_neq (gN rfl) rfl rfl rfl rfl rfl rfl) rfl ?_)
  (refine nx (aM (gN rfl) rfl rfl rfl rfl rfl) rfl ?_)
  (refine nx (aF (gd_on rfl rfl rfl rfl (by first | rfl | assumption | (simp; done))) rfl rfl rfl rfl rfl rfl rfl rfl rfl) rfl ?_)
  (refine nx (aLb (gd_on rfl rfl rfl rfl (by first | rfl | assumption | (simp; done))) rfl rfl rfl rfl rfl rfl rfl rfl rfl rfl rfl rfl) rfl ?_)
  (refine nx (a_lss (gd_on rfl rfl rfl rfl (by first | rfl | assumption | (simp; done))) rfl rfl rfl rfl rfl rfl) rfl ?_)
  (refine ⟨_, _, _, aPf (gN rfl) rfl rfl rfl rfl rfl ?hb rfl, rfl, ?_⟩; case hb => (first | rfl | assumption | (simp; done)))
  (refine nx (aM (gN rfl) rfl rfl rfl rfl rfl) rfl ?_)
  (refine nx (aF (gd_on rfl rfl rfl rfl (by first | rfl | assumption | (simp; done))) rfl rfl rfl rfl rfl rfl rfl rfl rfl) rfl ?_)
  (refine nx (aLb (gd_on rfl rfl rfl rfl (by first | rfl | assumption | (simp; done))) rfl rfl rfl rfl rfl rfl rfl rfl rfl rfl rfl rfl) rfl ?_)
  (refine nx (a_lss (gd_on rfl rfl rfl rfl (by first | rfl | assumption | (simp; done))) rfl rfl rfl rfl rfl rfl) rfl ?_)
  (refine ⟨_, _, _, aPf (gN rfl) rfl rfl rfl rfl rfl ?hb rfl, rfl, ?_⟩; case hb => (first | rfl | assumption | (simp; done)))
  show AWp _ _ _ _ _ _ _
  refine aC rfl (fun hc => ?_) (fun hc => aK ?_)
  · have hbf : b.f < 0 := by simpa using hc
    have hK0 : K = false := by
      rw [← Bool.not_eq_true, hKeq, wi_one]
      omega
    refine aS (aR ?_)
    (refine nx (aM (gN rfl) rfl rfl rfl rfl rfl) rfl ?_)
    (refine nx (aM (gN rfl) rfl rfl rfl rfl rfl) rfl ?_)
    (refine nx (a_gtr (gN rfl) rfl rfl rfl rfl rfl rfl) rfl ?_)
    (refine nx (aA (gN rfl) rfl rfl rfl rfl rfl) rfl ?_)
    show AWp _ _ _ _ _ _ _
    refine aT ⟨.inr rfl, ?_⟩
    rw [hK0, ← hr]; rfl
  have hbf : ¬ b.f < 0 := by simpa using hc
  clear hc
  have hKw : K = true ↔ b.f < a.f ∨ (a.f = b.f ∧ (b.l.length < a.l.length ∨ (a.l.length = b.l.length ∧ kbs a.l b.l = 1))) := by
    rw [hKeq, wi_one]
    constructor
    · rintro (h | ⟨_, _, _, h⟩)
      · omega
      · exact h
    · intro h; exact .inr ⟨hmn, haf, hbf, h⟩
  show AWp _ _ _ _ _ _ _
  refine aS (aS (aR ?_))
  (refine nx (aF (gN rfl) rfl rfl rfl rfl rfl rfl rfl rfl rfl) rfl ?_)
  (refine nx (aLb (gN rfl) rfl rfl rfl rfl rfl rfl rfl rfl rfl rfl rfl rfl) rfl ?_)
  (refine nx (aF (gN rfl) rfl rfl rfl rfl rfl rfl rfl rfl rfl) rfl ?_)
  (refine nx (aLb (gN rfl) rfl rfl rfl rfl rfl rfl rfl rfl rfl rfl rfl rfl) rfl ?_)
  (refine nx (a_neq (gN rfl) rfl rfl rfl rfl rfl rfl) rfl ?_)
  show AWp _ _ _ _ _ _ _
  refine aC rfl (fun hc => ?_) (fun hc => aK ?_)
  · have hne : a.f ≠ b.f := by simpa using hc
    have hr : decide (a.f > b.f) = K := by
      rw [Bool.eq_iff_iff, decide_eq_true_iff, hKw]
      omega
    refine aS (aR ?_)
    (refine nx (aF (gN rfl) rfl rfl rfl rfl rfl rfl rfl rfl rfl) rfl ?_)
    (refine nx (aLb (gN rfl) rfl rfl rfl rfl rfl rfl rfl rfl rfl rfl rfl rfl) rfl ?_)
    (refine nx (aF (gN rfl) rfl rfl rfl rfl rfl rfl rfl rfl rfl) rfl ?_)
    (refine nx (aLb (gN rfl) rfl rfl rfl rfl rfl rfl rfl rfl rfl rfl rfl rfl) rfl ?_)
    (refine nx (a_gtr (gN rfl) rfl rfl rfl rfl rfl rfl) rfl ?_)
    (refine nx (aA (gN rfl) rfl rfl rfl rfl rfl) rfl ?_)
    show AWp _ _ _ _ _ _ _
    refine aT ⟨.inr rfl, ?_⟩
    rw [← hr]; rfl
  have hff : a.f = b.f := by simpa using hc
  clear hc
  show AWp _ _ _ _ _ _ _
  refine aS (aS (aR ?_))
  (refine nx (aF (gN rfl) rfl rfl rfl rfl rfl rfl rfl rfl rfl) rfl ?_)
  (refine nx (aLb (gN rfl) rfl rfl rfl rfl rfl rfl rfl rfl rfl rfl rfl rfl) rfl ?_)
  (refine nx (a_len (gN rfl) rfl rfl rfl rfl rfl rfl rfl) rfl ?_)
  (refine nx (aF (gN rfl) rfl rfl rfl rfl rfl rfl rfl rfl rfl) rfl ?_)
  (refine nx (aLb (gN rfl) rfl rfl rfl rfl rfl rfl rfl rfl rfl rfl rfl rfl) rfl ?_)
  (refine nx (a_len (gN rfl) rfl rfl rfl rfl rfl rfl rfl) rfl ?_)
  (refine nx (a_neq (gN rfl) rfl rfl rfl rfl rfl rfl) rfl ?_)
  show AWp _ _ _ _ _ _ _
  refine aC rfl (fun hc => ?_) (fun hc => aK ?_)
  · have hne : a.l.length ≠ b.l.length := by
      have := of_decide_eq_true hc
      simp only [List.length_map] at this
      omega
    have hr : decide (((a.l.map Tm.cv).length : Int) > ((b.l.map Tm.cv).length : Int)) = K := by
      rw [Bool.eq_iff_iff, decide_eq_true_iff, hKw, List.length_map, List.length_map]
      omega
    refine aS (aR ?_)
    (refine nx (aF (gN rfl) rfl rfl rfl rfl rfl rfl rfl rfl rfl) rfl ?_)
    (refine nx (aLb (gN rfl) rfl rfl rfl rfl rfl rfl rfl rfl rfl rfl rfl rfl) rfl ?_)
    (refine nx (a_len (gN rfl) rfl rfl rfl rfl rfl rfl rfl) rfl ?_)
    (refine nx (aF (gN rfl) rfl rfl rfl rfl rfl rfl rfl rfl rfl) rfl ?_)
    (refine nx (aLb (gN rfl) rfl rfl rfl rfl rfl rfl rfl rfl rfl rfl rfl rfl) rfl ?_)
    (refine nx (a_len (gN rfl) rfl rfl rfl rfl rfl rfl rfl) rfl ?_)
    (refine nx (a_gtr (gN rfl) rfl rfl rfl rfl rfl rfl) rfl ?_)
    (refine nx (aA (gN rfl) rfl rfl rfl rfl rfl) rfl ?_)
    show AWp _ _ _ _ _ _ _
    refine aT ⟨.inr rfl, ?_⟩
    rw [← hr]; rfl
  have hll : a.l.length = b.l.length := by
    have := of_decide_eq_false hc
    simp only [List.length_map] at this
    omega
  clear hc
  show AWp _ _ _ _ _ _ _
  refine aS (aR ?_)
  (refine nx (aA (gN rfl) rfl rfl rfl rfl rfl) rfl ?_)
  show AWp _ _ _ _ _ _ _
  refine aS ?_
  refine aB (awp_countI a.l.length (fun k => ∀ (j : Nat) u v, j < k → a.l[j]? = some u → b.l[j]? = some v → kb u v = 0) (fun k => [(2, .bp 2 0 []), (100002, .bx a.cw), (3, .bp 3 0 []), (100003, .bx b.cw), (7, .val (.i k))]) (wk_sub ⟨rfl, rfl, rfl, rfl, rfl, trivial⟩) (fun j u v hj => by omega) ?_)
  intro k hk hI
  have hkl : k < a.l.length := by
    rcases Nat.lt_or_ge k a.l.length with h | h
    · exact h
    · exfalso
      obtain ⟨e1, e2⟩ := scs_none (l := a.l) (m := b.l) fun j u v hu hv => hI j u v (by
        rcases Nat.lt_or_ge j a.l.length with h | h
        · omega
        · rw [List.getElem?_eq_none h] at hu; cases hu) hu hv
      apply hk0
      rw [kb_eq, verd_zero]
      unfold wi
      rw [Tm.ps_of_sym (t := a) (by omega), Tm.ps_of_sym (t := b) (by omega), if_neg (by omega)]
      exact e2
  obtain ⟨x, hx⟩ : ∃ x, a.l[k]? = some x := ⟨a.l[k], List.getElem?_eq_getElem hkl⟩
  obtain ⟨y, hy⟩ : ∃ y, b.l[k]? = some y := ⟨b.l[k]'(by omega), List.getElem?_eq_getElem (by omega)⟩
  have hx' := Tm.map_at hx
  have hy' := Tm.map_at hy
  have hxm := List.mem_of_getElem? hx
  have hym := List.mem_of_getElem? hy
  have hxs := Tm.size_part (t := a) (s := x) (by rw [Tm.ps_of_sym (by omega)]; exact hxm)
  have hys := Tm.size_part (t := b) (s := y) (by rw [Tm.ps_of_sym (by omega)]; exact hym)
  have s2 := refSame_abs w x y (hok'.2 x hxm) (hbok'.2 y hym)
  have hrec := ih x hxm w (hr'.2 x hxm) (hok'.2 x hxm) (by omega) y (hbr'.2 y hym) (hbok'.2 y hym) (by omega)
  refine aS (aS (aD (by kernel_rfl) (by kernel_rfl) ?_))
  (refine nx (aF (gN rfl) rfl rfl rfl rfl rfl rfl rfl rfl rfl) rfl ?_)
  (refine nx (aLb (gN rfl) rfl rfl rfl rfl rfl rfl rfl rfl rfl rfl rfl rfl) rfl ?_)
  (refine nx (aM (gN rfl) rfl rfl rfl rfl rfl) rfl ?_)
  (refine nx (a_index (j := k) (gN rfl) rfl rfl rfl rfl rfl rfl rfl rfl rfl (hx') rfl (hsz)) rfl ?_)
  (refine nx (a_load_ad (gN rfl) rfl rfl rfl rfl rfl rfl rfl rfl rfl) rfl ?_)
  (refine nx (aF (gN rfl) rfl rfl rfl rfl rfl rfl rfl rfl rfl) rfl ?_)
  (refine nx (aLb (gN rfl) rfl rfl rfl rfl rfl rfl rfl rfl rfl rfl rfl rfl) rfl ?_)
  (refine nx (aM (gN rfl) rfl rfl rfl rfl rfl) rfl ?_)
  (refine nx (a_index (j := k) (gN rfl) rfl rfl rfl rfl rfl rfl rfl rfl rfl (hy') rfl (hsz2)) rfl ?_)
  (refine nx (a_load_ad (gN rfl) rfl rfl rfl rfl rfl rfl rfl rfl rfl) rfl ?_)
  (refine nx (a_call (gN rfl) rfl rfl rfl rfl rfl (s2)) rfl ?_)
  refine ⟨by kernel_rfl, ?_⟩
  show AWp _ _ _ _ _ _ _
  refine aC rfl (fun hc => aK ?_) (fun hc => aE ?_)
  · have h0 : kb x y = 0 := by rw [same_kb] at hc; exact of_decide_eq_true hc
    show AWp _ _ _ _ _ _ _
    refine aB (aR ?_)
    (refine nx (aM (gN rfl) rfl rfl rfl rfl rfl) rfl ?_)
    (refine nx (a_add (gN rfl) rfl rfl rfl rfl rfl rfl (by first | omega | (simp only [List.length_map, List.length_append, List.length_cons, List.length_nil] <;> omega) | (simp <;> omega))) rfl ?_)
    (refine nx (aA (gN rfl) rfl rfl rfl rfl rfl) rfl ?_)
    refine ⟨hkl, fun j u v hj hu hv => ?_, wk_sub ⟨rfl, rfl, rfl, rfl, rfl, trivial⟩⟩
    rcases Nat.lt_or_ge j k with h | h
    · exact hI j u v h hu hv
    · have : j = k := by omega
      subst this
      rw [hx] at hu
      rw [hy] at hv
      cases hu; cases hv
      exact h0
  · have hne : kb x y ≠ 0 := by rw [same_kb] at hc; exact of_decide_eq_false hc
    obtain ⟨e1, e2⟩ := scs_at hx hy hne hI
    have hr : decide (kb x y = 1) = K := by
      rw [Bool.eq_iff_iff, decide_eq_true_iff, hKw, e2]
      omega
    rw [hr] at hrec
    show AWp _ _ _ _ _ _ _
    refine aS (aD (by kernel_rfl) (by kernel_rfl) ?_)
    (refine nx (aF (gN rfl) rfl rfl rfl rfl rfl rfl rfl rfl rfl) rfl ?_)
    (refine nx (aLb (gN rfl) rfl rfl rfl rfl rfl rfl rfl rfl rfl rfl rfl rfl) rfl ?_)
    (refine nx (aM (gN rfl) rfl rfl rfl rfl rfl) rfl ?_)
    (refine nx (a_index (j := k) (gN rfl) rfl rfl rfl rfl rfl rfl rfl rfl rfl (hx') rfl (hsz)) rfl ?_)
    (refine nx (a_load_ad (gN rfl) rfl rfl rfl rfl rfl rfl rfl rfl rfl) rfl ?_)
    (refine nx (aF (gN rfl) rfl rfl rfl rfl rfl rfl rfl rfl rfl) rfl ?_)
    (refine nx (aLb (gN rfl) rfl rfl rfl rfl rfl rfl rfl rfl rfl rfl rfl rfl) rfl ?_)
    (refine nx (aM (gN rfl) rfl rfl rfl rfl rfl) rfl ?_)
    (refine nx (a_index (j := k) (gN rfl) rfl rfl rfl rfl rfl rfl rfl rfl rfl (hy') rfl (hsz2)) rfl ?_)
    (refine nx (a_load_ad (gN rfl) rfl rfl rfl rfl rfl rfl rfl rfl rfl) rfl ?_)
    (refine nx (a_call (gN rfl) rfl rfl rfl rfl rfl (hrec)) rfl ?_)
    (refine nx (aA (gN rfl) rfl rfl rfl rfl rfl) rfl ?_)
    refine ⟨by kernel_rfl, ?_⟩
    show AWp _ _ _ _ _ _ _
    exact aT ⟨.inr rfl, rfl⟩
abbrev ruZ : CV := .row [.i 0, .row [.i 0, .lst []], .row [.i 0, .lst []]]
def Lt.ok17 (l : Lt) : Prop := (l.a.rng ∧ l.a.ok ∧ l.a.size ≤ 1000000) ∧ (l.b.rng ∧ l.b.ok ∧ l.b.size ≤ 1000000)
noncomputable def ofR (id : Int) : List Lt → Option RuT
  | [l] => if l.neg = true then none else if kb l.a l.b = 1 then some ⟨id, l.a.strip, l.b.strip⟩ else if kb l.b l.a = 1 then some ⟨id, l.b.strip, l.a.strip⟩ else none
  | _ => none
noncomputable def ofD (id : Int) : List Lt → Option RuT
  | [l] => if l.neg = true then none else if kb l.a l.b = 1 then some ⟨id, l.a, l.b⟩ else if kb l.b l.a = 1 then some ⟨id, l.b, l.a⟩ else none
  | _ => none
theorem ofR_one (id : Int) (a b : Tm) : ofR id [⟨false, a, b⟩] = if kb a b = 1 then some ⟨id, a.strip, b.strip⟩ else if kb b a = 1 then some ⟨id, b.strip, a.strip⟩ else none := by
  simp [ofR]
theorem ofD_one (id : Int) (a b : Tm) : ofD id [⟨false, a, b⟩] = if kb a b = 1 then some ⟨id, a, b⟩ else if kb b a = 1 then some ⟨id, b, a⟩ else none := by
  simp [ofD]
noncomputable def ruE (o : Option RuT) : AV := match o with
  | none => .tup [ruZ, .b false]
  | some r => .tup [r.cw, .b true]

-- 
theorem wOf_many (W : World) (id : Int) (c : List Lt) (h : c.length ≠ 1) : AFun Try.prog W 29 [.i id, .lst (c.map Lt.cv)] (.tup [ruZ, .b false]) := by
  have g : decide (((c.map Lt.cv).length : Int) ≠ 1) = true := by simp; omega
  refine afun_of (rs := [ruZ, .b false]) Try.func29 Try.ntmps29 rfl rfl rfl rfl ?_
  intro w U hW
  refine aS (aR ?_)
  (refine nx (a_alloc (gN rfl) rfl rfl rfl rfl rfl rfl rfl rfl rfl rfl) rfl ?_)
  (refine nx (aA (gN rfl) rfl rfl rfl rfl rfl) rfl ?_)
  show AWp _ _ _ _ _ _ _
  refine aS (aS (aR ?_))
  (refine nx (aM (gN rfl) rfl rfl rfl rfl rfl) rfl ?_)
  (refine nx (a_len (gN rfl) rfl rfl rfl rfl rfl rfl rfl) rfl ?_)
  (refine nx (a_neq (gN rfl) rfl rfl rfl rfl rfl rfl) rfl ?_)
  (refine nx (aM (gN rfl) rfl rfl rfl rfl rfl) rfl ?_)
  (refine ⟨_, _, _, a_off (go_off rfl rfl rfl rfl (by first | rfl | assumption | (simp; done) | (simp [*]; done))) rfl rfl rfl, rfl, ?_⟩)
  (refine ⟨_, _, _, a_off (go_off rfl rfl rfl rfl (by first | rfl | assumption | (simp; done) | (simp [*]; done))) rfl rfl rfl, rfl, ?_⟩)
  (refine ⟨_, _, _, a_off (go_off rfl rfl rfl rfl (by first | rfl | assumption | (simp; done) | (simp [*]; done))) rfl rfl rfl, rfl, ?_⟩)
  (refine ⟨_, _, _, a_off (go_off rfl rfl rfl rfl (by first | rfl | assumption | (simp; done) | (simp [*]; done))) rfl rfl rfl, rfl, ?_⟩)
  (refine ⟨_, _, _, aPt (gN rfl) rfl rfl rfl rfl rfl ?hb rfl, rfl, ?_⟩; case hb => (first | rfl | assumption | (simp; done)))
  show AWp _ _ _ _ _ _ _
  refine aC rfl (fun _ => ?_) (fun hc => by cases hc)
  refine aS (aR ?_)
  (refine nx (a_build (gN rfl) rfl rfl rfl rfl rfl rfl rfl rfl rfl rfl rfl) rfl ?_)
  (refine nx (aSt (gN rfl) rfl rfl rfl rfl rfl rfl rfl rfl rfl rfl) rfl ?_)
  (refine nx (aA (gN rfl) rfl rfl rfl rfl rfl) rfl ?_)
  show AWp _ _ _ _ _ _ _
  exact aT ⟨.inr rfl, rfl⟩
-- 
theorem wOf_neg (W : World) (id : Int) (a b : Tm) : AFun Try.prog W 29 [.i id, .lst ([(⟨true, a, b⟩ : Lt)].map Lt.cv)] (.tup [ruZ, .b false]) := by
  have hl' : ([(⟨true, a, b⟩ : Lt)].map Lt.cv)[0]? = some (Lt.mk true a b).cw := rfl
  have hz := Lt.size_all [(⟨true, a, b⟩ : Lt)]
  refine afun_of (rs := [ruZ, .b false]) Try.func29 Try.ntmps29 rfl rfl rfl rfl ?_
  intro w U hW
  refine aS (aR ?_)
  (refine nx (a_alloc (gN rfl) rfl rfl rfl rfl rfl rfl rfl rfl rfl rfl) rfl ?_)
  (refine nx (aA (gN rfl) rfl rfl rfl rfl rfl) rfl ?_)
  show AWp _ _ _ _ _ _ _
  refine aS (aS (aR ?_))
  (refine nx (aM (gN rfl) rfl rfl rfl rfl rfl) rfl ?_)
  (refine nx (a_len (gN rfl) rfl rfl rfl rfl rfl rfl rfl) rfl ?_)
  (refine nx (a_neq (gN rfl) rfl rfl rfl rfl rfl rfl) rfl ?_)
  (refine nx (aM (gN rfl) rfl rfl rfl rfl rfl) rfl ?_)
  (refine nx (aM (gd_on rfl rfl rfl rfl (by first | rfl | assumption | (simp; done))) rfl rfl rfl rfl rfl) rfl ?_)
  (refine nx (a_index (j := 0) (gd_on rfl rfl rfl rfl (by first | rfl | assumption | (simp; done))) rfl rfl rfl rfl rfl rfl rfl rfl rfl (hl') rfl (hz)) rfl ?_)
  (refine nx (a_field_ad (gd_on rfl rfl rfl rfl (by first | rfl | assumption | (simp; done))) rfl rfl rfl rfl rfl rfl rfl rfl rfl rfl rfl) rfl ?_)
  (refine nx (a_load_ad (gd_on rfl rfl rfl rfl (by first | rfl | assumption | (simp; done))) rfl rfl rfl rfl rfl rfl rfl rfl rfl) rfl ?_)
  (refine ⟨_, _, _, aPf (gN rfl) rfl rfl rfl rfl rfl ?hb rfl, rfl, ?_⟩; case hb => (first | rfl | assumption | (simp; done)))
  show AWp _ _ _ _ _ _ _
  refine aC rfl (fun _ => ?_) (fun hc => by cases hc)
  refine aS (aR ?_)
  (refine nx (a_build (gN rfl) rfl rfl rfl rfl rfl rfl rfl rfl rfl rfl rfl) rfl ?_)
  (refine nx (aSt (gN rfl) rfl rfl rfl rfl rfl rfl rfl rfl rfl rfl) rfl ?_)
  (refine nx (aA (gN rfl) rfl rfl rfl rfl rfl) rfl ?_)
  show AWp _ _ _ _ _ _ _
  exact aT ⟨.inr rfl, rfl⟩
-- 
set_option maxHeartbeats 1000000 in
theorem wOf_one (W : World) (id : Int) (a b : Tm) (hl : (Lt.mk false a b).ok17) : AFun Try.prog W 29 [.i id, .lst ([(⟨false, a, b⟩ : Lt)].map Lt.cv)] (ruE (ofR id [⟨false, a, b⟩])) := by
  obtain ⟨⟨har, hao, has⟩, hbr, hbo, hbs⟩ := hl
  have har : a.rng := har
  have hao : a.ok := hao
  have has : a.size ≤ 1000000 := has
  have hbr : b.rng := hbr
  have hbo : b.ok := hbo
  have hbs : b.size ≤ 1000000 := hbs
  have hl' : ([(⟨false, a, b⟩ : Lt)].map Lt.cv)[0]? = some (Lt.mk false a b).cw := rfl
  have hz := Lt.size_all [(⟨false, a, b⟩ : Lt)]
  have hk := fun w => kCmp_abs w a b har hao (by omega) hbr hbo (by omega)
  have hca := fun w => clone_abs w har (by omega : a.size ≤ 90000000000)
  have hcb := fun w => clone_abs w hbr (by omega : b.size ≤ 90000000000)
  by_cases h1 : kb a b = 1
  · have e : ofR id [(⟨false, a, b⟩ : Lt)] = some ⟨id, a.strip, b.strip⟩ := by rw [ofR_one, if_pos h1]
    rw [e]
    rw [h1] at hk
    show AFun _ _ _ _ (.tup [RuT.cw ⟨id, a.strip, b.strip⟩, .b true])
    refine afun_of (rs := [RuT.cw ⟨id, a.strip, b.strip⟩, .b true]) Try.func29 Try.ntmps29 rfl rfl rfl rfl ?_
    intro w U hW
    refine aS (aR ?_)
    (refine nx (a_alloc (gN rfl) rfl rfl rfl rfl rfl rfl rfl rfl rfl rfl) rfl ?_)
    (refine nx (aA (gN rfl) rfl rfl rfl rfl rfl) rfl ?_)
    show AWp _ _ _ _ _ _ _
    refine aS (aS (aR ?_))
    (refine nx (aM (gN rfl) rfl rfl rfl rfl rfl) rfl ?_)
    (refine nx (a_len (gN rfl) rfl rfl rfl rfl rfl rfl rfl) rfl ?_)
    (refine nx (a_neq (gN rfl) rfl rfl rfl rfl rfl rfl) rfl ?_)
    (refine nx (aM (gN rfl) rfl rfl rfl rfl rfl) rfl ?_)
    (refine nx (aM (gd_on rfl rfl rfl rfl (by first | rfl | assumption | (simp; done))) rfl rfl rfl rfl rfl) rfl ?_)
    (refine nx (a_index (j := 0) (gd_on rfl rfl rfl rfl (by first | rfl | assumption | (simp; done))) rfl rfl rfl rfl rfl rfl rfl rfl rfl (hl') rfl (hz)) rfl ?_)
    (refine nx (a_field_ad (gd_on rfl rfl rfl rfl (by first | rfl | assumption | (simp; done))) rfl rfl rfl rfl rfl rfl rfl rfl rfl rfl rfl) rfl ?_)
    (refine nx (a_load_ad (gd_on rfl rfl rfl rfl (by first | rfl | assumption | (simp; done))) rfl rfl rfl rfl rfl rfl rfl rfl rfl) rfl ?_)
    (refine ⟨_, _, _, aPf (gN rfl) rfl rfl rfl rfl rfl ?hb rfl, rfl, ?_⟩; case hb => (first | rfl | assumption | (simp; done)))
    show AWp _ _ _ _ _ _ _
    refine aC rfl (fun hc => by cases hc) (fun _ => aK ?_)
    show AWp _ _ _ _ _ _ _
    refine aS (aD (by kernel_rfl) (by kernel_rfl) ?_)
    (refine nx (aM (gN rfl) rfl rfl rfl rfl rfl) rfl ?_)
    (refine nx (a_index (j := 0) (gN rfl) rfl rfl rfl rfl rfl rfl rfl rfl rfl (hl') rfl (hz)) rfl ?_)
    (refine nx (a_field_ad (gN rfl) rfl rfl rfl rfl rfl rfl rfl rfl rfl rfl rfl) rfl ?_)
    (refine nx (a_load_ad (gN rfl) rfl rfl rfl rfl rfl rfl rfl rfl rfl) rfl ?_)
    (refine nx (aM (gN rfl) rfl rfl rfl rfl rfl) rfl ?_)
    (refine nx (a_index (j := 0) (gN rfl) rfl rfl rfl rfl rfl rfl rfl rfl rfl (hl') rfl (hz)) rfl ?_)
    (refine nx (a_field_ad (gN rfl) rfl rfl rfl rfl rfl rfl rfl rfl rfl rfl rfl) rfl ?_)
    (refine nx (a_load_ad (gN rfl) rfl rfl rfl rfl rfl rfl rfl rfl rfl) rfl ?_)
    (refine nx (a_alloc (gN rfl) rfl rfl rfl rfl rfl rfl rfl rfl rfl rfl) rfl ?_)
    (refine nx (a_alloc (gN rfl) rfl rfl rfl rfl rfl rfl rfl rfl rfl rfl) rfl ?_)
    (refine nx (aSt (gN rfl) rfl rfl rfl rfl rfl rfl rfl rfl rfl rfl) rfl ?_)
    (refine nx (aSt (gN rfl) rfl rfl rfl rfl rfl rfl rfl rfl rfl rfl) rfl ?_)
    refine ⟨by kernel_rfl, ?_⟩
    show AWp _ _ _ _ _ _ _
    refine aS (aS (aR ?_))
    (refine nx (aL (gN rfl) rfl rfl rfl rfl rfl rfl rfl rfl rfl rfl rfl rfl) rfl ?_)
    (refine nx (aL (gN rfl) rfl rfl rfl rfl rfl rfl rfl rfl rfl rfl rfl rfl) rfl ?_)
    (refine nx (a_call (gN rfl) rfl rfl rfl rfl rfl (hk w)) rfl ?_)
    show AWp _ _ _ _ _ _ _
    refine aB (aS (aR ?_))
    (refine nx (a_eql (gN rfl) rfl rfl rfl rfl rfl rfl) rfl ?_)
    (refine nx (aA (gN rfl) rfl rfl rfl rfl rfl) rfl ?_)
    show AWp _ _ _ _ _ _ _
    refine aC rfl (fun _ => ?_) (fun hc => by cases hc)
    refine aS (aD (by kernel_rfl) (by kernel_rfl) ?_)
    (refine nx (aM (gN rfl) rfl rfl rfl rfl rfl) rfl ?_)
    (refine nx (aL (gN rfl) rfl rfl rfl rfl rfl rfl rfl rfl rfl rfl rfl rfl) rfl ?_)
    (refine nx (a_call (gN rfl) rfl rfl rfl rfl rfl (hca w)) rfl ?_)
    (refine nx (aL (gN rfl) rfl rfl rfl rfl rfl rfl rfl rfl rfl rfl rfl rfl) rfl ?_)
    (refine nx (a_call (gN rfl) rfl rfl rfl rfl rfl (hcb w)) rfl ?_)
    (refine nx (a_build (gN rfl) rfl rfl rfl rfl rfl rfl rfl rfl rfl rfl rfl) rfl ?_)
    (refine nx (aSt (gN rfl) rfl rfl rfl rfl rfl rfl rfl rfl rfl rfl) rfl ?_)
    (refine nx (aA (gN rfl) rfl rfl rfl rfl rfl) rfl ?_)
    refine ⟨by kernel_rfl, ?_⟩
    show AWp _ _ _ _ _ _ _
    exact aT ⟨.inr rfl, rfl⟩
  by_cases h2 : kb b a = 1
  · have e : ofR id [(⟨false, a, b⟩ : Lt)] = some ⟨id, b.strip, a.strip⟩ := by rw [ofR_one, if_neg h1, if_pos h2]
    rw [e]
    have h3 : kb a b = -1 := by rw [kb_turn b a, h2]; rfl
    rw [h3] at hk
    show AFun _ _ _ _ (.tup [RuT.cw ⟨id, b.strip, a.strip⟩, .b true])
    refine afun_of (rs := [RuT.cw ⟨id, b.strip, a.strip⟩, .b true]) Try.func29 Try.ntmps29 rfl rfl rfl rfl ?_
    intro w U hW
    refine aS (aR ?_)
    (refine nx (a_alloc (gN rfl) rfl rfl rfl rfl rfl rfl rfl rfl rfl rfl) rfl ?_)
    (refine nx (aA (gN rfl) rfl rfl rfl rfl rfl) rfl ?_)
    show AWp _ _ _ _ _ _ _
    refine aS (aS (aR ?_))
    (refine nx (aM (gN rfl) rfl rfl rfl rfl rfl) rfl ?_)
    (refine nx (a_len (gN rfl) rfl rfl rfl rfl rfl rfl rfl) rfl ?_)
    (refine nx (a_neq (gN rfl) rfl rfl rfl rfl rfl rfl) rfl ?_)
    (refine nx (aM (gN rfl) rfl rfl rfl rfl rfl) rfl ?_)
    (refine nx (aM (gd_on rfl rfl rfl rfl (by first | rfl | assumption | (simp; done))) rfl rfl rfl rfl rfl) rfl ?_)
    (refine nx (a_index (j := 0) (gd_on rfl rfl rfl rfl (by first | rfl | assumption | (simp; done))) rfl rfl rfl rfl rfl rfl rfl rfl rfl (hl') rfl (hz)) rfl ?_)
    (refine nx (a_field_ad (gd_on rfl rfl rfl rfl (by first | rfl | assumption | (simp; done))) rfl rfl rfl rfl rfl rfl rfl rfl rfl rfl rfl) rfl ?_)
    (refine nx (a_load_ad (gd_on rfl rfl rfl rfl (by first | rfl | assumption | (simp; done))) rfl rfl rfl rfl rfl rfl rfl rfl rfl) rfl ?_)
    (refine ⟨_, _, _, aPf (gN rfl) rfl rfl rfl rfl rfl ?hb rfl, rfl, ?_⟩; case hb => (first | rfl | assumption | (simp; done)))
    show AWp _ _ _ _ _ _ _
    refine aC rfl (fun hc => by cases hc) (fun _ => aK ?_)
    show AWp _ _ _ _ _ _ _
    refine aS (aD (by kernel_rfl) (by kernel_rfl) ?_)
    (refine nx (aM (gN rfl) rfl rfl rfl rfl rfl) rfl ?_)
    (refine nx (a_index (j := 0) (gN rfl) rfl rfl rfl rfl rfl rfl rfl rfl rfl (hl') rfl (hz)) rfl ?_)
    (refine nx (a_field_ad (gN rfl) rfl rfl rfl rfl rfl rfl rfl rfl rfl rfl rfl) rfl ?_)
    (refine nx (a_load_ad (gN rfl) rfl rfl rfl rfl rfl rfl rfl rfl rfl) rfl ?_)
    (refine nx (aM (gN rfl) rfl rfl rfl rfl rfl) rfl ?_)
    (refine nx (a_index (j := 0) (gN rfl) rfl rfl rfl rfl rfl rfl rfl rfl rfl (hl') rfl (hz)) rfl ?_)
    (refine nx (a_field_ad (gN rfl) rfl rfl rfl rfl rfl rfl rfl rfl rfl rfl rfl) rfl ?_)
    (refine nx (a_load_ad (gN rfl) rfl rfl rfl rfl rfl rfl rfl rfl rfl) rfl ?_)
    (refine nx (a_alloc (gN rfl) rfl rfl rfl rfl rfl rfl rfl rfl rfl rfl) rfl ?_)
    (refine nx (a_alloc (gN rfl) rfl rfl rfl rfl rfl rfl rfl rfl rfl rfl) rfl ?_)
    (refine nx (aSt (gN rfl) rfl rfl rfl rfl rfl rfl rfl rfl rfl rfl) rfl ?_)
    (refine nx (aSt (gN rfl) rfl rfl rfl rfl rfl rfl rfl rfl rfl rfl) rfl ?_)
    refine ⟨by kernel_rfl, ?_⟩
    show AWp _ _ _ _ _ _ _
    refine aS (aS (aR ?_))
    (refine nx (aL (gN rfl) rfl rfl rfl rfl rfl rfl rfl rfl rfl rfl rfl rfl) rfl ?_)
    (refine nx (aL (gN rfl) rfl rfl rfl rfl rfl rfl rfl rfl rfl rfl rfl rfl) rfl ?_)
    (refine nx (a_call (gN rfl) rfl rfl rfl rfl rfl (hk w)) rfl ?_)
    show AWp _ _ _ _ _ _ _
    refine aB (aS (aR ?_))
    (refine nx (a_eql (gN rfl) rfl rfl rfl rfl rfl rfl) rfl ?_)
    (refine nx (aA (gN rfl) rfl rfl rfl rfl rfl) rfl ?_)
    show AWp _ _ _ _ _ _ _
    refine aC rfl (fun hc => by cases hc) (fun _ => ?_)
    refine aS (aR ?_)
    (refine nx (a_eql (gN rfl) rfl rfl rfl rfl rfl rfl) rfl ?_)
    (refine nx (aA (gN rfl) rfl rfl rfl rfl rfl) rfl ?_)
    show AWp _ _ _ _ _ _ _
    refine aC rfl (fun _ => ?_) (fun hc => by cases hc)
    refine aS (aD (by kernel_rfl) (by kernel_rfl) ?_)
    (refine nx (aM (gN rfl) rfl rfl rfl rfl rfl) rfl ?_)
    (refine nx (aL (gN rfl) rfl rfl rfl rfl rfl rfl rfl rfl rfl rfl rfl rfl) rfl ?_)
    (refine nx (a_call (gN rfl) rfl rfl rfl rfl rfl (hcb w)) rfl ?_)
    (refine nx (aL (gN rfl) rfl rfl rfl rfl rfl rfl rfl rfl rfl rfl rfl rfl) rfl ?_)
    (refine nx (a_call (gN rfl) rfl rfl rfl rfl rfl (hca w)) rfl ?_)
    (refine nx (a_build (gN rfl) rfl rfl rfl rfl rfl rfl rfl rfl rfl rfl rfl) rfl ?_)
    (refine nx (aSt (gN rfl) rfl rfl rfl rfl rfl rfl rfl rfl rfl rfl) rfl ?_)
    (refine nx (aA (gN rfl) rfl rfl rfl rfl rfl) rfl ?_)
    refine ⟨by kernel_rfl, ?_⟩
    show AWp _ _ _ _ _ _ _
    exact aT ⟨.inr rfl, rfl⟩
  have e : ofR id [(⟨false, a, b⟩ : Lt)] = none := by rw [ofR_one, if_neg h1, if_neg h2]
  rw [e]
  have h3 : decide (kb a b = -1) = false := decide_eq_false fun h => h2 (by rw [kb_turn a b, h]; rfl)
  have h1 : decide (kb a b = 1) = false := decide_eq_false h1
  obtain ⟨kv, hkv⟩ : ∃ kv, kv = kb a b := ⟨_, rfl⟩
  rw [← hkv] at hk h1 h3
  show AFun _ _ _ _ (.tup [ruZ, .b false])
  refine afun_of (rs := [ruZ, .b false]) Try.func29 Try.ntmps29 rfl rfl rfl rfl ?_
  intro w U hW
  refine aS (aR ?_)
  (refine nx (a_alloc (gN rfl) rfl rfl rfl rfl rfl rfl rfl rfl rfl rfl) rfl ?_)
  (refine nx (aA (gN rfl) rfl rfl rfl rfl rfl) rfl ?_)
  show AWp _ _ _ _ _ _ _
  refine aS (aS (aR ?_))
  (refine nx (aM (gN rfl) rfl rfl rfl rfl rfl) rfl ?_)
  (refine nx (a_len (gN rfl) rfl rfl rfl rfl rfl rfl rfl) rfl ?_)
  (refine nx (a_neq (gN rfl) rfl rfl rfl rfl rfl rfl) rfl ?_)
  (refine nx (aM (gN rfl) rfl rfl rfl rfl rfl) rfl ?_)
  (refine nx (aM (gd_on rfl rfl rfl rfl (by first | rfl | assumption | (simp; done))) rfl rfl rfl rfl rfl) rfl ?_)
  (refine nx (a_index (j := 0) (gd_on rfl rfl rfl rfl (by first | rfl | assumption | (simp; done))) rfl rfl rfl rfl rfl rfl rfl rfl rfl (hl') rfl (hz)) rfl ?_)
  (refine nx (a_field_ad (gd_on rfl rfl rfl rfl (by first | rfl | assumption | (simp; done))) rfl rfl rfl rfl rfl rfl rfl rfl rfl rfl rfl) rfl ?_)
  (refine nx (a_load_ad (gd_on rfl rfl rfl rfl (by first | rfl | assumption | (simp; done))) rfl rfl rfl rfl rfl rfl rfl rfl rfl) rfl ?_)
  (refine ⟨_, _, _, aPf (gN rfl) rfl rfl rfl rfl rfl ?hb rfl, rfl, ?_⟩; case hb => (first | rfl | assumption | (simp; done)))
  show AWp _ _ _ _ _ _ _
  refine aC rfl (fun hc => by cases hc) (fun _ => aK ?_)
  show AWp _ _ _ _ _ _ _
  refine aS (aD (by kernel_rfl) (by kernel_rfl) ?_)
  (refine nx (aM (gN rfl) rfl rfl rfl rfl rfl) rfl ?_)
  (refine nx (a_index (j := 0) (gN rfl) rfl rfl rfl rfl rfl rfl rfl rfl rfl (hl') rfl (hz)) rfl ?_)
  (refine nx (a_field_ad (gN rfl) rfl rfl rfl rfl rfl rfl rfl rfl rfl rfl rfl) rfl ?_)
  (refine nx (a_load_ad (gN rfl) rfl rfl rfl rfl rfl rfl rfl rfl rfl) rfl ?_)
  (refine nx (aM (gN rfl) rfl rfl rfl rfl rfl) rfl ?_)
  (refine nx (a_index (j := 0) (gN rfl) rfl rfl rfl rfl rfl rfl rfl rfl rfl (hl') rfl (hz)) rfl ?_)
  (refine nx (a_field_ad (gN rfl) rfl rfl rfl rfl rfl rfl rfl rfl rfl rfl rfl) rfl ?_)
  (refine nx (a_load_ad (gN rfl) rfl rfl rfl rfl rfl rfl rfl rfl rfl) rfl ?_)
  (refine nx (a_alloc (gN rfl) rfl rfl rfl rfl rfl rfl rfl rfl rfl rfl) rfl ?_)
  (refine nx (a_alloc (gN rfl) rfl rfl rfl rfl rfl rfl rfl rfl rfl rfl) rfl ?_)
  (refine nx (aSt (gN rfl) rfl rfl rfl rfl rfl rfl rfl rfl rfl rfl) rfl ?_)
  (refine nx (aSt (gN rfl) rfl rfl rfl rfl rfl rfl rfl rfl rfl rfl) rfl ?_)
  refine ⟨by kernel_rfl, ?_⟩
  show AWp _ _ _ _ _ _ _
  refine aS (aS (aR ?_))
  (refine nx (aL (gN rfl) rfl rfl rfl rfl rfl rfl rfl rfl rfl rfl rfl rfl) rfl ?_)
  (refine nx (aL (gN rfl) rfl rfl rfl rfl rfl rfl rfl rfl rfl rfl rfl rfl) rfl ?_)
  (refine nx (a_call (gN rfl) rfl rfl rfl rfl rfl (hk w)) rfl ?_)
  show AWp _ _ _ _ _ _ _
  refine aB (aS (aR ?_))
  (refine nx (a_eql (gN rfl) rfl rfl rfl rfl rfl rfl) rfl ?_)
  (refine nx (aA (gN rfl) rfl rfl rfl rfl rfl) rfl ?_)
  show AWp _ _ _ _ _ _ _
  refine aC rfl (fun hc => by rw [h1] at hc; cases hc) (fun _ => ?_)
  refine aS (aR ?_)
  (refine nx (a_eql (gN rfl) rfl rfl rfl rfl rfl rfl) rfl ?_)
  (refine nx (aA (gN rfl) rfl rfl rfl rfl rfl) rfl ?_)
  show AWp _ _ _ _ _ _ _
  refine aC rfl (fun hc => by rw [h3] at hc; cases hc) (fun _ => aK ?_)
  show AWp _ _ _ _ _ _ _
  refine aS (aR ?_)
  (refine nx (a_build (gN rfl) rfl rfl rfl rfl rfl rfl rfl rfl rfl rfl rfl) rfl ?_)
  (refine nx (aSt (gN rfl) rfl rfl rfl rfl rfl rfl rfl rfl rfl rfl) rfl ?_)
  (refine nx (aA (gN rfl) rfl rfl rfl rfl rfl) rfl ?_)
  show AWp _ _ _ _ _ _ _
  exact aT ⟨.inr rfl, rfl⟩
theorem wOf_abs (W : World) (id : Int) (c : List Lt) (hc : ∀ l ∈ c, l.ok17) : AFun Try.prog W 29 [.i id, .lst (c.map Lt.cv)] (ruE (ofR id c)) := by
  match c, hc with
  | [], _ => exact wOf_many W id [] (by simp)
  | [⟨true, a, b⟩], _ =>
    have := wOf_neg W id a b
    exact this
  | [⟨false, a, b⟩], h => exact wOf_one W id a b (h _ (by simp))
  | x :: y :: c, _ => exact wOf_many W id (x :: y :: c) (by simp)

-- 
theorem dOf_many (W : World) (id : Int) (c : List Lt) (h : c.length ≠ 1) : AFun Try.prog W 30 [.i id, .lst (c.map Lt.cv)] (.tup [ruZ, .b false]) := by
  have g : decide (((c.map Lt.cv).length : Int) ≠ 1) = true := by simp; omega
  refine afun_of (rs := [ruZ, .b false]) Try.func30 Try.ntmps30 rfl rfl rfl rfl ?_
  intro w U hW
  refine aS (aR ?_)
  (refine nx (a_alloc (gN rfl) rfl rfl rfl rfl rfl rfl rfl rfl rfl rfl) rfl ?_)
  (refine nx (aA (gN rfl) rfl rfl rfl rfl rfl) rfl ?_)
  show AWp _ _ _ _ _ _ _
  refine aS (aS (aR ?_))
  (refine nx (aM (gN rfl) rfl rfl rfl rfl rfl) rfl ?_)
  (refine nx (a_len (gN rfl) rfl rfl rfl rfl rfl rfl rfl) rfl ?_)
  (refine nx (a_neq (gN rfl) rfl rfl rfl rfl rfl rfl) rfl ?_)
  (refine nx (aM (gN rfl) rfl rfl rfl rfl rfl) rfl ?_)
  (refine ⟨_, _, _, a_off (go_off rfl rfl rfl rfl (by first | rfl | assumption | (simp; done) | (simp [*]; done))) rfl rfl rfl, rfl, ?_⟩)
  (refine ⟨_, _, _, a_off (go_off rfl rfl rfl rfl (by first | rfl | assumption | (simp; done) | (simp [*]; done))) rfl rfl rfl, rfl, ?_⟩)
  (refine ⟨_, _, _, a_off (go_off rfl rfl rfl rfl (by first | rfl | assumption | (simp; done) | (simp [*]; done))) rfl rfl rfl, rfl, ?_⟩)
  (refine ⟨_, _, _, a_off (go_off rfl rfl rfl rfl (by first | rfl | assumption | (simp; done) | (simp [*]; done))) rfl rfl rfl, rfl, ?_⟩)
  (refine ⟨_, _, _, aPt (gN rfl) rfl rfl rfl rfl rfl ?hb rfl, rfl, ?_⟩; case hb => (first | rfl | assumption | (simp; done)))
  show AWp _ _ _ _ _ _ _
  refine aC rfl (fun _ => ?_) (fun hc => by cases hc)
  refine aS (aR ?_)
  (refine nx (a_build (gN rfl) rfl rfl rfl rfl rfl rfl rfl rfl rfl rfl rfl) rfl ?_)
  (refine nx (aSt (gN rfl) rfl rfl rfl rfl rfl rfl rfl rfl rfl rfl) rfl ?_)
  (refine nx (aA (gN rfl) rfl rfl rfl rfl rfl) rfl ?_)
  show AWp _ _ _ _ _ _ _
  exact aT ⟨.inr rfl, rfl⟩
-- 
theorem dOf_neg (W : World) (id : Int) (a b : Tm) : AFun Try.prog W 30 [.i id, .lst ([(⟨true, a, b⟩ : Lt)].map Lt.cv)] (.tup [ruZ, .b false]) := by
  have hl' : ([(⟨true, a, b⟩ : Lt)].map Lt.cv)[0]? = some (Lt.mk true a b).cw := rfl
  have hz := Lt.size_all [(⟨true, a, b⟩ : Lt)]
  refine afun_of (rs := [ruZ, .b false]) Try.func30 Try.ntmps30 rfl rfl rfl rfl ?_
  intro w U hW
  refine aS (aR ?_)
  (refine nx (a_alloc (gN rfl) rfl rfl rfl rfl rfl rfl rfl rfl rfl rfl) rfl ?_)
  (refine nx (aA (gN rfl) rfl rfl rfl rfl rfl) rfl ?_)
  show AWp _ _ _ _ _ _ _
  refine aS (aS (aR ?_))
  (refine nx (aM (gN rfl) rfl rfl rfl rfl rfl) rfl ?_)
  (refine nx (a_len (gN rfl) rfl rfl rfl rfl rfl rfl rfl) rfl ?_)
  (refine nx (a_neq (gN rfl) rfl rfl rfl rfl rfl rfl) rfl ?_)
  (refine nx (aM (gN rfl) rfl rfl rfl rfl rfl) rfl ?_)
  (refine nx (aM (gd_on rfl rfl rfl rfl (by first | rfl | assumption | (simp; done))) rfl rfl rfl rfl rfl) rfl ?_)
  (refine nx (a_index (j := 0) (gd_on rfl rfl rfl rfl (by first | rfl | assumption | (simp; done))) rfl rfl rfl rfl rfl rfl rfl rfl rfl (hl') rfl (hz)) rfl ?_)
  (refine nx (a_field_ad (gd_on rfl rfl rfl rfl (by first | rfl | assumption | (simp; done))) rfl rfl rfl rfl rfl rfl rfl rfl rfl rfl rfl) rfl ?_)
  (refine nx (a_load_ad (gd_on rfl rfl rfl rfl (by first | rfl | assumption | (simp; done))) rfl rfl rfl rfl rfl rfl rfl rfl rfl) rfl ?_)
  (refine ⟨_, _, _, aPf (gN rfl) rfl rfl rfl rfl rfl ?hb rfl, rfl, ?_⟩; case hb => (first | rfl | assumption | (simp; done)))
  show AWp _ _ _ _ _ _ _
  refine aC rfl (fun _ => ?_) (fun hc => by cases hc)
  refine aS (aR ?_)
  (refine nx (a_build (gN rfl) rfl rfl rfl rfl rfl rfl rfl rfl rfl rfl rfl) rfl ?_)
  (refine nx (aSt (gN rfl) rfl rfl rfl rfl rfl rfl rfl rfl rfl rfl) rfl ?_)
  (refine nx (aA (gN rfl) rfl rfl rfl rfl rfl) rfl ?_)
  show AWp _ _ _ _ _ _ _
  exact aT ⟨.inr rfl, rfl⟩
-- 
set_option maxHeartbeats 1000000 in
theorem dOf_one (W : World) (id : Int) (a b : Tm) (hl : (Lt.mk false a b).ok17) : AFun Try.prog W 30 [.i id, .lst ([(⟨false, a, b⟩ : Lt)].map Lt.cv)] (ruE (ofD id [⟨false, a, b⟩])) := by
  obtain ⟨⟨har, hao, has⟩, hbr, hbo, hbs⟩ := hl
  have har : a.rng := har
  have hao : a.ok := hao
  have has : a.size ≤ 1000000 := has
  have hbr : b.rng := hbr
  have hbo : b.ok := hbo
  have hbs : b.size ≤ 1000000 := hbs
  have hl' : ([(⟨false, a, b⟩ : Lt)].map Lt.cv)[0]? = some (Lt.mk false a b).cw := rfl
  have hz := Lt.size_all [(⟨false, a, b⟩ : Lt)]
  have hk := fun w => rGreater_abs w a har hao (by omega) b hbr hbo (by omega)
  have hk2 := fun w => rGreater_abs w b hbr hbo (by omega) a har hao (by omega)
  by_cases h1 : kb a b = 1
  · have e : ofD id [(⟨false, a, b⟩ : Lt)] = some ⟨id, a, b⟩ := by rw [ofD_one, if_pos h1]
    rw [e]
    rw [decide_eq_true h1] at hk
    show AFun _ _ _ _ (.tup [RuT.cw ⟨id, a, b⟩, .b true])
    refine afun_of (rs := [RuT.cw ⟨id, a, b⟩, .b true]) Try.func30 Try.ntmps30 rfl rfl rfl rfl ?_
    intro w U hW
    refine aS (aR ?_)
    (refine nx (a_alloc (gN rfl) rfl rfl rfl rfl rfl rfl rfl rfl rfl rfl) rfl ?_)
    (refine nx (aA (gN rfl) rfl rfl rfl rfl rfl) rfl ?_)
    show AWp _ _ _ _ _ _ _
    refine aS (aS (aR ?_))
    (refine nx (aM (gN rfl) rfl rfl rfl rfl rfl) rfl ?_)
    (refine nx (a_len (gN rfl) rfl rfl rfl rfl rfl rfl rfl) rfl ?_)
    (refine nx (a_neq (gN rfl) rfl rfl rfl rfl rfl rfl) rfl ?_)
    (refine nx (aM (gN rfl) rfl rfl rfl rfl rfl) rfl ?_)
    (refine nx (aM (gd_on rfl rfl rfl rfl (by first | rfl | assumption | (simp; done))) rfl rfl rfl rfl rfl) rfl ?_)
    (refine nx (a_index (j := 0) (gd_on rfl rfl rfl rfl (by first | rfl | assumption | (simp; done))) rfl rfl rfl rfl rfl rfl rfl rfl rfl (hl') rfl (hz)) rfl ?_)
    (refine nx (a_field_ad (gd_on rfl rfl rfl rfl (by first | rfl | assumption | (simp; done))) rfl rfl rfl rfl rfl rfl rfl rfl rfl rfl rfl) rfl ?_)
    (refine nx (a_load_ad (gd_on rfl rfl rfl rfl (by first | rfl | assumption | (simp; done))) rfl rfl rfl rfl rfl rfl rfl rfl rfl) rfl ?_)
    (refine ⟨_, _, _, aPf (gN rfl) rfl rfl rfl rfl rfl ?hb rfl, rfl, ?_⟩; case hb => (first | rfl | assumption | (simp; done)))
    show AWp _ _ _ _ _ _ _
    refine aC rfl (fun hc => by cases hc) (fun _ => aK ?_)
    show AWp _ _ _ _ _ _ _
    refine aS (aS (aD (by kernel_rfl) (by kernel_rfl) ?_))
    (refine nx (aM (gN rfl) rfl rfl rfl rfl rfl) rfl ?_)
    (refine nx (a_index (j := 0) (gN rfl) rfl rfl rfl rfl rfl rfl rfl rfl rfl (hl') rfl (hz)) rfl ?_)
    (refine nx (a_field_ad (gN rfl) rfl rfl rfl rfl rfl rfl rfl rfl rfl rfl rfl) rfl ?_)
    (refine nx (a_load_ad (gN rfl) rfl rfl rfl rfl rfl rfl rfl rfl rfl) rfl ?_)
    (refine nx (aM (gN rfl) rfl rfl rfl rfl rfl) rfl ?_)
    (refine nx (a_index (j := 0) (gN rfl) rfl rfl rfl rfl rfl rfl rfl rfl rfl (hl') rfl (hz)) rfl ?_)
    (refine nx (a_field_ad (gN rfl) rfl rfl rfl rfl rfl rfl rfl rfl rfl rfl rfl) rfl ?_)
    (refine nx (a_load_ad (gN rfl) rfl rfl rfl rfl rfl rfl rfl rfl rfl) rfl ?_)
    (refine nx (a_call (gN rfl) rfl rfl rfl rfl rfl (hk w)) rfl ?_)
    refine ⟨by kernel_rfl, ?_⟩
    show AWp _ _ _ _ _ _ _
    refine aC rfl (fun _ => ?_) (fun hc => by cases hc)
    refine aS (aD (by kernel_rfl) (by kernel_rfl) ?_)
    (refine nx (aM (gN rfl) rfl rfl rfl rfl rfl) rfl ?_)
    (refine nx (aM (gN rfl) rfl rfl rfl rfl rfl) rfl ?_)
    (refine nx (a_index (j := 0) (gN rfl) rfl rfl rfl rfl rfl rfl rfl rfl rfl (hl') rfl (hz)) rfl ?_)
    (refine nx (a_field_ad (gN rfl) rfl rfl rfl rfl rfl rfl rfl rfl rfl rfl rfl) rfl ?_)
    (refine nx (a_load_ad (gN rfl) rfl rfl rfl rfl rfl rfl rfl rfl rfl) rfl ?_)
    (refine nx (aM (gN rfl) rfl rfl rfl rfl rfl) rfl ?_)
    (refine nx (a_index (j := 0) (gN rfl) rfl rfl rfl rfl rfl rfl rfl rfl rfl (hl') rfl (hz)) rfl ?_)
    (refine nx (a_field_ad (gN rfl) rfl rfl rfl rfl rfl rfl rfl rfl rfl rfl rfl) rfl ?_)
    (refine nx (a_load_ad (gN rfl) rfl rfl rfl rfl rfl rfl rfl rfl rfl) rfl ?_)
    (refine nx (a_build (gN rfl) rfl rfl rfl rfl rfl rfl rfl rfl rfl rfl rfl) rfl ?_)
    (refine nx (aSt (gN rfl) rfl rfl rfl rfl rfl rfl rfl rfl rfl rfl) rfl ?_)
    (refine nx (aA (gN rfl) rfl rfl rfl rfl rfl) rfl ?_)
    refine ⟨by kernel_rfl, ?_⟩
    show AWp _ _ _ _ _ _ _
    exact aT ⟨.inr rfl, rfl⟩
  rw [decide_eq_false h1] at hk
  by_cases h2 : kb b a = 1
  · have e : ofD id [(⟨false, a, b⟩ : Lt)] = some ⟨id, b, a⟩ := by rw [ofD_one, if_neg h1, if_pos h2]
    rw [e]
    rw [decide_eq_true h2] at hk2
    show AFun _ _ _ _ (.tup [RuT.cw ⟨id, b, a⟩, .b true])
    refine afun_of (rs := [RuT.cw ⟨id, b, a⟩, .b true]) Try.func30 Try.ntmps30 rfl rfl rfl rfl ?_
    intro w U hW
    refine aS (aR ?_)
    (refine nx (a_alloc (gN rfl) rfl rfl rfl rfl rfl rfl rfl rfl rfl rfl) rfl ?_)
    (refine nx (aA (gN rfl) rfl rfl rfl rfl rfl) rfl ?_)
    show AWp _ _ _ _ _ _ _
    refine aS (aS (aR ?_))
    (refine nx (aM (gN rfl) rfl rfl rfl rfl rfl) rfl ?_)
    (refine nx (a_len (gN rfl) rfl rfl rfl rfl rfl rfl rfl) rfl ?_)
    (refine nx (a_neq (gN rfl) rfl rfl rfl rfl rfl rfl) rfl ?_)
    (refine nx (aM (gN rfl) rfl rfl rfl rfl rfl) rfl ?_)
    (refine nx (aM (gd_on rfl rfl rfl rfl (by first | rfl | assumption | (simp; done))) rfl rfl rfl rfl rfl) rfl ?_)
    (refine nx (a_index (j := 0) (gd_on rfl rfl rfl rfl (by first | rfl | assumption | (simp; done))) rfl rfl rfl rfl rfl rfl rfl rfl rfl (hl') rfl (hz)) rfl ?_)
    (refine nx (a_field_ad (gd_on rfl rfl rfl rfl (by first | rfl | assumption | (simp; done))) rfl rfl rfl rfl rfl rfl rfl rfl rfl rfl rfl) rfl ?_)
    (refine nx (a_load_ad (gd_on rfl rfl rfl rfl (by first | rfl | assumption | (simp; done))) rfl rfl rfl rfl rfl rfl rfl rfl rfl) rfl ?_)
    (refine ⟨_, _, _, aPf (gN rfl) rfl rfl rfl rfl rfl ?hb rfl, rfl, ?_⟩; case hb => (first | rfl | assumption | (simp; done)))
    show AWp _ _ _ _ _ _ _
    refine aC rfl (fun hc => by cases hc) (fun _ => aK ?_)
    show AWp _ _ _ _ _ _ _
    refine aS (aS (aD (by kernel_rfl) (by kernel_rfl) ?_))
    (refine nx (aM (gN rfl) rfl rfl rfl rfl rfl) rfl ?_)
    (refine nx (a_index (j := 0) (gN rfl) rfl rfl rfl rfl rfl rfl rfl rfl rfl (hl') rfl (hz)) rfl ?_)
    (refine nx (a_field_ad (gN rfl) rfl rfl rfl rfl rfl rfl rfl rfl rfl rfl rfl) rfl ?_)
    (refine nx (a_load_ad (gN rfl) rfl rfl rfl rfl rfl rfl rfl rfl rfl) rfl ?_)
    (refine nx (aM (gN rfl) rfl rfl rfl rfl rfl) rfl ?_)
    (refine nx (a_index (j := 0) (gN rfl) rfl rfl rfl rfl rfl rfl rfl rfl rfl (hl') rfl (hz)) rfl ?_)
    (refine nx (a_field_ad (gN rfl) rfl rfl rfl rfl rfl rfl rfl rfl rfl rfl rfl) rfl ?_)
    (refine nx (a_load_ad (gN rfl) rfl rfl rfl rfl rfl rfl rfl rfl rfl) rfl ?_)
    (refine nx (a_call (gN rfl) rfl rfl rfl rfl rfl (hk w)) rfl ?_)
    refine ⟨by kernel_rfl, ?_⟩
    show AWp _ _ _ _ _ _ _
    refine aC rfl (fun hc => by cases hc) (fun _ => aK ?_)
    show AWp _ _ _ _ _ _ _
    refine aS (aS (aD (by kernel_rfl) (by kernel_rfl) ?_))
    (refine nx (aM (gN rfl) rfl rfl rfl rfl rfl) rfl ?_)
    (refine nx (a_index (j := 0) (gN rfl) rfl rfl rfl rfl rfl rfl rfl rfl rfl (hl') rfl (hz)) rfl ?_)
    (refine nx (a_field_ad (gN rfl) rfl rfl rfl rfl rfl rfl rfl rfl rfl rfl rfl) rfl ?_)
    (refine nx (a_load_ad (gN rfl) rfl rfl rfl rfl rfl rfl rfl rfl rfl) rfl ?_)
    (refine nx (aM (gN rfl) rfl rfl rfl rfl rfl) rfl ?_)
    (refine nx (a_index (j := 0) (gN rfl) rfl rfl rfl rfl rfl rfl rfl rfl rfl (hl') rfl (hz)) rfl ?_)
    (refine nx (a_field_ad (gN rfl) rfl rfl rfl rfl rfl rfl rfl rfl rfl rfl rfl) rfl ?_)
    (refine nx (a_load_ad (gN rfl) rfl rfl rfl rfl rfl rfl rfl rfl rfl) rfl ?_)
    (refine nx (a_call (gN rfl) rfl rfl rfl rfl rfl (hk2 w)) rfl ?_)
    refine ⟨by kernel_rfl, ?_⟩
    show AWp _ _ _ _ _ _ _
    refine aC rfl (fun _ => ?_) (fun hc => by cases hc)
    refine aS (aD (by kernel_rfl) (by kernel_rfl) ?_)
    (refine nx (aM (gN rfl) rfl rfl rfl rfl rfl) rfl ?_)
    (refine nx (aM (gN rfl) rfl rfl rfl rfl rfl) rfl ?_)
    (refine nx (a_index (j := 0) (gN rfl) rfl rfl rfl rfl rfl rfl rfl rfl rfl (hl') rfl (hz)) rfl ?_)
    (refine nx (a_field_ad (gN rfl) rfl rfl rfl rfl rfl rfl rfl rfl rfl rfl rfl) rfl ?_)
    (refine nx (a_load_ad (gN rfl) rfl rfl rfl rfl rfl rfl rfl rfl rfl) rfl ?_)
    (refine nx (aM (gN rfl) rfl rfl rfl rfl rfl) rfl ?_)
    (refine nx (a_index (j := 0) (gN rfl) rfl rfl rfl rfl rfl rfl rfl rfl rfl (hl') rfl (hz)) rfl ?_)
    (refine nx (a_field_ad (gN rfl) rfl rfl rfl rfl rfl rfl rfl rfl rfl rfl rfl) rfl ?_)
    (refine nx (a_load_ad (gN rfl) rfl rfl rfl rfl rfl rfl rfl rfl rfl) rfl ?_)
    (refine nx (a_build (gN rfl) rfl rfl rfl rfl rfl rfl rfl rfl rfl rfl rfl) rfl ?_)
    (refine nx (aSt (gN rfl) rfl rfl rfl rfl rfl rfl rfl rfl rfl rfl) rfl ?_)
    (refine nx (aA (gN rfl) rfl rfl rfl rfl rfl) rfl ?_)
    refine ⟨by kernel_rfl, ?_⟩
    show AWp _ _ _ _ _ _ _
    exact aT ⟨.inr rfl, rfl⟩
  have e : ofD id [(⟨false, a, b⟩ : Lt)] = none := by rw [ofD_one, if_neg h1, if_neg h2]
  rw [e]
  rw [decide_eq_false h2] at hk2
  show AFun _ _ _ _ (.tup [ruZ, .b false])
  refine afun_of (rs := [ruZ, .b false]) Try.func30 Try.ntmps30 rfl rfl rfl rfl ?_
  intro w U hW
  refine aS (aR ?_)
  (refine nx (a_alloc (gN rfl) rfl rfl rfl rfl rfl rfl rfl rfl rfl rfl) rfl ?_)
  (refine nx (aA (gN rfl) rfl rfl rfl rfl rfl) rfl ?_)
  show AWp _ _ _ _ _ _ _
  refine aS (aS (aR ?_))
  (refine nx (aM (gN rfl) rfl rfl rfl rfl rfl) rfl ?_)
  (refine nx (a_len (gN rfl) rfl rfl rfl rfl rfl rfl rfl) rfl ?_)
  (refine nx (a_neq (gN rfl) rfl rfl rfl rfl rfl rfl) rfl ?_)
  (refine nx (aM (gN rfl) rfl rfl rfl rfl rfl) rfl ?_)
  (refine nx (aM (gd_on rfl rfl rfl rfl (by first | rfl | assumption | (simp; done))) rfl rfl rfl rfl rfl) rfl ?_)
  (refine nx (a_index (j := 0) (gd_on rfl rfl rfl rfl (by first | rfl | assumption | (simp; done))) rfl rfl rfl rfl rfl rfl rfl rfl rfl (hl') rfl (hz)) rfl ?_)
  (refine nx (a_field_ad (gd_on rfl rfl rfl rfl (by first | rfl | assumption | (simp; done))) rfl rfl rfl rfl rfl rfl rfl rfl rfl rfl rfl) rfl ?_)
  (refine nx (a_load_ad (gd_on rfl rfl rfl rfl (by first | rfl | assumption | (simp; done))) rfl rfl rfl rfl rfl rfl rfl rfl rfl) rfl ?_)
  (refine ⟨_, _, _, aPf (gN rfl) rfl rfl rfl rfl rfl ?hb rfl, rfl, ?_⟩; case hb => (first | rfl | assumption | (simp; done)))
  show AWp _ _ _ _ _ _ _
  refine aC rfl (fun hc => by cases hc) (fun _ => aK ?_)
  show AWp _ _ _ _ _ _ _
  refine aS (aS (aD (by kernel_rfl) (by kernel_rfl) ?_))
  (refine nx (aM (gN rfl) rfl rfl rfl rfl rfl) rfl ?_)
  (refine nx (a_index (j := 0) (gN rfl) rfl rfl rfl rfl rfl rfl rfl rfl rfl (hl') rfl (hz)) rfl ?_)
  (refine nx (a_field_ad (gN rfl) rfl rfl rfl rfl rfl rfl rfl rfl rfl rfl rfl) rfl ?_)
  (refine nx (a_load_ad (gN rfl) rfl rfl rfl rfl rfl rfl rfl rfl rfl) rfl ?_)
  (refine nx (aM (gN rfl) rfl rfl rfl rfl rfl) rfl ?_)
  (refine nx (a_index (j := 0) (gN rfl) rfl rfl rfl rfl rfl rfl rfl rfl rfl (hl') rfl (hz)) rfl ?_)
  (refine nx (a_field_ad (gN rfl) rfl rfl rfl rfl rfl rfl rfl rfl rfl rfl rfl) rfl ?_)
  (refine nx (a_load_ad (gN rfl) rfl rfl rfl rfl rfl rfl rfl rfl rfl) rfl ?_)
  (refine nx (a_call (gN rfl) rfl rfl rfl rfl rfl (hk w)) rfl ?_)
  refine ⟨by kernel_rfl, ?_⟩
  show AWp _ _ _ _ _ _ _
  refine aC rfl (fun hc => by cases hc) (fun _ => aK ?_)
  show AWp _ _ _ _ _ _ _
  refine aS (aS (aD (by kernel_rfl) (by kernel_rfl) ?_))
  (refine nx (aM (gN rfl) rfl rfl rfl rfl rfl) rfl ?_)
  (refine nx (a_index (j := 0) (gN rfl) rfl rfl rfl rfl rfl rfl rfl rfl rfl (hl') rfl (hz)) rfl ?_)
  (refine nx (a_field_ad (gN rfl) rfl rfl rfl rfl rfl rfl rfl rfl rfl rfl rfl) rfl ?_)
  (refine nx (a_load_ad (gN rfl) rfl rfl rfl rfl rfl rfl rfl rfl rfl) rfl ?_)
  (refine nx (aM (gN rfl) rfl rfl rfl rfl rfl) rfl ?_)
  (refine nx (a_index (j := 0) (gN rfl) rfl rfl rfl rfl rfl rfl rfl rfl rfl (hl') rfl (hz)) rfl ?_)
  (refine nx (a_field_ad (gN rfl) rfl rfl rfl rfl rfl rfl rfl rfl rfl rfl rfl) rfl ?_)
  (refine nx (a_load_ad (gN rfl) rfl rfl rfl rfl rfl rfl rfl rfl rfl) rfl ?_)
  (refine nx (a_call (gN rfl) rfl rfl rfl rfl rfl (hk2 w)) rfl ?_)
  refine ⟨by kernel_rfl, ?_⟩
  show AWp _ _ _ _ _ _ _
  refine aC rfl (fun hc => by cases hc) (fun _ => aK ?_)
  show AWp _ _ _ _ _ _ _
  refine aS (aR ?_)
  (refine nx (a_build (gN rfl) rfl rfl rfl rfl rfl rfl rfl rfl rfl rfl rfl) rfl ?_)
  (refine nx (aSt (gN rfl) rfl rfl rfl rfl rfl rfl rfl rfl rfl rfl) rfl ?_)
  (refine nx (aA (gN rfl) rfl rfl rfl rfl rfl) rfl ?_)
  show AWp _ _ _ _ _ _ _
  exact aT ⟨.inr rfl, rfl⟩
theorem dOf_abs (W : World) (id : Int) (c : List Lt) (hc : ∀ l ∈ c, l.ok17) : AFun Try.prog W 30 [.i id, .lst (c.map Lt.cv)] (ruE (ofD id c)) := by
  match c, hc with
  | [], _ => exact dOf_many W id [] (by simp)
  | [⟨true, a, b⟩], _ =>
    have := dOf_neg W id a b
    exact this
  | [⟨false, a, b⟩], h => exact dOf_one W id a b (h _ (by simp))
  | x :: y :: c, _ => exact dOf_many W id (x :: y :: c) (by simp)
end Go.Proofs.Ytekboofbedakcaa
namespace Go.Proofs.Ytekboofbedakcaa
open Go.RowKit
set_option linter.unusedVariables false
set_option linter.unusedSimpArgs false
section
variable {P : Program} {w0 : World} {U0 : UX} {nt : Nat} {ops : Array Oper} {o : Oper} {S : Nat → Option AV} {gs : List Nat} {d : Nat}
variable (hg : Gd w0 U0 nt ops o gs S) (hd : o.dst = some d) (hn : Nat.blt d nt = true) (h5 : Nat.blt d 100000 = true)
include hg hd hn h5
end
end Go.Proofs.Ytekboofbedakcaa
namespace Go.Proofs.Ytekboofbedakcaa
set_option linter.unusedVariables false

end Go.Proofs.Ytekboofbedakcaa
namespace Go.Proofs.Ytekboofbedakcaa
open Go.RowKit
set_option linter.unusedVariables false











end Go.Proofs.Ytekboofbedakcaa
namespace Go.Proofs.Ytekboofbedakcaa
set_option linter.unusedVariables false
set_option linter.unusedSimpArgs false

end Go.Proofs.Ytekboofbedakcaa
namespace Go.Proofs.Ytekboofbedakcaa
open Go.RowKit
set_option linter.unusedVariables false
set_option linter.unusedSimpArgs false
set_option maxRecDepth 100000





end Go.Proofs.Ytekboofbedakcaa
namespace Go.Proofs.Ytekboofbedakcaa
open Go.RowKit
set_option linter.unusedVariables false
set_option linter.unusedSimpArgs false

end Go.Proofs.Ytekboofbedakcaa
namespace Go.Proofs.Ytekboofbedakcaa
open Go.RowKit
set_option linter.unusedVariables false
set_option linter.unusedSimpArgs false
set_option maxRecDepth 100000

def okC (c : List Lt) : Prop := ∀ l ∈ c, l.a.rng ∧ l.b.rng

end Go.Proofs.Ytekboofbedakcaa
