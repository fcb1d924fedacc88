/-
  A law on the statement 'x, .., z := Of(a), .., Of(c)', whatever the order of its parts: the boxes of what is made lie apart.
-/
import Derived.Test.YtkebkmpgejbbhaaTmTwo
import Derived.RegionTactic
namespace Go.Proofs.Ytkebkmpgejbbhaa
open Go.RowKit
set_option linter.unusedVariables false
set_option linter.unusedSimpArgs false

section
variable {P : Program} {ops : Array Oper} {Q : Exit → Act → World → Prop} {md : Region.Mode}

/-- How many are still to come. -/
def left (listed : Array Bool) : Nat := listed.toList.countP (fun b => !b)

theorem left_set {listed : Array Bool} {i : Nat} (h : listed.getD i true = false) : left (listed.setIfInBounds i true) + 1 = left listed := by
  have hlt : i < listed.size := by
    rcases Nat.lt_or_ge i listed.size with h1 | h1
    · exact h1
    · simp [Array.getD, Nat.not_lt.2 h1] at h
  have hi : listed.toList[i]'(by simpa using hlt) = false := by simpa [Array.getD, hlt] using h
  unfold left
  rw [Array.toList_setIfInBounds, List.countP_set (by simpa using hlt)]
  have hpos : 0 < listed.toList.countP (fun b => !b) := List.countP_pos_iff.2 ⟨_, List.getElem_mem (by simpa using hlt), by simp [hi]⟩
  rw [hi]
  simp only [Bool.not_false, Bool.not_true, if_true, Bool.false_eq_true, if_false]
  omega

theorem left_zero {listed : Array Bool} (h : left listed = 0) {i : Nat} (hi : i < listed.size) : listed.getD i true = true := by
  unfold left at h
  rw [List.countP_eq_zero] at h
  have := h (listed.toList[i]'(by simpa using hi)) (List.getElem_mem _)
  simpa [Array.getD, hi] using this

/-- What each part keeps, whatever came ahead of it, holds at the end. -/
theorem wpAny_inv (I : Array Bool → Act → World → Prop) (hord : ∀ (i : Nat) (o : Oper), ops[i]? = some o → ∀ e ∈ o.after, e.on < i) (hsz : ∀ listed a w, I listed a w → listed.size = ops.size)
    (hstep : ∀ (listed : Array Bool) (a : Act) (w : World) (i : Nat) (o : Oper), I listed a w → ops[i]? = some o → listed.getD i true = false → (∀ e ∈ o.after, Region.binds md e = true → listed.getD e.on false = true) → wpOp P ops Q i (I (listed.setIfInBounds i true)) a w)
    (hdone : ∀ listed a w, I listed a w → (∀ i, i < ops.size → listed.getD i true = true) → Q .normal a w) :
    ∀ (fuel : Nat) (listed : Array Bool) (a : Act) (w : World), I listed a w → left listed ≤ fuel → wpAny P md ops Q fuel listed a w := by
  have hready : ∀ listed a w, I listed a w → Region.ready md ops listed = [] → Q .normal a w := by
    intro listed a w hI hr
    refine hdone listed a w hI ?_
    intro i
    induction i using Nat.strongRecOn with
    | ind i ih =>
      intro hi
      rcases hb : listed.getD i true with _ | _
      · exfalso
        have hm : i ∈ Region.ready md ops listed := by
          refine mem_ready.2 ⟨hb, ops[i], Array.getElem?_eq_getElem hi, fun e he _ => ?_⟩
          have hlt := hord i _ (Array.getElem?_eq_getElem hi) e he
          have h1 := ih e.on hlt (by omega)
          have hs := hsz listed a w hI
          have h2 : e.on < listed.size := by omega
          simpa [Array.getD, h2] using h1
        rw [hr] at hm
        cases hm
      · rfl
  intro fuel
  induction fuel with
  | zero =>
    intro listed a w hI hl
    have hr : Region.ready md ops listed = [] := by
      rw [List.eq_nil_iff_forall_not_mem]
      intro i hi
      obtain ⟨h1, o, ho, _⟩ := mem_ready.1 hi
      have h2 := left_zero (Nat.le_zero.1 hl) (i := i) (by have := hsz listed a w hI; have := (Array.getElem?_eq_some_iff.1 ho).1; omega)
      rw [h1] at h2
      cases h2
    exact ⟨hr, hready listed a w hI hr⟩
  | succ fuel ih =>
    intro listed a w hI hl
    refine ⟨hready listed a w hI, fun i hi => ?_⟩
    obtain ⟨h1, o, ho, h2⟩ := mem_ready.1 hi
    refine wpOp_mono (fun a' w' h' => ih _ _ _ h' ?_) (hstep listed a w i o hI ho h1 h2)
    have := left_set h1
    omega
end

theorem eval_tmp {a : Act} {p : Nat} {v : Value} (h : a.tmps[p]? = some v) : a.eval (.tmp p) = v := by simp [Act.eval, h]

theorem run_load24 {a : Act} {w : World} {dst : Option Tmp} {p g : Nat} {x y : Value} {ty : TypeId} {ps : String} {af : Array Edge} {gd : Option (Nat × Bool)} (hp : a.tmps[p]? = some (.pointer (some ⟨g, 0, none⟩))) (hg : w.heap[g]? = some (.cells #[x, y] 24 (0, 0))) :
    (execOp a.eval ⟨dst, .load 24 (.tmp p), ty, ps, af, gd⟩).run Try.prog w = .ok (.value (.agg #[x, y])) w := by
  obtain ⟨c1, c2⟩ := cell2 hg
  have he := eval_tmp hp
  go_simp

theorem run_alloc29 {a : Act} {w : World} {dst : Option Tmp} {ty : TypeId} {ps : String} {af : Array Edge} {gd : Option (Nat × Bool)} :
    (execOp a.eval ⟨dst, .alloc 29, ty, ps, af, gd⟩).run Try.prog w = .ok (.value (.pointer (some ⟨w.heap.size, 0, none⟩))) (w.alloc Zb) := by
  go_simp
  rfl

theorem run_store29 {a : Act} {w : World} {dst : Option Tmp} {p c g : Nat} {f : Int} {sa : Option Addr} {sn sc : Nat} {x0 y0 : Value} {ty : TypeId} {ps : String} {af : Array Edge} {gd : Option (Nat × Bool)} (hp : a.tmps[p]? = some (.pointer (some ⟨g, 0, none⟩))) (hc : a.tmps[c]? = some (.agg #[.int .i64 f, .slice sa sn sc])) (hg : w.heap[g]? = some (.cells #[x0, y0] 29 (0, 0))) :
    (execOp a.eval ⟨dst, .store 29 (.tmp p) (.tmp c), ty, ps, af, gd⟩).run Try.prog w = .ok .skip ((w.setCell ⟨g, 0, none⟩ (.int .i64 f)).setCell ⟨g, 1, none⟩ (.slice sa sn sc)) := by
  obtain ⟨c1, c2⟩ := cell2 hg
  obtain ⟨f1, f2⟩ := frozen_box hg
  have he := eval_tmp hp
  have he' := eval_tmp hc
  go_simp

theorem run_callOf {a : Act} {w : World} {dst : Option Tmp} {t : Nat} {v : Value} {ts : Array TypeId} {ty : TypeId} {ps : String} {af : Array Edge} {gd : Option (Nat × Bool)} (ht : a.tmps[t]? = some v) :
    (execOp a.eval ⟨dst, .call { callee := .value (.func 11), args := #[.tmp t], argTypes := ts }, ty, ps, af, gd⟩).run Try.prog w = .ok (.enter 11 #[v]) w := by
  have he := eval_tmp ht
  have hf : a.eval (.func 11) = .func (.func 11) #[] #[] := rfl
  simp [execOp, resolve, invoke, he, hf, of_enters, go_sem, Act.eval, ht]

/-- It waits for that one. -/
def hasE (af : Array Edge) (n : Nat) : Bool := af.any fun e => e.on == n && Region.binds .any e
theorem hasE_spec {af : Array Edge} {n : Nat} (h : hasE af n = true) : ∃ e ∈ af, e.on = n ∧ Region.binds .any e = true := by
  unfold hasE at h
  rw [Array.any_eq_true'] at h
  obtain ⟨e, he, h1⟩ := h
  simp only [Bool.and_eq_true, beq_iff_eq] at h1
  exact ⟨e, he, h1.1, h1.2⟩
/-- Each waits for earlier ones alone. -/
def ordB (ops : Array Oper) : Bool := (List.range ops.size).all fun i => ((ops[i]?).map fun o => o.after.all fun e => decide (e.on < i)).getD true
theorem ordB_spec {ops : Array Oper} (h : ordB ops = true) (i : Nat) (o : Oper) (ho : ops[i]? = some o) (e : Edge) (he : e ∈ o.after) : e.on < i := by
  unfold ordB at h
  rw [List.all_eq_true] at h
  have h1 := h i (List.mem_range.2 (Array.getElem?_eq_some_iff.1 ho).1)
  rw [ho] at h1
  simp only [Option.map_some, Option.getD_some, Array.all_eq_true_iff_forall_mem] at h1
  exact of_decide_eq_true (h1 e he)

/-- The parts of the statement, in the text's order: a load and a call for each, then the boxes, then the stores. -/
structure DefOps (k : Nat) (ops : Array Oper) (T C X p : Nat → Nat) : Prop where
  size : ops.size = 4 * k
  ord : ordB ops = true
  load : ∀ i, i < k → ∃ ty ps af, ops[2 * i]? = some ⟨some (T i), .load 24 (.tmp (p i)), ty, ps, af, none⟩
  call : ∀ i, i < k → ∃ ts ty ps af, ops[2 * i + 1]? = some ⟨some (C i), .call { callee := .value (.func 11), args := #[.tmp (T i)], argTypes := ts }, ty, ps, af, none⟩ ∧ hasE af (2 * i) = true
  alloc : ∀ i, i < k → ∃ ty ps af, ops[2 * k + i]? = some ⟨some (X i), .alloc 29, ty, ps, af, none⟩
  store : ∀ i, i < k → ∃ ty ps af, ops[3 * k + i]? = some ⟨none, .store 29 (.tmp (X i)) (.tmp (C i)), ty, ps, af, none⟩ ∧ hasE af (2 * k + i) = true ∧ hasE af (2 * i + 1) = true

/-- The slots that it writes are apart, and none of the arguments' own. -/
structure Slots (k n : Nat) (T C X p : Nat → Nat) : Prop where
  lt : ∀ i, i < k → T i < n ∧ C i < n ∧ X i < n
  tt : ∀ i m, i < k → m < k → T i = T m → i = m
  cc : ∀ i m, i < k → m < k → C i = C m → i = m
  xx : ∀ i m, i < k → m < k → X i = X m → i = m
  ap : ∀ i m, i < k → m < k → T i ≠ C m ∧ T i ≠ X m ∧ C i ≠ X m ∧ p i ≠ T m ∧ p i ≠ C m ∧ p i ≠ X m

def slotsB (k n : Nat) (T C X p : Nat → Nat) : Bool := (List.range k).all fun i => decide (T i < n ∧ C i < n ∧ X i < n) && (List.range k).all fun m => decide ((i = m ∨ (T i ≠ T m ∧ C i ≠ C m ∧ X i ≠ X m)) ∧ T i ≠ C m ∧ T i ≠ X m ∧ C i ≠ X m ∧ p i ≠ T m ∧ p i ≠ C m ∧ p i ≠ X m)
theorem slots_of {k n : Nat} {T C X p : Nat → Nat} (h : slotsB k n T C X p = true) : Slots k n T C X p := by
  unfold slotsB at h
  rw [List.all_eq_true] at h
  have h1 : ∀ i, i < k → (T i < n ∧ C i < n ∧ X i < n) ∧ ∀ m, m < k → (i = m ∨ (T i ≠ T m ∧ C i ≠ C m ∧ X i ≠ X m)) ∧ T i ≠ C m ∧ T i ≠ X m ∧ C i ≠ X m ∧ p i ≠ T m ∧ p i ≠ C m ∧ p i ≠ X m := by
    intro i hi
    have h2 := h i (List.mem_range.2 hi)
    rw [Bool.and_eq_true, List.all_eq_true] at h2
    exact ⟨of_decide_eq_true h2.1, fun m hm => of_decide_eq_true (h2.2 m (List.mem_range.2 hm))⟩
  refine ⟨fun i hi => (h1 i hi).1, fun i m hi hm e => ?_, fun i m hi hm e => ?_, fun i m hi hm e => ?_, fun i m hi hm => ((h1 i hi).2 m hm).2⟩
  · rcases ((h1 i hi).2 m hm).1 with h | h
    · exact h
    · exact absurd e h.1
  · rcases ((h1 i hi).2 m hm).1 with h | h
    · exact h
    · exact absurd e h.2.1
  · rcases ((h1 i hi).2 m hm).1 with h | h
    · exact h
    · exact absurd e h.2.2

structure DefInv (k : Nat) (a0 : Act) (w0 : World) (T C X : Nat → Nat) (argv : Nat → Value) (tm : Nat → Tm) (L : Nat → Bool) (a : Act) (w : World) (ax : Nat → Option Addr) (nx cx g : Nat → Nat) : Prop where
  dfr : a.defers = a0.defers
  tsz : a.tmps.size = a0.tmps.size
  oth : ∀ j, (∀ i, i < k → j ≠ T i ∧ j ≠ C i ∧ j ≠ X i) → a.tmps[j]? = a0.tmps[j]?
  ld : ∀ i, i < k → L (2 * i) = true → a.tmps[T i]? = some (argv i)
  cl : ∀ i, i < k → L (2 * i + 1) = true → a.tmps[C i]? = some (.agg #[.int .i64 (tm i).f, .slice (ax i) (nx i) (cx i)]) ∧ Tat (fun b => ∀ m, m < k → L (2 * k + m) = true → b ≠ g m) w (tm i) (ax i) (nx i) (cx i)
  al : ∀ i, i < k → L (2 * k + i) = true → a.tmps[X i]? = some (.pointer (some ⟨g i, 0, none⟩)) ∧ w0.heap.size ≤ g i ∧ (L (3 * k + i) = false → w.heap[g i]? = some Zb) ∧ (L (3 * k + i) = true → L (2 * i + 1) = true ∧ w.heap[g i]? = some (.cells #[.int .i64 (tm i).f, .slice (ax i) (nx i) (cx i)] 29 (0, 0)))
  ap : ∀ i m, i < k → m < k → i ≠ m → L (2 * k + i) = true → L (2 * k + m) = true → g i ≠ g m
  st : ∀ i, i < k → L (3 * k + i) = true → L (2 * k + i) = true
  bl : Below w0.heap.size w0 w

theorem put_same {a : Act} {d : Nat} {v : Value} (h : d < a.tmps.size) : (a.put (some d) v).tmps[d]? = some v := by simp [Act.put, h]
theorem put_ne {a : Act} {d j : Nat} {v : Value} (h : j ≠ d) : (a.put (some d) v).tmps[j]? = a.tmps[j]? := by simp [Act.put, Array.getElem?_setIfInBounds, Ne.symm h]
theorem put_size {a : Act} {d : Nat} {v : Value} : (a.put (some d) v).tmps.size = a.tmps.size := by simp [Act.put]
theorem put_dfr {a : Act} {d : Nat} {v : Value} : (a.put (some d) v).defers = a.defers := rfl

/-- One more is listed. -/
def on (L : Nat → Bool) (j : Nat) : Nat → Bool := fun m => if m = j then true else L m
theorem on_same (L : Nat → Bool) (j : Nat) : on L j j = true := if_pos rfl
theorem on_ne {L : Nat → Bool} {j m : Nat} (h : m ≠ j) : on L j m = L m := if_neg h

section
variable {k : Nat} {a0 a : Act} {w0 w : World} {T C X p : Nat → Nat} {argv : Nat → Value} {tm : Nat → Tm} {L : Nat → Bool} {ax : Nat → Option Addr} {nx cx g : Nat → Nat}

theorem DefInv.load (h : DefInv k a0 w0 T C X argv tm L a w ax nx cx g) (hs : Slots k a0.tmps.size T C X p) {i : Nat} (hi : i < k) : DefInv k a0 w0 T C X argv tm (on L (2 * i)) (a.put (some (T i)) (argv i)) w ax nx cx g := by
  have hlt : T i < a.tmps.size := by rw [h.tsz]; exact (hs.lt i hi).1
  refine ⟨h.dfr, put_size.trans h.tsz, fun j hj => (put_ne (hj i hi).1).trans (h.oth j hj), fun m hm hL => ?_, fun m hm hL => ?_, fun m hm hL => ?_, fun m n hm hn hne h1 h2 => ?_, fun m hm hL => ?_, h.bl⟩
  · by_cases e : m = i
    · subst e; exact put_same hlt
    · rw [on_ne (by omega)] at hL
      rw [put_ne (fun e' => e (hs.tt m i hm hi e'))]
      exact h.ld m hm hL
  · rw [on_ne (by omega)] at hL
    have := h.cl m hm hL
    rw [put_ne (fun e' => (hs.ap i m hi hm).1 e'.symm)]
    exact ⟨this.1, this.2.mono fun b hb _ n hn hL' => hb n hn (by rw [on_ne (by omega)] at hL'; exact hL')⟩
  · rw [on_ne (by omega)] at hL
    have := h.al m hm hL
    rw [put_ne (fun e' => (hs.ap i m hi hm).2.1 e'.symm), on_ne (show 3 * k + m ≠ 2 * i by omega)]
    refine ⟨this.1, this.2.1, this.2.2.1, fun h3 => ?_⟩
    have h4 := this.2.2.2 h3
    exact ⟨by rw [on_ne (by omega)]; exact h4.1, h4.2⟩
  · rw [on_ne (by omega)] at h1 h2
    exact h.ap m n hm hn hne h1 h2
  · rw [on_ne (by omega)] at hL ⊢
    exact h.st m hm hL

theorem DefInv.call (h : DefInv k a0 w0 T C X argv tm L a w ax nx cx g) (hs : Slots k a0.tmps.size T C X p) {i : Nat} (hi : i < k) (h0 : L (2 * i + 1) = false) {w' : World} {a' : Option Addr} {n' c' : Nat} (ht : Tat (fun b => w.heap.size ≤ b) w' (tm i) a' n' c') (hb : Below w.heap.size w w') :
    DefInv k a0 w0 T C X argv tm (on L (2 * i + 1)) (a.put (some (C i)) (.agg #[.int .i64 (tm i).f, .slice a' n' c'])) w' (fun m => if m = i then a' else ax m) (fun m => if m = i then n' else nx m) (fun m => if m = i then c' else cx m) g := by
  have hlt : C i < a.tmps.size := by rw [h.tsz]; exact (hs.lt i hi).2.1
  have hg : ∀ m, m < k → L (2 * k + m) = true → g m < w.heap.size := fun m hm hL => by
    have h1 := h.al m hm hL
    cases h2 : L (3 * k + m) with
    | false => exact (Array.getElem?_eq_some_iff.1 (h1.2.2.1 h2)).1
    | true => exact (Array.getElem?_eq_some_iff.1 (h1.2.2.2 h2).2).1
  refine ⟨h.dfr, put_size.trans h.tsz, fun j hj => (put_ne (hj i hi).2.1).trans (h.oth j hj), fun m hm hL => ?_, fun m hm hL => ?_, fun m hm hL => ?_, fun m n hm hn hne h1 h2 => ?_, fun m hm hL => ?_, bN h.bl hb⟩
  · rw [on_ne (by omega)] at hL
    rw [put_ne (hs.ap m i hm hi).1]
    exact h.ld m hm hL
  · by_cases e : m = i
    · subst e
      simp only [if_true]
      refine ⟨put_same hlt, ht.mono fun b hb' _ n hn hL' => ?_⟩
      rw [on_ne (by omega)] at hL'
      have := hg n hn hL'
      have hb2 : w.heap.size ≤ b := hb'
      omega
    · rw [on_ne (by omega)] at hL
      have := h.cl m hm hL
      rw [put_ne (fun e' => e (hs.cc m i hm hi e'))]
      simp only [e, if_false]
      exact ⟨this.1, (this.2.bw hb).mono fun b hb' _ n hn hL' => hb' n hn (by rw [on_ne (by omega)] at hL'; exact hL')⟩
  · rw [on_ne (by omega)] at hL
    have h1 := h.al m hm hL
    have hgm := hg m hm hL
    rw [put_ne (fun e' => (hs.ap i m hi hm).2.2.1 e'.symm), on_ne (show 3 * k + m ≠ 2 * i + 1 by omega), hb.block _ hgm]
    refine ⟨h1.1, h1.2.1, h1.2.2.1, fun h3 => ?_⟩
    have h4 := h1.2.2.2 h3
    have e : m ≠ i := fun e => by subst e; rw [h0] at h4; cases h4.1
    simp only [e, if_false]
    exact ⟨by rw [on_ne (by omega)]; exact h4.1, h4.2⟩
  · rw [on_ne (by omega)] at h1 h2
    exact h.ap m n hm hn hne h1 h2
  · rw [on_ne (by omega)] at hL ⊢
    exact h.st m hm hL

theorem DefInv.alloc (h : DefInv k a0 w0 T C X argv tm L a w ax nx cx g) (hs : Slots k a0.tmps.size T C X p) {i : Nat} (hi : i < k) (h0 : L (2 * k + i) = false) :
    DefInv k a0 w0 T C X argv tm (on L (2 * k + i)) (a.put (some (X i)) (.pointer (some ⟨w.heap.size, 0, none⟩))) (w.alloc Zb) ax nx cx (fun m => if m = i then w.heap.size else g m) := by
  have hlt : X i < a.tmps.size := by rw [h.tsz]; exact (hs.lt i hi).2.2
  have hg : ∀ m, m < k → L (2 * k + m) = true → g m < w.heap.size := fun m hm hL => by
    have h1 := h.al m hm hL
    cases h2 : L (3 * k + m) with
    | false => exact (Array.getElem?_eq_some_iff.1 (h1.2.2.1 h2)).1
    | true => exact (Array.getElem?_eq_some_iff.1 (h1.2.2.2 h2).2).1
  refine ⟨h.dfr, put_size.trans h.tsz, fun j hj => (put_ne (hj i hi).2.2).trans (h.oth j hj), fun m hm hL => ?_, fun m hm hL => ?_, fun m hm hL => ?_, fun m n hm hn hne h1 h2 => ?_, fun m hm hL => ?_, bA h.bl _⟩
  · rw [on_ne (by omega)] at hL
    rw [put_ne (hs.ap m i hm hi).2.1]
    exact h.ld m hm hL
  · rw [on_ne (by omega)] at hL
    have h1 := h.cl m hm hL
    rw [put_ne (hs.ap m i hm hi).2.2.1]
    refine ⟨h1.1, h1.2.keep fun b hb hlt' => ⟨fun n hn hL' => ?_, alloc_on hlt'⟩⟩
    by_cases e : n = i
    · subst e
      simp only [if_true]
      omega
    · simp only [e, if_false]
      rw [on_ne (by omega)] at hL'
      exact hb n hn hL'
  · by_cases e : m = i
    · subst e
      simp only [if_true]
      refine ⟨put_same hlt, h.bl.size, fun _ => World.alloc_heap_new _ _, fun h3 => ?_⟩
      rw [on_ne (by omega)] at h3
      have := h.st m hm h3
      rw [h0] at this
      cases this
    · rw [on_ne (by omega)] at hL
      have h1 := h.al m hm hL
      have hgm := hg m hm hL
      rw [put_ne (fun e' => e (hs.xx m i hm hi e')), on_ne (show 3 * k + m ≠ 2 * k + i by omega)]
      simp only [e, if_false]
      rw [alloc_on hgm]
      refine ⟨h1.1, h1.2.1, h1.2.2.1, fun h3 => ?_⟩
      have h4 := h1.2.2.2 h3
      exact ⟨by rw [on_ne (by omega)]; exact h4.1, h4.2⟩
  · by_cases e1 : m = i
    · have e2 : n ≠ i := fun e => hne (e1.trans e.symm)
      rw [on_ne (by omega)] at h2
      simp only [e1, e2, if_true, if_false]
      have := hg n hn h2
      omega
    · by_cases e2 : n = i
      · rw [on_ne (by omega)] at h1
        simp only [e1, e2, if_true, if_false]
        have := hg m hm h1
        omega
      · rw [on_ne (by omega)] at h1 h2
        simp only [e1, e2, if_false]
        exact h.ap m n hm hn hne h1 h2
  · rw [on_ne (by omega)] at hL
    by_cases e : m = i
    · subst e; exact on_same _ _
    · rw [on_ne (by omega)]
      exact h.st m hm hL

theorem DefInv.store (h : DefInv k a0 w0 T C X argv tm L a w ax nx cx g) {i : Nat} (hi : i < k) (h1 : L (2 * k + i) = true) (h2 : L (2 * i + 1) = true) (h0 : L (3 * k + i) = false) :
    DefInv k a0 w0 T C X argv tm (on L (3 * k + i)) a ((w.setCell ⟨g i, 0, none⟩ (.int .i64 (tm i).f)).setCell ⟨g i, 1, none⟩ (.slice (ax i) (nx i) (cx i))) ax nx cx g := by
  have hst : ∀ b, b ≠ g i → ((w.setCell ⟨g i, 0, none⟩ (.int .i64 (tm i).f)).setCell ⟨g i, 1, none⟩ (.slice (ax i) (nx i) (cx i))).heap[b]? = w.heap[b]? := fun b hn => by
    rw [Below.heap_setCell _ _ _ _ hn, Below.heap_setCell _ _ _ _ hn]
  have hai := h.al i hi h1
  refine ⟨h.dfr, h.tsz, h.oth, fun m hm hL => ?_, fun m hm hL => ?_, fun m hm hL => ?_, fun m n hm hn hne h3 h4 => ?_, fun m hm hL => ?_, bS (bS h.bl hai.2.1 _) hai.2.1 _⟩
  · rw [on_ne (by omega)] at hL
    exact h.ld m hm hL
  · rw [on_ne (by omega)] at hL
    have h3 := h.cl m hm hL
    refine ⟨h3.1, h3.2.keep fun b hb hlt => ⟨fun n hn hL' => hb n hn (by rw [on_ne (by omega)] at hL'; exact hL'), hst b (hb i hi h1)⟩⟩
  · rw [on_ne (by omega)] at hL
    have h3 := h.al m hm hL
    by_cases e : m = i
    · subst e
      refine ⟨h3.1, h3.2.1, fun h4 => ?_, fun _ => ⟨by rw [on_ne (by omega)]; exact h2, ?_⟩⟩
      · rw [on_same] at h4; cases h4
      · exact two_block (h3.2.2.1 h0) _ _
    · have hgn := h.ap m i hm hi e hL h1
      rw [on_ne (show 3 * k + m ≠ 3 * k + i by omega), hst _ hgn]
      refine ⟨h3.1, h3.2.1, h3.2.2.1, fun h4 => ?_⟩
      have h5 := h3.2.2.2 h4
      exact ⟨by rw [on_ne (by omega)]; exact h5.1, h5.2⟩
  · rw [on_ne (by omega)] at h3 h4
    exact h.ap m n hm hn hne h3 h4
  · rw [on_ne (show 2 * k + m ≠ 3 * k + i by omega)]
    by_cases e : m = i
    · subst e; exact h1
    · rw [on_ne (by omega)] at hL
      exact h.st m hm hL

theorem on_set {listed : Array Bool} {j : Nat} (h : j < listed.size) : (fun m => (listed.setIfInBounds j true).getD m false) = on (fun m => listed.getD m false) j := by
  funext m
  unfold on
  by_cases e : m = j
  · subst e
    simp [Array.getD, h]
  · rw [if_neg e, getD_set_ne false (fun e' => e e'.symm)]

set_option maxHeartbeats 1000000 in
theorem wp_defs {id : Nat} {ops : Array Oper} {Q : Exit → Act → World → Prop} (hops : DefOps k ops T C X p) (hs : Slots k a0.tmps.size T C X p) (G : Nat → Nat) (A : Nat → Option Addr) (N M : Nat → Nat)
    (hp : ∀ i, i < k → a0.tmps[p i]? = some (.pointer (some ⟨G i, 0, none⟩)) ∧ Bx w0 24 (G i) (tm i) (A i) (N i) (M i))
    (hOf : ∀ i, i < k → ∀ V, Below w0.heap.size w0 V → Calls Try.prog 11 #[.agg #[.int .i64 (tm i).f, .slice (A i) (N i) (M i)]] V (OfSays V (tm i)))
    (hQ : ∀ (a : Act) (w : World) (ax : Nat → Option Addr) (nx cx g : Nat → Nat), a.defers = a0.defers → a.tmps.size = a0.tmps.size → (∀ j, (∀ i, i < k → j ≠ T i ∧ j ≠ C i ∧ j ≠ X i) → a.tmps[j]? = a0.tmps[j]?) →
      (∀ i, i < k → a.tmps[T i]? = some (.agg #[.int .i64 (tm i).f, .slice (A i) (N i) (M i)]) ∧ a.tmps[C i]? = some (.agg #[.int .i64 (tm i).f, .slice (ax i) (nx i) (cx i)]) ∧ a.tmps[X i]? = some (.pointer (some ⟨g i, 0, none⟩)) ∧ Bx w 29 (g i) (tm i) (ax i) (nx i) (cx i) ∧ Tat (fun _ => True) w (tm i) (ax i) (nx i) (cx i)) → Below w0.heap.size w0 w → Q .normal a w) :
    (Code.region id ops true).wp Try.prog Q a0 w0 := by
  refine wp_region_any (by kernel_rfl) ?_
  have hw : ({ w0 with drawn := w0.drawn + 1 } : World) = w0.drew := rfl
  rw [hw]
  refine wpAny_inv (fun listed a w => listed.size = 4 * k ∧ ∃ ax nx cx g, DefInv k a0 w0 T C X (fun i => .agg #[.int .i64 (tm i).f, .slice (A i) (N i) (M i)]) tm (fun j => listed.getD j false) a w ax nx cx g) (ordB_spec hops.ord) (fun listed a w h => by rw [h.1, hops.size]) ?step ?done ops.size _ a0 w0.drew ?start ?fuel
  case start =>
    have hf : ∀ j, (Array.replicate ops.size false).getD j false = false := fun j => by
      by_cases h : j < ops.size <;> simp [Array.getD, h]
    refine ⟨by simp [hops.size], fun _ => none, fun _ => 0, fun _ => 0, fun _ => 0, rfl, rfl, fun _ _ => rfl, ?_, ?_, ?_, ?_, ?_, bD (bW _)⟩
    · intro i _ h; simp only [hf] at h; cases h
    · intro i _ h; simp only [hf] at h; cases h
    · intro i _ h; simp only [hf] at h; cases h
    · intro i m _ _ _ h; simp only [hf] at h; cases h
    · intro i _ h; simp only [hf] at h; cases h
  case fuel =>
    unfold left
    refine Nat.le_trans List.countP_le_length ?_
    simp
  case done =>
    rintro listed a w ⟨hsz, ax, nx, cx, g, h⟩ hall
    have hL : ∀ j, j < 4 * k → listed.getD j false = true := fun j hj => by
      have h1 := hall j (by rw [hops.size]; exact hj)
      have h2 : j < listed.size := by omega
      simpa [Array.getD, h2] using h1
    refine hQ a w ax nx cx g h.dfr h.tsz h.oth (fun i hi => ?_) h.bl
    have h1 := h.cl i hi (hL _ (by omega))
    have h2 := h.al i hi (hL _ (by omega))
    exact ⟨h.ld i hi (hL _ (by omega)), h1.1, h2.1, (h2.2.2.2 (hL _ (by omega))).2, h1.2.mono fun _ _ _ => trivial⟩
  case step =>
    rintro listed a w j o ⟨hsz, ax, nx, cx, g, h⟩ ho hj hed
    have hjl : j < ops.size := (Array.getElem?_eq_some_iff.1 ho).1
    have hjs : j < listed.size := by rw [hsz, ← hops.size]; exact hjl
    have hjf : listed.getD j false = false := by simpa [Array.getD, hjs] using hj
    have hnew : (listed.setIfInBounds j true).size = 4 * k := by simp [hsz]
    rw [hops.size] at hjl
    have hcase : (∃ i, i < k ∧ j = 2 * i) ∨ (∃ i, i < k ∧ j = 2 * i + 1) ∨ (∃ i, i < k ∧ j = 2 * k + i) ∨ ∃ i, i < k ∧ j = 3 * k + i := by
      rcases Nat.lt_or_ge j (2 * k) with h1 | h1
      · rcases Nat.mod_two_eq_zero_or_one j with h2 | h2
        · exact .inl ⟨j / 2, by omega, by omega⟩
        · exact .inr (.inl ⟨j / 2, by omega, by omega⟩)
      · rcases Nat.lt_or_ge j (3 * k) with h2 | h2
        · exact .inr (.inr (.inl ⟨j - 2 * k, by omega, by omega⟩))
        · exact .inr (.inr (.inr ⟨j - 3 * k, by omega, by omega⟩))
    refine wpOp_step ho (fun K hK => ?_)
    rcases hcase with ⟨i, hi, rfl⟩ | ⟨i, hi, rfl⟩ | ⟨i, hi, rfl⟩ | ⟨i, hi, rfl⟩
    · obtain ⟨ty, ps, af, h1⟩ := hops.load i hi
      rw [h1] at ho
      cases ho
      rw [if_pos (show Region.wanted _ _ = true from rfl)]
      have hpi : a.tmps[p i]? = some (.pointer (some ⟨G i, 0, none⟩)) := by
        rw [h.oth (p i) (fun m hm => ⟨(hs.ap i m hi hm).2.2.2.1, (hs.ap i m hi hm).2.2.2.2.1, (hs.ap i m hi hm).2.2.2.2.2⟩)]
        exact (hp i hi).1
      unfold Oper.wp
      rw [run_load24 hpi ((hp i hi).2.bw h.bl), Oper.upon_value]
      exact hK _ _ ⟨hnew, ax, nx, cx, g, by rw [on_set hjs]; exact h.load hs hi⟩
    · obtain ⟨ts, ty, ps, af, h1, hE⟩ := hops.call i hi
      obtain ⟨e, he, he1, he2⟩ := hasE_spec hE
      rw [h1] at ho
      cases ho
      rw [if_pos (show Region.wanted _ _ = true from rfl)]
      have hl := hed e he he2
      rw [he1] at hl
      unfold Oper.wp
      rw [run_callOf (h.ld i hi hl), Oper.upon_enter]
      refine (hOf i hi w h.bl).mono ?_
      rintro e' w' ⟨a', n', c', rfl, ht, hb⟩
      exact hK _ _ ⟨hnew, _, _, _, _, by rw [on_set hjs]; exact h.call hs hi hjf ht hb⟩
    · obtain ⟨ty, ps, af, h1⟩ := hops.alloc i hi
      rw [h1] at ho
      cases ho
      rw [if_pos (show Region.wanted _ _ = true from rfl)]
      unfold Oper.wp
      rw [run_alloc29, Oper.upon_value]
      exact hK _ _ ⟨hnew, _, _, _, _, by rw [on_set hjs]; exact h.alloc hs hi hjf⟩
    · obtain ⟨ty, ps, af, h1, hE, hE'⟩ := hops.store i hi
      obtain ⟨e, he, he1, he2⟩ := hasE_spec hE
      obtain ⟨e', he', he1', he2'⟩ := hasE_spec hE'
      rw [h1] at ho
      cases ho
      rw [if_pos (show Region.wanted _ _ = true from rfl)]
      have hl := hed e he he2
      rw [he1] at hl
      have hl' := hed e' he' he2'
      rw [he1'] at hl'
      have hai := h.al i hi hl
      unfold Oper.wp
      rw [run_store29 hai.1 (h.cl i hi hl').1 (hai.2.2.1 hjf), Oper.upon_skip]
      exact hK _ _ ⟨hnew, _, _, _, _, by rw [on_set hjs]; exact h.store hi hl hl' hjf⟩

theorem getSet (xs : Array Value) (i j : Nat) (v : Value) (h : i < xs.size) : (xs.setIfInBounds i v)[j]? = if j = i then some v else xs[j]? := by
  rw [Array.getElem?_setIfInBounds]
  by_cases e : i = j
  · subst e; simp [h]
  · rw [if_neg e, if_neg (fun e' => e e'.symm)]
end

theorem act_eq {a b : Act} (h1 : a.defers = b.defers) (h2 : ∀ j : Nat, a.tmps[j]? = b.tmps[j]?) : a = b := by
  cases a
  cases b
  simp only at h1 h2
  rw [h1, Array.ext_getElem? h2]

/-- Two: the frame behind it. -/
theorem wp_def2 {id : Nat} {ops : Array Oper} {Q : Exit → Act → World → Prop} {a0 : Act} {w0 : World} (t0 t1 c0 c1 x0 x1 p0 p1 : Nat) (s0 s1 : Tm) (b0 b1 : Nat) (A0 A1 : Option Addr) (n0 n1 m0 m1 : Nat)
    (hops : DefOps 2 ops (fun i => if i = 0 then t0 else t1) (fun i => if i = 0 then c0 else c1) (fun i => if i = 0 then x0 else x1) (fun i => if i = 0 then p0 else p1))
    (hs : Slots 2 a0.tmps.size (fun i => if i = 0 then t0 else t1) (fun i => if i = 0 then c0 else c1) (fun i => if i = 0 then x0 else x1) (fun i => if i = 0 then p0 else p1))
    (hp0 : a0.tmps[p0]? = some (.pointer (some ⟨b0, 0, none⟩))) (hb0 : Bx w0 24 b0 s0 A0 n0 m0)
    (hO0 : ∀ V, Below w0.heap.size w0 V → Calls Try.prog 11 #[.agg #[.int .i64 s0.f, .slice A0 n0 m0]] V (OfSays V s0))
    (hp1 : a0.tmps[p1]? = some (.pointer (some ⟨b1, 0, none⟩))) (hb1 : Bx w0 24 b1 s1 A1 n1 m1)
    (hO1 : ∀ V, Below w0.heap.size w0 V → Calls Try.prog 11 #[.agg #[.int .i64 s1.f, .slice A1 n1 m1]] V (OfSays V s1))
    (hQ : ∀ (w : World) (aa0 : Option Addr) (k0 d0 g0 : Nat) (a1 : Option Addr) (k1 d1 g1 : Nat), Bx w 29 g0 s0 aa0 k0 d0 → Tat (fun _ => True) w s0 aa0 k0 d0 → Bx w 29 g1 s1 a1 k1 d1 → Tat (fun _ => True) w s1 a1 k1 d1 → Below w0.heap.size w0 w →
      Q .normal { tmps := (((((a0.tmps.setIfInBounds t0 (.agg #[.int .i64 s0.f, .slice A0 n0 m0])).setIfInBounds c0 (.agg #[.int .i64 s0.f, .slice aa0 k0 d0])).setIfInBounds t1 (.agg #[.int .i64 s1.f, .slice A1 n1 m1])).setIfInBounds c1 (.agg #[.int .i64 s1.f, .slice a1 k1 d1])).setIfInBounds x0 (.pointer (some ⟨g0, 0, none⟩))).setIfInBounds x1 (.pointer (some ⟨g1, 0, none⟩)), defers := a0.defers } w) :
    (Code.region id ops true).wp Try.prog Q a0 w0 := by
  refine wp_defs (tm := (fun i => if i = 0 then s0 else s1)) hops hs (fun i => if i = 0 then b0 else b1) (fun i => if i = 0 then A0 else A1) (fun i => if i = 0 then n0 else n1) (fun i => if i = 0 then m0 else m1) ?_ ?_ ?_
  · intro i hi
    match i, hi with
    | 0, _ => exact ⟨hp0, hb0⟩
    | 1, _ => exact ⟨hp1, hb1⟩
  · intro i hi
    match i, hi with
    | 0, _ => exact hO0
    | 1, _ => exact hO1
  · intro a w ax nx cx g h1 h2 h3 h4 h5
    obtain ⟨u0, v0, q0, y0, z0⟩ := h4 0 (by decide)
    obtain ⟨u1, v1, q1, y1, z1⟩ := h4 1 (by decide)
    simp only [if_true, Nat.one_ne_zero, show (2 : Nat) = 0 ↔ False from by decide, show (2 : Nat) = 1 ↔ False from by decide, if_false] at u0 v0 q0 y0 z0 u1 v1 q1 y1 z1
    have l0 := hs.lt 0 (by decide)
    have l1 := hs.lt 1 (by decide)
    simp only [if_true, Nat.one_ne_zero, show (2 : Nat) = 0 ↔ False from by decide, show (2 : Nat) = 1 ↔ False from by decide, if_false] at l0 l1
    rw [act_eq (a := a) (b := { tmps := (((((a0.tmps.setIfInBounds t0 (.agg #[.int .i64 s0.f, .slice A0 n0 m0])).setIfInBounds c0 (.agg #[.int .i64 s0.f, .slice (ax 0) (nx 0) (cx 0)])).setIfInBounds t1 (.agg #[.int .i64 s1.f, .slice A1 n1 m1])).setIfInBounds c1 (.agg #[.int .i64 s1.f, .slice (ax 1) (nx 1) (cx 1)])).setIfInBounds x0 (.pointer (some ⟨g 0, 0, none⟩))).setIfInBounds x1 (.pointer (some ⟨g 1, 0, none⟩)), defers := a0.defers }) h1 ?_]
    · exact hQ w _ _ _ _ _ _ _ _ y0 z0 y1 z1 h5
    · intro j
      simp only
      rw [getSet _ _ _ _ (by simp; omega), getSet _ _ _ _ (by simp; omega), getSet _ _ _ _ (by simp; omega), getSet _ _ _ _ (by simp; omega), getSet _ _ _ _ (by simp; omega), getSet _ _ _ _ (by omega)]
      by_cases ex1 : j = x1
      · rw [if_pos ex1, ex1, q1]
      rw [if_neg ex1]
      by_cases ex0 : j = x0
      · rw [if_pos ex0, ex0, q0]
      rw [if_neg ex0]
      by_cases ec1 : j = c1
      · rw [if_pos ec1, ec1, v1]
      rw [if_neg ec1]
      by_cases et1 : j = t1
      · rw [if_pos et1, et1, u1]
      rw [if_neg et1]
      by_cases ec0 : j = c0
      · rw [if_pos ec0, ec0, v0]
      rw [if_neg ec0]
      by_cases et0 : j = t0
      · rw [if_pos et0, et0, u0]
      rw [if_neg et0]
      refine h3 j fun i hi => ?_
      match i, hi with
      | 0, _ => exact ⟨et0, ec0, ex0⟩
      | 1, _ => exact ⟨et1, ec1, ex1⟩

/-- Three: the frame behind it. -/
theorem wp_def3 {id : Nat} {ops : Array Oper} {Q : Exit → Act → World → Prop} {a0 : Act} {w0 : World} (t0 t1 t2 c0 c1 c2 x0 x1 x2 p0 p1 p2 : Nat) (s0 s1 s2 : Tm) (b0 b1 b2 : Nat) (A0 A1 A2 : Option Addr) (n0 n1 n2 m0 m1 m2 : Nat)
    (hops : DefOps 3 ops (fun i => if i = 0 then t0 else if i = 1 then t1 else t2) (fun i => if i = 0 then c0 else if i = 1 then c1 else c2) (fun i => if i = 0 then x0 else if i = 1 then x1 else x2) (fun i => if i = 0 then p0 else if i = 1 then p1 else p2))
    (hs : Slots 3 a0.tmps.size (fun i => if i = 0 then t0 else if i = 1 then t1 else t2) (fun i => if i = 0 then c0 else if i = 1 then c1 else c2) (fun i => if i = 0 then x0 else if i = 1 then x1 else x2) (fun i => if i = 0 then p0 else if i = 1 then p1 else p2))
    (hp0 : a0.tmps[p0]? = some (.pointer (some ⟨b0, 0, none⟩))) (hb0 : Bx w0 24 b0 s0 A0 n0 m0)
    (hO0 : ∀ V, Below w0.heap.size w0 V → Calls Try.prog 11 #[.agg #[.int .i64 s0.f, .slice A0 n0 m0]] V (OfSays V s0))
    (hp1 : a0.tmps[p1]? = some (.pointer (some ⟨b1, 0, none⟩))) (hb1 : Bx w0 24 b1 s1 A1 n1 m1)
    (hO1 : ∀ V, Below w0.heap.size w0 V → Calls Try.prog 11 #[.agg #[.int .i64 s1.f, .slice A1 n1 m1]] V (OfSays V s1))
    (hp2 : a0.tmps[p2]? = some (.pointer (some ⟨b2, 0, none⟩))) (hb2 : Bx w0 24 b2 s2 A2 n2 m2)
    (hO2 : ∀ V, Below w0.heap.size w0 V → Calls Try.prog 11 #[.agg #[.int .i64 s2.f, .slice A2 n2 m2]] V (OfSays V s2))
    (hQ : ∀ (w : World) (aa0 : Option Addr) (k0 d0 g0 : Nat) (a1 : Option Addr) (k1 d1 g1 : Nat) (a2 : Option Addr) (k2 d2 g2 : Nat), Bx w 29 g0 s0 aa0 k0 d0 → Tat (fun _ => True) w s0 aa0 k0 d0 → Bx w 29 g1 s1 a1 k1 d1 → Tat (fun _ => True) w s1 a1 k1 d1 → Bx w 29 g2 s2 a2 k2 d2 → Tat (fun _ => True) w s2 a2 k2 d2 → Below w0.heap.size w0 w →
      Q .normal { tmps := ((((((((a0.tmps.setIfInBounds t0 (.agg #[.int .i64 s0.f, .slice A0 n0 m0])).setIfInBounds c0 (.agg #[.int .i64 s0.f, .slice aa0 k0 d0])).setIfInBounds t1 (.agg #[.int .i64 s1.f, .slice A1 n1 m1])).setIfInBounds c1 (.agg #[.int .i64 s1.f, .slice a1 k1 d1])).setIfInBounds t2 (.agg #[.int .i64 s2.f, .slice A2 n2 m2])).setIfInBounds c2 (.agg #[.int .i64 s2.f, .slice a2 k2 d2])).setIfInBounds x0 (.pointer (some ⟨g0, 0, none⟩))).setIfInBounds x1 (.pointer (some ⟨g1, 0, none⟩))).setIfInBounds x2 (.pointer (some ⟨g2, 0, none⟩)), defers := a0.defers } w) :
    (Code.region id ops true).wp Try.prog Q a0 w0 := by
  refine wp_defs (tm := (fun i => if i = 0 then s0 else if i = 1 then s1 else s2)) hops hs (fun i => if i = 0 then b0 else if i = 1 then b1 else b2) (fun i => if i = 0 then A0 else if i = 1 then A1 else A2) (fun i => if i = 0 then n0 else if i = 1 then n1 else n2) (fun i => if i = 0 then m0 else if i = 1 then m1 else m2) ?_ ?_ ?_
  · intro i hi
    match i, hi with
    | 0, _ => exact ⟨hp0, hb0⟩
    | 1, _ => exact ⟨hp1, hb1⟩
    | 2, _ => exact ⟨hp2, hb2⟩
  · intro i hi
    match i, hi with
    | 0, _ => exact hO0
    | 1, _ => exact hO1
    | 2, _ => exact hO2
  · intro a w ax nx cx g h1 h2 h3 h4 h5
    obtain ⟨u0, v0, q0, y0, z0⟩ := h4 0 (by decide)
    obtain ⟨u1, v1, q1, y1, z1⟩ := h4 1 (by decide)
    obtain ⟨u2, v2, q2, y2, z2⟩ := h4 2 (by decide)
    simp only [if_true, Nat.one_ne_zero, show (2 : Nat) = 0 ↔ False from by decide, show (2 : Nat) = 1 ↔ False from by decide, if_false] at u0 v0 q0 y0 z0 u1 v1 q1 y1 z1 u2 v2 q2 y2 z2
    have l0 := hs.lt 0 (by decide)
    have l1 := hs.lt 1 (by decide)
    have l2 := hs.lt 2 (by decide)
    simp only [if_true, Nat.one_ne_zero, show (2 : Nat) = 0 ↔ False from by decide, show (2 : Nat) = 1 ↔ False from by decide, if_false] at l0 l1 l2
    rw [act_eq (a := a) (b := { tmps := ((((((((a0.tmps.setIfInBounds t0 (.agg #[.int .i64 s0.f, .slice A0 n0 m0])).setIfInBounds c0 (.agg #[.int .i64 s0.f, .slice (ax 0) (nx 0) (cx 0)])).setIfInBounds t1 (.agg #[.int .i64 s1.f, .slice A1 n1 m1])).setIfInBounds c1 (.agg #[.int .i64 s1.f, .slice (ax 1) (nx 1) (cx 1)])).setIfInBounds t2 (.agg #[.int .i64 s2.f, .slice A2 n2 m2])).setIfInBounds c2 (.agg #[.int .i64 s2.f, .slice (ax 2) (nx 2) (cx 2)])).setIfInBounds x0 (.pointer (some ⟨g 0, 0, none⟩))).setIfInBounds x1 (.pointer (some ⟨g 1, 0, none⟩))).setIfInBounds x2 (.pointer (some ⟨g 2, 0, none⟩)), defers := a0.defers }) h1 ?_]
    · exact hQ w _ _ _ _ _ _ _ _ _ _ _ _ y0 z0 y1 z1 y2 z2 h5
    · intro j
      simp only
      rw [getSet _ _ _ _ (by simp; omega), getSet _ _ _ _ (by simp; omega), getSet _ _ _ _ (by simp; omega), getSet _ _ _ _ (by simp; omega), getSet _ _ _ _ (by simp; omega), getSet _ _ _ _ (by simp; omega), getSet _ _ _ _ (by simp; omega), getSet _ _ _ _ (by simp; omega), getSet _ _ _ _ (by omega)]
      by_cases ex2 : j = x2
      · rw [if_pos ex2, ex2, q2]
      rw [if_neg ex2]
      by_cases ex1 : j = x1
      · rw [if_pos ex1, ex1, q1]
      rw [if_neg ex1]
      by_cases ex0 : j = x0
      · rw [if_pos ex0, ex0, q0]
      rw [if_neg ex0]
      by_cases ec2 : j = c2
      · rw [if_pos ec2, ec2, v2]
      rw [if_neg ec2]
      by_cases et2 : j = t2
      · rw [if_pos et2, et2, u2]
      rw [if_neg et2]
      by_cases ec1 : j = c1
      · rw [if_pos ec1, ec1, v1]
      rw [if_neg ec1]
      by_cases et1 : j = t1
      · rw [if_pos et1, et1, u1]
      rw [if_neg et1]
      by_cases ec0 : j = c0
      · rw [if_pos ec0, ec0, v0]
      rw [if_neg ec0]
      by_cases et0 : j = t0
      · rw [if_pos et0, et0, u0]
      rw [if_neg et0]
      refine h3 j fun i hi => ?_
      match i, hi with
      | 0, _ => exact ⟨et0, ec0, ex0⟩
      | 1, _ => exact ⟨et1, ec1, ex1⟩
      | 2, _ => exact ⟨et2, ec2, ex2⟩
end Go.Proofs.Ytkebkmpgejbbhaa
