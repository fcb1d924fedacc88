/-
  Calls that are lent objects: what they get, what they leave.
-/
import Derived.Test.YtmdhefepaolhcaaAbObj
namespace Go.Proofs.Ytmdhefepaolhcaa
open Go.RowKit
set_option linter.unusedVariables false
set_option linter.unusedSimpArgs false

/-- Values, one by one. -/
def AVReps (U : Nat → Nat → Prop) (w : World) (hv : Nat → Value) (lv : Nat → Prop) : List AV → List Value → Prop
  | [], vs => vs = []
  | c :: cs, vs => ∃ u us, vs = u :: us ∧ AVRep U w hv lv c u ∧ AVReps U w hv lv cs us
theorem AVReps.len {U : Nat → Nat → Prop} {w : World} {hv : Nat → Value} {lv : Nat → Prop} : ∀ {l : List AV} {vs : List Value}, AVReps U w hv lv l vs → vs.length = l.length
  | [], _, h => by have h : _ = [] := h; rw [h]; rfl
  | c :: cs, vs, ⟨u, us, e, h1, h2⟩ => by rw [e, List.length_cons, List.length_cons, AVReps.len h2]
theorem AVReps.at {U : Nat → Nat → Prop} {w : World} {hv : Nat → Value} {lv : Nat → Prop} : ∀ {l : List AV} {vs : List Value}, AVReps U w hv lv l vs → ∀ {i : Nat} {c : AV}, l[i]? = some c → ∃ v, vs[i]? = some v ∧ AVRep U w hv lv c v
  | [], _, _, i, c, hi => by simp at hi
  | c' :: cs, vs, ⟨u, us, e, h1, h2⟩, 0, c, hi => by
    simp only [List.getElem?_cons_zero, Option.some.injEq] at hi
    exact ⟨u, by rw [e]; rfl, hi ▸ h1⟩
  | c' :: cs, vs, ⟨u, us, e, h1, h2⟩, i + 1, c, hi => by
    obtain ⟨v, h3, h4⟩ := AVReps.at h2 (i := i) (c := c) (by simpa using hi)
    exact ⟨v, by rw [e]; simpa using h3, h4⟩
theorem AVReps.imp {U V : Nat → Nat → Prop} {w w' : World} {hv hv' : Nat → Value} {lv lv' : Nat → Prop} : ∀ {l : List AV} {vs : List Value}, (∀ c ∈ l, ∀ v, AVRep U w hv lv c v → AVRep V w' hv' lv' c v) → AVReps U w hv lv l vs → AVReps V w' hv' lv' l vs
  | [], _, _, h => h
  | c :: cs, vs, hc, ⟨u, us, e, h1, h2⟩ => ⟨u, us, e, hc c (by simp) u h1, AVReps.imp (fun x hx => hc x (List.mem_cons_of_mem _ hx)) h2⟩

/-- Lent these, with arguments like these, it returns this and leaves these. -/
def AFunO (P : Program) (f : FuncId) (pre : AS) (args : List AV) (r : AV) (post : AS) : Prop :=
  EntF P f ∧ ∀ (U : UX) (w : World) (hv : Nat → Value) (a0 : Act) (vs : List Value), (∀ k v, U.f k = some v → hasN (keysOf pre) k = true) → SimG w U 0 pre a0 w (fun _ _ => False) hv → AVReps (Us w U (fun _ _ => False)) w hv (LiveN pre) args vs →
    Calls P f vs.toArray w fun e w' => ∃ v D' hv' a', e = .returned v ∧ SimG w U 0 post a' w' D' hv' ∧ AVRep (Us w U D') w' hv' (LiveN post) r v

def evsA (S : Nat → Option AV) : List Operand → Option (List AV)
  | [] => some []
  | x :: xs => match ev S x, evsA S xs with
    | some c, some cs => some (c :: cs)
    | _, _ => none

/-- Each row of it is told by S. -/
def SubS (S : Nat → Option AV) : AS → Prop
  | [] => True
  | (k, av) :: s => S k = some av ∧ SubS S s
theorem SubS.look {S : Nat → Option AV} : ∀ {s : AS}, SubS S s → ∀ {k av}, look s k = some av → S k = some av
  | [], _, k, av, h => by simp [Go.Proofs.Ytmdhefepaolhcaa.look] at h
  | (k', av') :: s, ⟨h1, h2⟩, k, av, h => by
    rw [look_cons] at h
    split at h
    · rename_i e; subst e; cases h; exact h1
    · exact SubS.look h2 h

/-- What may be lent: rows, maps, boxes of names from 300000 on, and their fields. -/
def lendB (p : Nat × AV) : Bool := match Nat.ble 500000 p.1 with
  | true => true
  | false => Nat.ble 300000 p.1 && !Nat.beq p.2.t 6 && !Nat.beq p.2.t 7 && (Nat.blt p.1 450000 || Nat.beq p.2.t 5 || Nat.beq p.2.t 9)
/-- What may be left: nothing that is named is unknown. -/
def refB (ks : List Nat) (av : AV) : Bool := match Nat.beq av.t 0 || Nat.beq av.t 5 with
  | true => Nat.ble av.n 1
  | false => match Nat.beq av.t 2 || Nat.beq av.t 11 || Nat.beq av.t 12 || Nat.beq av.t 15 with
    | true => hasN ks (hk av)
    | false => true
def leaveB (ks : List Nat) (p : Nat × AV) : Bool := Nat.ble 200000 p.1 && !Nat.beq p.2.t 6 && refB ks p.2 && (match Nat.ble 500000 p.1 with | true => Nat.ble 350000 (fnm p.1) && Nat.blt (fnm p.1) 400000 && hasN ks (100000 + fnm p.1) | false => true)
/-- The names that are new, or are another's now. -/
def newN (pre post : List Nat) : List Nat → List (Nat × List Nat)
  | [] => []
  | k :: ks => match Nat.ble 500000 k, Nat.blt k 400000, Nat.blt k 450000, hasN pre k with
    | true, _, _, _ => newN pre post ks
    | false, true, _, _ => (k, pre ++ post) :: newN pre post ks
    | false, false, true, true => newN pre post ks
    | false, false, true, false => (k, pre ++ post) :: newN pre post ks
    | false, false, false, true => (k - 100000 + 1000000, pre ++ post) :: newN pre post ks
    | false, false, false, false => (k - 100000, pre ++ post) :: newN pre post ks

theorem ble_no {a b : Nat} (h : b < a) : Nat.ble a b = false := by
  cases e : Nat.ble a b with
  | false => rfl
  | true => have := Nat.le_of_ble_eq_true e; omega
theorem blt_no {a b : Nat} (h : b ≤ a) : Nat.blt a b = false := by
  cases e : Nat.blt a b with
  | false => rfl
  | true => have := blt_lt e; omega
theorem blt_yes {a b : Nat} (h : a < b) : Nat.blt a b = true := by simp [Nat.blt_eq, h]
theorem newN_tail {pre post : List Nat} {x : Nat} {ks : List Nat} {q : Nat × List Nat} (h : q ∈ newN pre post ks) : q ∈ newN pre post (x :: ks) := by
  unfold newN
  split
  · exact h
  · exact List.mem_cons_of_mem _ h
  · exact h
  · exact List.mem_cons_of_mem _ h
  · exact List.mem_cons_of_mem _ h
  · exact List.mem_cons_of_mem _ h
theorem newN_row {pre post : List Nat} : ∀ {ks : List Nat} {k : Nat}, k ∈ ks → k < 450000 → (k < 400000 ∨ hasN pre k = false) → (k, pre ++ post) ∈ newN pre post ks
  | x :: ks, k, h, hk, hp => by
    rcases List.mem_cons.1 h with rfl | h
    · unfold newN
      rw [ble_no (by omega : k < 500000)]
      by_cases h4 : k < 400000
      · rw [blt_yes h4]; simp
      · rw [blt_no (by omega : 400000 ≤ k), blt_yes hk]
        rcases hp with hp | hp
        · omega
        · rw [hp]; simp
    · exact newN_tail (newN_row h hk hp)
theorem newN_box {pre post : List Nat} : ∀ {ks : List Nat} {k : Nat}, k ∈ ks → 450000 ≤ k → k < 500000 → hasN pre k = false → (k - 100000, pre ++ post) ∈ newN pre post ks
  | x :: ks, k, h, hk, hk2, hp => by
    rcases List.mem_cons.1 h with rfl | h
    · unfold newN
      rw [ble_no (by omega : k < 500000), blt_no (by omega : 400000 ≤ k), blt_no hk, hp]
      simp
    · exact newN_tail (newN_box h hk hk2 hp)
theorem newN_lent {pre post : List Nat} : ∀ {ks : List Nat} {k : Nat}, k ∈ ks → 450000 ≤ k → k < 500000 → hasN pre k = true → (k - 100000 + 1000000, pre ++ post) ∈ newN pre post ks
  | x :: ks, k, h, hk, hk2, hp => by
    rcases List.mem_cons.1 h with rfl | h
    · unfold newN
      rw [ble_no (by omega : k < 500000), blt_no (by omega : 400000 ≤ k), blt_no hk, hp]
      simp
    · exact newN_tail (newN_lent h hk hk2 hp)

theorem mem_keys {s : AS} {k : Nat} {av : AV} (h : look s k = some av) : k ∈ keysOf s := List.mem_map.2 ⟨_, look_mem h, rfl⟩
theorem keys_look {s : AS} {k : Nat} (h : k ∈ keysOf s) : ∃ av, look s k = some av := by
  induction s with
  | nil => simp [keysOf] at h
  | cons p s ih =>
    obtain ⟨d, x⟩ := p
    by_cases e : d = k
    · exact ⟨x, by rw [look_cons, if_pos e]⟩
    · rw [look_ne e]
      refine ih ?_
      simp only [keysOf, List.map_cons, List.mem_cons] at h ⊢
      rcases h with h | h
      · exact absurd h.symm e
      · exact h
theorem look_append {e s : AS} {k : Nat} : look (e ++ s) k = (look e k).or (look s k) := by
  induction e with
  | nil => rfl
  | cons p e ih =>
    obtain ⟨d, x⟩ := p
    by_cases h : d = k
    · subst h; rw [List.cons_append, look_same, look_same]; rfl
    · rw [List.cons_append, look_ne h, look_ne h, ih]
theorem look_no {s : AS} {k : Nat} (h : hasN (keysOf s) k = false) : look s k = none := by
  cases e : look s k with
  | none => rfl
  | some av => rw [hasN_of (mem_keys e)] at h; cases h

theorem all_look {q : Nat × AV → Bool} {s : AS} (h : s.all q = true) {k : Nat} {av : AV} (h1 : look s k = some av) : q (k, av) = true := by
  rw [List.all_eq_true] at h
  exact h _ (look_mem h1)

section
variable {P : Program} {w0 : World} {U0 : UX} {nt : Nat} {ops : Array Oper} {o : Oper} {S : Nat → Option AV} {gs : List Nat} {d : Nat} {s : AS} {a : Act} {w : World} {D : Nat → Nat → Prop} {hv : Nat → Value}

theorem evsA_rep (h : SimG w0 U0 nt s a w D hv) : ∀ {xs : List Operand} {cs : List AV}, (∀ k ∈ rdl xs, look s k = S k) → evsA S xs = some cs → AVReps (Us w0 U0 D) w hv (LiveN s) cs (xs.map a.eval)
  | [], cs, _, he => by simp [evsA] at he; subst he; rfl
  | x :: xs, cs, hs, he => by
    unfold evsA at he
    split at he
    · rename_i c cs' h1 h2
      cases he
      exact ⟨a.eval x, xs.map a.eval, rfl, ev_rep h (fun k hk => hs k (List.mem_append_left _ hk)) h1, evsA_rep h (fun k hk => hs k (List.mem_append_right _ hk)) h2⟩
    · cases he

/-- What is lent, as the call gets it. -/
theorem SimG.lend (h : SimG w0 U0 nt s a w D hv) {pre : AS} (hp : Sub s pre) (hl : pre.all lendB = true) : ∃ V : UX, (∀ k v, V.f k = some v → hasN (keysOf pre) k = true) ∧ SimG w V 0 pre ⟨#[], []⟩ w (fun _ _ => False) hv ∧ (∀ b, V.x b ↔ ∃ k av, look pre k = some av ∧ oKey k ∧ hb (hv k) = some b) ∧ (∀ k, hasN (keysOf pre) k = true → 400000 ≤ k → k < 500000 → V.f k = some (hv k)) ∧ (∀ b o, V.m b o ↔ Us w0 U0 D b o) ∧ ∀ b o u, Us w0 U0 D b o → w.cell? ⟨b, o, none⟩ = some u → Us w V (fun _ _ => False) b o ∧ w.cell? ⟨b, o, none⟩ = some u := by
  classical
  have hlk : ∀ {k av}, look pre k = some av → oKey k → 300000 ≤ k ∧ av.t ≠ 6 ∧ av.t ≠ 7 ∧ (k < 450000 ∨ av.t = 5 ∨ av.t = 9) := fun {k av} h1 h2 => by
    have h3 := all_look hl h1
    unfold oKey at h2
    unfold lendB at h3
    have h4 : Nat.ble 500000 k = false := by
      cases e : Nat.ble 500000 k with
      | false => rfl
      | true => have := Nat.le_of_ble_eq_true e; omega
    simp only [h4, Bool.and_eq_true, Bool.or_eq_true, Bool.not_eq_true'] at h3
    obtain ⟨⟨⟨h5, h6⟩, h7⟩, h8⟩ := h3
    refine ⟨Nat.le_of_ble_eq_true h5, (fun e => by rw [e] at h6; cases h6), (fun e => by rw [e] at h7; cases h7), ?_⟩
    rcases h8 with (h8 | h8) | h8
    · exact .inl (blt_lt h8)
    · exact .inr (.inl (Nat.eq_of_beq_eq_true h8))
    · exact .inr (.inr (Nat.eq_of_beq_eq_true h8))
  let isB : Nat → Prop := fun k => 400000 ≤ k ∧ k < 500000 ∧ hasN (keysOf pre) k = true
  let V : UX := ⟨Us w0 U0 D, fun b => ∃ k av, look pre k = some av ∧ oKey k ∧ hb (hv k) = some b, fun k => if isB k then some (hv k) else none, fun k v (h1 : (if isB k then some (hv k) else none) = some v) => by
    split at h1
    · rename_i h2; exact ⟨h2.1, h2.2.1⟩
    · cases h1⟩
  have hkeep : ∀ b o u, Us w0 U0 D b o → w.cell? ⟨b, o, none⟩ = some u → Us w V (fun _ _ => False) b o ∧ w.cell? ⟨b, o, none⟩ = some u := fun b o u hu hc => by
    refine ⟨.inl ⟨World.block_lt_of_cell? w _ hc, hu, ?_⟩, hc⟩
    rintro ⟨k, av, h1, h2, h3⟩
    obtain ⟨g1, g2, g3, _⟩ := hlk h1 h2
    obtain ⟨f1, f2, f3⟩ := h.blk k av b (hp _ _ h1) h2 g3 h3
    exact us_ne hu f1 (f3 o fun e => absurd e g2) rfl
  have hln : ∀ n, LiveN pre n → LiveN s n := fun n h1 => h1.imp id fun ⟨e, he⟩ => ⟨e, hp _ _ he.1, he.2⟩
  refine ⟨V, fun n g h1 => ?_, ⟨BelowX.refl _ _, rfl, rfl, fun d av h1 h2 => ?_, fun n o av h1 h2 h3 h4 => ?_, fun n o o' av av' h1 h2 => h.fdis n o o' av av' (hp _ _ h1) (hp _ _ h2), fun k av h1 h2 => ?_, fun k av g h1 h2 h3 h4 => ?_, fun k k' av av' g h1 h2 => h.disj k k' av av' g (hp _ _ h1) (hp _ _ h2), fun n g h1 => ?_, fun b o hd => hd.elim⟩, fun b => Iff.rfl, fun k h1 h2 h3 => ?_, fun b o => Iff.rfl, hkeep⟩
  · have h1 : (if isB n then some (hv n) else none) = some g := h1
    split at h1
    · rename_i h2; exact h2.2.2
    · cases h1
  · have h3 := all_look hl h1
    unfold lendB at h3
    have h4 : Nat.ble 500000 d = false := by
      cases e : Nat.ble 500000 d with
      | false => rfl
      | true => have := Nat.le_of_ble_eq_true e; omega
    simp only [h4, Bool.and_eq_true] at h3
    have := Nat.le_of_ble_eq_true h3.1.1.1
    omega
  · obtain ⟨v, h6, h7⟩ := h.fld n o av (hp _ _ h1) h2 (hp _ _ h3) h4
    exact ⟨v, h6.move hkeep (fun _ => hln _) fun _ => rfl, h7⟩
  · exact (h.obj k av (hp _ _ h1) h2).move hkeep (fun _ h3 => ⟨hln _ h3, rfl⟩) fun _ _ => rfl
  · obtain ⟨g1, g2, g3, _⟩ := hlk h1 h2
    obtain ⟨f1, f2, f3⟩ := h.blk k av g (hp _ _ h1) h2 h3 h4
    exact ⟨.inr ⟨by rw [lcl_row g1]; exact g2, k, av, h1, h2, h4⟩, f2, fun _ _ h => h⟩
  · have h1 : (if isB n then some (hv n) else none) = some g := h1
    split at h1
    · cases h1; rfl
    · cases h1
  · show (if isB k then some (hv k) else none) = some (hv k)
    rw [if_pos ⟨h2, h3, h1⟩]

/-- The same, with what the call left. -/
theorem SimG.back (h : SimG w0 U0 nt s a w D hv) {pre post : AS} (hp : Sub s pre) (hl : pre.all lendB = true) (hq : post.all (leaveB (keysOf post)) = true) (hks : (keysOf pre).all (hasN (keysOf post)) = true) (hN : ∀ q ∈ newN (keysOf pre) (keysOf post) (keysOf post), NoRefE s q) (hnb : ∀ k v, U0.f k = some v → hasN (keysOf post) k = true → hasN (keysOf pre) k = true)
    {V : UX} (hVx : ∀ b, V.x b ↔ ∃ k av, look pre k = some av ∧ oKey k ∧ hb (hv k) = some b) (hVf : ∀ k, hasN (keysOf pre) k = true → 400000 ≤ k → k < 500000 → V.f k = some (hv k)) (hVm : ∀ b o, V.m b o ↔ Us w0 U0 D b o) (hpS : SimG w V 0 pre ⟨#[], []⟩ w (fun _ _ => False) hv)
    {w' : World} {D' : Nat → Nat → Prop} {hv' : Nat → Value} {a' : Act} (h' : SimG w V 0 post a' w' D' hv') :
    ∃ D'' hv'', SimG w0 U0 nt (post ++ s) a w' D'' hv'' ∧ ∀ r v, refB (keysOf post) r = true → AVRep (Us w V D') w' hv' (LiveN post) r v → AVRep (Us w0 U0 D'') w' hv'' (LiveN (post ++ s)) r v := by
  classical
  have hlk : ∀ {k av}, look pre k = some av → oKey k → 300000 ≤ k ∧ av.t ≠ 6 ∧ av.t ≠ 7 ∧ (k < 450000 ∨ av.t = 5 ∨ av.t = 9) := fun {k av} h1 h2 => by
    have h3 := all_look hl h1
    unfold oKey at h2
    unfold lendB at h3
    have h4 : Nat.ble 500000 k = false := by
      cases e : Nat.ble 500000 k with
      | false => rfl
      | true => have := Nat.le_of_ble_eq_true e; omega
    simp only [h4, Bool.and_eq_true, Bool.or_eq_true, Bool.not_eq_true'] at h3
    obtain ⟨⟨⟨h5, h6⟩, h7⟩, h8⟩ := h3
    refine ⟨Nat.le_of_ble_eq_true h5, (fun e => by rw [e] at h6; cases h6), (fun e => by rw [e] at h7; cases h7), ?_⟩
    rcases h8 with (h8 | h8) | h8
    · exact .inl (blt_lt h8)
    · exact .inr (.inl (Nat.eq_of_beq_eq_true h8))
    · exact .inr (.inr (Nat.eq_of_beq_eq_true h8))
  have hqk : ∀ {k av}, look post k = some av → 200000 ≤ k ∧ av.t ≠ 6 ∧ refB (keysOf post) av = true := fun {k av} h1 => by
    have h3 := all_look hq h1
    unfold leaveB at h3
    simp only [Bool.and_eq_true, Bool.not_eq_true'] at h3
    exact ⟨Nat.le_of_ble_eq_true h3.1.1.1, (fun e => by rw [e] at h3; exact absurd h3.1.1.2 (by decide)), h3.1.2⟩
  have hqf : ∀ {n o av}, look post (fKey n o) = some av → o < 100 → 350000 ≤ n ∧ n < 400000 ∧ hasN (keysOf post) (100000 + n) = true := fun {n o av} h1 h2 => by
    have h3 := all_look hq h1
    unfold leaveB at h3
    have h4 : Nat.ble 500000 (fKey n o) = true := Nat.ble_eq_true_of_le (by unfold fKey; omega)
    simp only [h4, fnm_key h2, Bool.and_eq_true] at h3
    exact ⟨Nat.le_of_ble_eq_true h3.2.1.1, blt_lt h3.2.1.2, h3.2.2⟩
  have hsub : ∀ {k}, hasN (keysOf pre) k = true → hasN (keysOf post) k = true := fun {k} h1 => by
    rw [List.all_eq_true] at hks
    exact hks k (hasN_mem h1)
  obtain ⟨D2, hD2⟩ : ∃ D2 : Nat → Nat → Prop, D2 = fun b o => D b o ∨ (w.heap.size ≤ b ∧ D' b o) := ⟨_, rfl⟩
  obtain ⟨hv2, hhv⟩ : ∃ hv2 : Nat → Value, hv2 = fun k => if hasN (keysOf post) k = true then hv' k else hv k := ⟨_, rfl⟩
  have hvy : ∀ {k}, hasN (keysOf post) k = true → hv2 k = hv' k := fun {k} h1 => by rw [hhv]; simp only [h1, if_true]
  have hvn : ∀ {k}, hasN (keysOf post) k = false → hv2 k = hv k := fun {k} h1 => by rw [hhv]; simp [h1]
  obtain ⟨s2, hs2⟩ : ∃ s2, s2 = post ++ s := ⟨_, rfl⟩
  have hly : ∀ {k av}, look post k = some av → look s2 k = some av := fun {k av} h1 => by rw [hs2, look_append, h1]; rfl
  have hlc : ∀ {k av}, look s2 k = some av → look post k = some av ∨ (hasN (keysOf post) k = false ∧ look s k = some av) := fun {k av} h1 => by
    cases e : hasN (keysOf post) k with
    | true =>
      obtain ⟨av', h2⟩ := keys_look (hasN_mem e)
      rw [hly h2] at h1
      cases h1
      exact .inl h2
    | false =>
      rw [hs2, look_append, look_no e] at h1
      exact .inr ⟨rfl, h1⟩
  have hlive : ∀ n e, Live s2 n e → hasN (keysOf post) n = false ∧ Live s n e := fun n e ⟨h1, h2⟩ => by
    rcases hlc h1 with h3 | ⟨h3, h4⟩
    · exact absurd rfl (hqk h3).2.1
    · exact ⟨h3, h4, h2⟩
  have hln : ∀ n, LiveN s2 n → LiveN s n := fun n h1 => h1.imp id fun ⟨e, he⟩ => ⟨e, (hlive n e he).2⟩
  have hbw := h'.below
  -- blocks that were not lent
  have hold : ∀ b, b < w.heap.size → ¬ V.x b → w'.heap[b]? = w.heap[b]? := hbw.block
  have hk1 : ∀ b o u, Us w0 U0 D b o → w.cell? ⟨b, o, none⟩ = some u → Us w0 U0 D2 b o ∧ w'.cell? ⟨b, o, none⟩ = some u := fun b o u hu hc => by
    refine ⟨hu.imp id fun h1 => ⟨h1.1, by rw [hD2]; exact .inl h1.2⟩, ?_⟩
    have hnx : ¬ V.x b := fun hx => by
      obtain ⟨k, av, h1, h2, h3⟩ := (hVx b).1 hx
      obtain ⟨g1, g2, g3, _⟩ := hlk h1 h2
      obtain ⟨f1, f2, f3⟩ := h.blk k av b (hp _ _ h1) h2 g3 h3
      exact us_ne hu f1 (f3 o fun e => absurd e g2) rfl
    rw [World.cell?_of_block (w := w) (hold b (World.block_lt_of_cell? w _ hc) hnx)]
    exact hc
  have hk2 : ∀ b o u, Us w V D' b o → w'.cell? ⟨b, o, none⟩ = some u → Us w0 U0 D2 b o ∧ w'.cell? ⟨b, o, none⟩ = some u := fun b o u hu hc => by
    refine ⟨?_, hc⟩
    rcases hu with ⟨h1, h2, h3⟩ | ⟨h1, h2⟩
    · exact ((hVm b o).1 h2).imp id fun h4 => ⟨h4.1, by rw [hD2]; exact .inl h4.2⟩
    · exact .inr ⟨Nat.le_trans h.below.size h1, by rw [hD2]; exact .inr ⟨h1, h2⟩⟩
  -- what was lent is where it was
  have hbx : ∀ k, 400000 ≤ k → k < 500000 → hasN (keysOf pre) k = true → hv' k = hv k := fun k h2 h3 h1 => h'.fix k _ (hVf k h1 h2 h3)
  have hrow : ∀ {k av n}, look s k = some av → hasN (keysOf post) k = false → RN n → hasN (keysOf post) n = true → (n < 400000 ∨ hasN (keysOf pre) n = false) → av.n ≠ n := fun {k av n} h1 h2 h3 h4 h6 => by
    have h5 := hN _ (newN_row (pre := keysOf pre) (post := keysOf post) (hasN_mem h4) h3.2 h6)
    refine (h5 k av h1 ?_).1
    cases e : hasN (keysOf pre ++ keysOf post) k with
    | false => rfl
    | true =>
      rcases List.mem_append.1 (hasN_mem e) with e | e
      · rw [hsub (hasN_of e)] at h2; cases h2
      · rw [hasN_of e] at h2; cases h2
  have hbox : ∀ {k av n}, look s k = some av → hasN (keysOf post) k = false → BN n → 350000 ≤ n → hasN (keysOf post) (100000 + n) = true → hasN (keysOf pre) (100000 + n) = false → av.n ≠ n ∧ fnm k ≠ n ∧ fnm k + 1000000 ≠ n := fun {k av n} h1 h2 h3 h6 h4 h5 => by
    unfold BN at h3
    have h7 := hN _ (newN_box (pre := keysOf pre) (post := keysOf post) (hasN_mem h4) (by omega) (by omega) h5)
    rw [show 100000 + n - 100000 = n by omega] at h7
    refine h7 k av h1 ?_
    cases e : hasN (keysOf pre ++ keysOf post) k with
    | false => rfl
    | true =>
      rcases List.mem_append.1 (hasN_mem e) with e | e
      · rw [hsub (hasN_of e)] at h2; cases h2
      · rw [hasN_of e] at h2; cases h2
  have hfno : ∀ {n o av}, look s (fKey n o) = some av → hasN (keysOf post) (fKey n o) = false → o < 100 → 350000 ≤ n → n < 400000 → hasN (keysOf post) (100000 + n) = true → False := fun {n o av} h1 h2 h3 h4 h5 h6 => by
    cases e : hasN (keysOf pre) (100000 + n) with
    | false =>
      have := (hbox h1 h2 (.inr ⟨h4, h5⟩) h4 h6 e).2.1
      rw [fnm_key h3] at this
      exact this rfl
    | true =>
      have h7 := hN _ (newN_lent (pre := keysOf pre) (post := keysOf post) (hasN_mem h6) (by omega) (by omega) e)
      have h8 := (h7 (fKey n o) av h1 (by
        cases e : hasN (keysOf pre ++ keysOf post) (fKey n o) with
        | false => rfl
        | true =>
          rcases List.mem_append.1 (hasN_mem e) with e | e
          · rw [hsub (hasN_of e)] at h2; cases h2
          · rw [hasN_of e] at h2; cases h2)).2.2
      rw [fnm_key h3] at h8
      apply h8
      show n + 1000000 = 100000 + n - 100000 + 1000000
      omega
  -- what the caller knew
  have hm1 : ∀ {k av v}, look s k = some av → hasN (keysOf post) k = false → AVRep (Us w0 U0 D) w hv (LiveN s) av v → AVRep (Us w0 U0 D2) w' hv2 (LiveN s2) av v := fun {k av v} h1 h2 h3 =>
    h3.move hk1 (fun _ => hln _) fun hR => by
      cases e : hasN (keysOf post) (hk av) with
      | false => exact hvn e
      | true =>
        rcases hR with ⟨r1, r2, r3⟩ | ⟨r1, r2⟩ | ⟨r1, r2⟩
        · rw [hk_eq.2 (by omega)] at e
          rcases r2 with r4 | ⟨_, r4⟩
          · exact absurd r4 r3
          · exact absurd rfl (hrow h1 h2 ⟨r4.2.1, Nat.lt_trans r4.2.2 (by omega)⟩ e (.inl r4.2.2))
        · rw [hk_eq.1 r1] at e ⊢
          rw [hvy e]
          cases e2 : hasN (keysOf pre) (100000 + av.n) with
          | true =>
            obtain ⟨av', h7⟩ := keys_look (hasN_mem e)
            have := (hqk h7).1
            unfold BN at r2
            exact hbx _ (by omega) (by omega) e2
          | false =>
            have h6 : 350000 ≤ av.n := by
              obtain ⟨av', h7⟩ := keys_look (hasN_mem e)
              have := (hqk h7).1
              unfold BN at r2
              omega
            exact absurd rfl (hbox h1 h2 r2 h6 e e2).1
        · rw [hk_eq.2 (by omega)] at e ⊢
          cases e2 : hasN (keysOf pre) av.n with
          | false => exact absurd rfl (hrow h1 h2 r2 e (.inr e2))
          | true =>
            by_cases h4 : av.n < 400000
            · exact absurd rfl (hrow h1 h2 r2 e (.inl h4))
            · have := r2.2
              rw [hvy e]
              exact hbx _ (by omega) (by omega) e2
  -- what the call left
  have hm2 : ∀ {av v}, refB (keysOf post) av = true → AVRep (Us w V D') w' hv' (LiveN post) av v → AVRep (Us w0 U0 D2) w' hv2 (LiveN s2) av v := fun {av v} h1 h2 => by
    unfold refB at h1
    refine h2.move hk2 (fun h3 h4 => ?_) fun hR => ?_
    · rw [h3] at h1
      have h1 : Nat.ble av.n 1 = true := h1
      have := Nat.le_of_ble_eq_true h1
      rcases liveN_rn h4 with h5 | h5
      · exact .inl h5
      · unfold RN at h5; omega
    · rcases hR with ⟨r1, r2, r3⟩ | ⟨r1, r2⟩ | ⟨r1, r2⟩
      · rw [r1] at h1
        have h1 : Nat.ble av.n 1 = true := h1
        have := Nat.le_of_ble_eq_true h1
        rcases liveN_rn r2 with h5 | h5
        · exact absurd h5 r3
        · unfold RN at h5; omega
      · rw [r1] at h1
        have h1 : hasN (keysOf post) (hk av) = true := h1
        exact hvy h1
      · rcases r1 with r1 | r1 | r1 <;> (rw [r1] at h1; have h1 : hasN (keysOf post) (hk av) = true := h1; exact hvy h1)
  refine ⟨D2, hv2, ?_, fun r v h1 h2 => by rw [← hs2]; exact hm2 h1 h2⟩
  rw [← hs2]
  -- the block of what was not lent
  have hnotx : ∀ {k av g}, look s k = some av → hasN (keysOf post) k = false → oKey k → av.t ≠ 7 → hb (hv k) = some g → ¬ V.x g := fun {k av g} h1 h2 h3 h4 h5 hx => by
    obtain ⟨k', av', f1, f2, f3⟩ := (hVx g).1 hx
    refine h.disj k k' av av' g h1 (hp _ _ f1) h3 f2 h4 (hlk f1 f2).2.2.1 (fun e => ?_) h5 f3
    rw [e, hsub (hasN_of (mem_keys f1))] at h2
    cases h2
  have hlent : ∀ {g}, V.x g → ∃ k av, look s k = some av ∧ oKey k ∧ av.t ≠ 7 ∧ av.t ≠ 6 ∧ hasN (keysOf post) k = true ∧ hb (hv k) = some g := fun {g} hx => by
    obtain ⟨k', av', f1, f2, f3⟩ := (hVx g).1 hx
    obtain ⟨g1, g2, g3, _⟩ := hlk f1 f2
    exact ⟨k', av', hp _ _ f1, f2, g3, g2, hsub (hasN_of (mem_keys f1)), f3⟩
  refine ⟨⟨hbw.os.trans h.below.os, hbw.tape.trans h.below.tape, hbw.output.trans h.below.output, Nat.le_trans h.below.size hbw.size, fun b hb hx => ?_⟩, h.dfr, h.size, fun d av h1 h2 => ?_, fun n o av h1 h2 h3 h4 => ?_, fun n o o' av av' h1 h2 h3 h4 h5 => ?_, fun k av h1 h2 => ?_, fun k av g h1 h2 h3 h4 => ?_, fun k k' av av' g h1 h2 h3 h4 h5 h6 hne => ?_, fun n g h1 => ?_, fun b o hd => ?_⟩
  · rw [hold b (Nat.lt_of_lt_of_le hb h.below.size) fun hv => ?_]
    · exact h.below.block b hb hx
    · obtain ⟨k, av, f1, f2, f3, f4, f5, f6⟩ := hlent hv
      rcases (h.blk k av b f1 f2 f3 f6).1 with f7 | f7
      · omega
      · exact hx f7.2
  · rcases hlc h1 with h3 | ⟨h3, h4⟩
    · have := (hqk h3).1; omega
    · obtain ⟨v, f1, f2⟩ := h.slot d av h4 h2
      exact ⟨v, f1, hm1 h4 h3 f2⟩
  · have hob := hlc h3
    rcases hlc h1 with h5 | ⟨h5, h6⟩
    · rcases hob with h7 | ⟨h7, h8⟩
      · obtain ⟨v, f1, f2, f3⟩ := h'.fld n o av h5 h2 h7 h4
        refine ⟨v, hm2 (hqk h5).2.2 f1, f2, ?_⟩
        rw [hvy (hasN_of (mem_keys h7))]
        exact f3
      · rw [(hqf h5 h2).2.2] at h7; cases h7
    · rcases hob with h7 | ⟨h7, h8⟩
      · have h8 := (hqk h7).1
        have h4' := h4
        unfold BN at h4'
        exact (hfno h6 h5 h2 (by omega) (by omega) (hasN_of (mem_keys h7))).elim
      · obtain ⟨v, f1, f2, f3⟩ := h.fld n o av h6 h2 h8 h4
        refine ⟨v, hm1 h6 h5 f1, f2, fun i hi => ?_⟩
        rw [hvn h7]
        have f4 := f3 i hi
        obtain ⟨g2, ys, ty2, e1, e2, e3⟩ := h.obj9 h8 h4
        rw [e2] at f4 ⊢
        rw [World.cell?_of_block (w := w) (hold g2 (Array.getElem?_eq_some_iff.1 e3).1 (hnotx h8 h7 (bn_okey h4) (by simp) (by rw [e1]; rfl)))]
        exact f4
  · rcases hlc h1 with f1 | ⟨f1, f2⟩
    · rcases hlc h2 with f3 | ⟨f3, f4⟩
      · exact h'.fdis n o o' av av' f1 f3 h3 h4 h5
      · obtain ⟨g1, g2, g3⟩ := hqf f1 h3
        exact (hfno f4 f3 h4 g1 g2 g3).elim
    · rcases hlc h2 with f3 | ⟨f3, f4⟩
      · obtain ⟨g1, g2, g3⟩ := hqf f3 h4
        exact (hfno f2 f1 h3 g1 g2 g3).elim
      · exact h.fdis n o o' av av' f2 f4 h3 h4 h5
  · rcases hlc h1 with h3 | ⟨h3, h4⟩
    · rw [hvy (hasN_of (mem_keys h3))]
      refine (h'.obj k av h3 h2).move hk2 (fun h5 h6 => ?_) fun _ _ => rfl
      have h7 := (hqk h3).2.2
      unfold refB at h7
      rw [h5] at h7
      have h7 : Nat.ble av.n 1 = true := h7
      have := Nat.le_of_ble_eq_true h7
      rcases liveN_rn h6 with h8 | h8
      · exact ⟨.inl h8, by rw [h8]; rfl⟩
      · unfold RN at h8; omega
    · rw [hvn h3]
      by_cases h7 : av.t = 7
      · exact oc_no h7
      · refine (h.obj k av h4 h2).move hk1 (fun h5 h6 => ⟨hln _ h6, ?_⟩) fun g hg => hold g (h.blk k av g h4 h2 h7 hg).2.1 (hnotx h4 h3 h2 h7 hg)
        unfold tokv
        by_cases h8 : av.n = 1
        · rw [if_pos h8, if_pos h8]
        · rw [if_neg h8, if_neg h8]
          rcases h6 with h6 | ⟨e, he⟩
          · exact absurd h6 h8
          · rw [hvn (hlive _ _ he).1]
  · rcases hlc h1 with h5 | ⟨h5, h6⟩
    · rw [hvy (hasN_of (mem_keys h5))] at h4 ⊢
      obtain ⟨f1, f2, f3⟩ := h'.blk k av g h5 h2 h3 h4
      have ht6 := (hqk h5).2.1
      refine ⟨?_, f2, fun o _ hd => ?_⟩
      · rcases f1 with f1 | ⟨f1, f4⟩
        · exact .inl (Nat.le_trans h.below.size f1)
        · obtain ⟨k1, av1, e1, e2, e3, e4, e5, e6⟩ := hlent f4
          rcases (h.blk k1 av1 g e1 e2 e3 e6).1 with e7 | e7
          · exact .inl e7
          · exact .inr ⟨f1, e7.2⟩
      · rw [hD2] at hd
        rcases hd with hd | hd
        · rcases f1 with f1 | ⟨f1, f4⟩
          · have := h.dlt _ _ hd; omega
          · obtain ⟨k1, av1, e1, e2, e3, e4, e5, e6⟩ := hlent f4
            exact (h.blk k1 av1 g e1 e2 e3 e6).2.2 o (fun e => absurd e e4) hd
        · exact f3 o (fun e => absurd e ht6) hd.2
    · rw [hvn h5] at h4 ⊢
      obtain ⟨f1, f2, f3⟩ := h.blk k av g h6 h2 h3 h4
      refine ⟨f1, Nat.lt_of_lt_of_le f2 hbw.size, fun o ho hd => ?_⟩
      rw [hD2] at hd
      rcases hd with hd | hd
      · exact f3 o ho hd
      · omega
  · have hmix : ∀ {k k' av av'}, look post k = some av → oKey k → av.t ≠ 7 → look s k' = some av' → hasN (keysOf post) k' = false → oKey k' → av'.t ≠ 7 → hb (hv' k) = some g → hb (hv k') ≠ some g := fun {k k' av av'} e1 e2 e3 e4 e5 e6 e7 e8 e9 => by
      rcases (h'.blk k av g e1 e2 e3 e8).1 with f1 | f1
      · have := (h.blk k' av' g e4 e6 e7 e9).2.1; omega
      · exact hnotx e4 e5 e6 e7 e9 f1.2
    rcases hlc h1 with e1 | ⟨e1, e2⟩
    · rw [hvy (hasN_of (mem_keys e1))]
      rcases hlc h2 with e3 | ⟨e3, e4⟩
      · rw [hvy (hasN_of (mem_keys e3))]
        exact h'.disj k k' av av' g e1 e3 h3 h4 h5 h6 hne
      · rw [hvn e3]
        exact hmix e1 h3 h5 e4 e3 h4 h6
    · rw [hvn e1]
      rcases hlc h2 with e3 | ⟨e3, e4⟩
      · rw [hvy (hasN_of (mem_keys e3))]
        exact fun f1 f2 => hmix e3 h4 h6 e2 e1 h3 h5 f2 f1
      · rw [hvn e3]
        exact h.disj k k' av av' g e2 e4 h3 h4 h5 h6 hne
  · cases e : hasN (keysOf post) n with
    | false => rw [hvn e]; exact h.fix n g h1
    | true =>
      rw [hvy e]
      have h2 := U0.hf n g h1
      rw [hbx n h2.1 h2.2 (hnb n g h1 e)]
      exact h.fix n g h1
  · rw [hD2] at hd
    rcases hd with hd | hd
    · exact Nat.lt_of_lt_of_le (h.dlt b o hd) hbw.size
    · exact h'.dlt b o hd.2

/-- No new boxes. -/
def nbB (pre post : List Nat) : Bool := post.all fun k => match Nat.ble 400000 k && Nat.blt k 500000 with | true => hasN pre k | false => true
theorem hnb_of {pre post : List Nat} (h : nbB pre post = true) : ∀ k v, U0.f k = some v → hasN post k = true → hasN pre k = true := fun k v h1 h2 => by
  have h3 := U0.hf k v h1
  unfold nbB at h
  rw [List.all_eq_true] at h
  have h4 := h _ (hasN_mem h2)
  rw [Nat.ble_eq_true_of_le h3.1, blt_yes h3.2] at h4
  exact h4
theorem a_callO {f : FuncId} {xs : Array Operand} {ts : Array TypeId} {avs : List AV} {r : AV} {pre post : AS} (hg : Gd w0 U0 nt ops o gs S) (hd : o.dst = some d) (hn : Nat.blt d nt = true) (h5 : Nat.blt d 100000 = true)
    (ho : o.op = .call { callee := .value (.func f), args := xs, argTypes := ts }) (hx : evsA S xs.toList = some avs) (hc : AFunO P f pre avs r post) (hp : SubS S pre) (hl : pre.all lendB = true) (hq : post.all (leaveB (keysOf post)) = true) (hks : (keysOf pre).all (hasN (keysOf post)) = true) (hr : refB (keysOf post) r = true) (hnb : ∀ k v, U0.f k = some v → hasN (keysOf post) k = true → hasN (keysOf pre) k = true) :
    AOp P w0 U0 nt ops o (gs ++ (rdl xs.toList ++ keysOf pre)) (newN (keysOf pre) (keysOf post) (keysOf post)) S ((d, r) :: post) := by
  intro s hs hN a w ⟨D, hv, h⟩ Q K hK
  rw [if_pos (hg s (fun k hk => hs k (List.mem_append_left _ hk)) a w D hv h)]
  have hargs := evsA_rep h (fun k hk => hs k (List.mem_append_right _ (List.mem_append_left _ hk))) hx
  have hsub : Sub s pre := fun k av h1 => (hs k (List.mem_append_right _ (List.mem_append_right _ (mem_keys h1)))).trans (hp.look h1)
  obtain ⟨V, v1, v2, v3, v4, v5, v6⟩ := h.lend hsub hl
  obtain ⟨h1, h2⟩ := hc
  have hcall := h2 V w hv ⟨#[], []⟩ _ v1 v2 (hargs.imp fun c _ v hcv => hcv.move v6 (fun _ h3 => h3.imp id fun ⟨e, he⟩ => ⟨e, hsub _ _ he.1, he.2⟩) fun _ => rfl)
  have he : (execOp a.eval o).run P w = .ok (.enter f (xs.toList.map a.eval).toArray) w := by
    have hf : a.eval (.func f) = .func (.func f) #[] #[] := rfl
    have hen := h1 (xs.map a.eval) w
    have harr : (xs.toList.map a.eval).toArray = xs.map a.eval := by apply Array.ext'; simp
    rw [harr]
    generalize a.eval = ρ at hf hen ⊢
    simp [execOp, ho, resolve, invoke, Deferred.ofValue, hf, hen]
  unfold Oper.wp
  rw [he, Oper.upon_enter]
  refine hcall.mono ?_
  rintro e w' ⟨v, D', hv', a', rfl, h6, h7⟩
  rw [hd]
  obtain ⟨D2, hv2, h8, h9⟩ := h.back hsub hl hq hks hN hnb v3 v4 v5 v2 h6
  exact hK _ _ ⟨D2, hv2, h8.put (blt_lt hn) (blt_lt h5) (h9 r v hr h7)⟩

/-- The arguments in their slots. -/
def argA : List AV → Nat → AS
  | [], _ => []
  | c :: cs, i => (i, c) :: argA cs (i + 1)
theorem look_argA : ∀ {cs : List AV} {i k : Nat} {av : AV}, look (argA cs i) k = some av → i ≤ k ∧ cs[k - i]? = some av
  | [], _, _, _, h => by simp [argA, look] at h
  | c :: cs, i, k, av, h => by
    rw [argA, look_cons] at h
    split at h
    · rename_i e; subst e; cases h; exact ⟨Nat.le_refl _, by simp⟩
    · rename_i e
      obtain ⟨h1, h2⟩ := look_argA h
      refine ⟨by omega, ?_⟩
      rw [show k - i = (k - (i + 1)) + 1 by omega]
      simpa using h2
/-- What is told at the end. -/
noncomputable def resA (P : Program) (s : AS) (rs : List ResultVar) : Option AV := match rs with
  | [.tmp t] => match Nat.blt t 100000, look s t with
    | true, some ⟨0, c, _, _, _⟩ => some (.val c)
    | true, some av => some av
    | _, _ => none
  | rs => match resO P s rs with | some cs => some (resAV cs) | none => none
theorem resA_run (h : SimG w0 U0 nt s a w D hv) {fn : Func} {r : AV} (hr : resA P s fn.results.toList = some r) : ∃ v, (results fn a.tmps).run P w = .ok v w ∧ AVRep (Us w0 U0 D) w hv (LiveN s) r v := by
  unfold resA at hr
  split at hr
  · rename_i t ht
    have hrs : fn.results = #[.tmp t] := by apply Array.ext'; simpa using ht
    have hres : ∀ v, a.tmps[t]? = some v → (results fn a.tmps).run P w = .ok v w := fun v hv => by
      rw [results_eq, hrs]
      simp [resF, Array.getD_eq_getD_getElem?, hv]
    split at hr
    · rename_i c n q p h1 h2
      cases hr
      obtain ⟨v, h3, h4⟩ := h.slot t _ h2 (blt_lt h1)
      exact ⟨v, hres v h3, avrep_val h4.1⟩
    · rename_i av h1 h2
      cases hr
      obtain ⟨v, h3, h4⟩ := h.slot t _ h2 (blt_lt h1)
      exact ⟨v, hres v h3, h4⟩
    · cases hr
  · split at hr
    · rename_i cs h1
      cases hr
      obtain ⟨v, h2, h3⟩ := res_run h h1
      refine ⟨v, h2, avrep_rr ?_ ?_ h3⟩
      · unfold resAV; split
        · exact .inl rfl
        · exact .inr rfl
      · unfold resAV; split <;> rfl
    · cases hr
def EndO (P : Program) (w0 : World) (U0 : UX) (nt : Nat) (fn : Func) (s : AS) (r : AV) (post : AS) : Prop := ∃ s', Wk w0 U0 nt s s' ∧ resA P s' fn.results.toList = some r ∧ SubL s' post

/-- A function's contract out of its body. -/
theorem afunO_of {f : FuncId} {fn : Func} {c : Code} {pre post : AS} {args : List AV} {r : AV} (hf : P.funcs[f]? = some fn) (hn : fn.ntmps = nt) (hname : (fn.name == "runtime.NumGoroutine") = false) (hb : fn.body = some c) (hl : Nat.ble args.length nt = true) (hnt : Nat.blt nt 100000 = true) (hpre : (keysOf pre).all (Nat.ble 100000) = true) (hpost : (keysOf post).all (Nat.ble 100000) = true)
    (h : ∀ (w : World) (U : UX), (∀ k v, U.f k = some v → hasN (keysOf pre) k = true) → AWp P w U nt c (fun e s' => (e = .normal ∨ e = .ret) ∧ EndO P w U nt fn s' r post) (argA args 0 ++ pre)) : AFunO P f pre args r post := by
  refine ⟨ent_of hf hname (by rw [hb]; rfl), fun U w hv a0 vs hU hpS hargs => ?_⟩
  have hlen := hargs.len
  refine calls_of_wp hf hb ?_
  have hle := Nat.le_of_ble_eq_true hl
  have hnt := blt_lt hnt
  have hlow : ∀ {k av}, look pre k = some av → 100000 ≤ k := fun {k av} h1 => by
    rw [List.all_eq_true] at hpre
    exact Nat.le_of_ble_eq_true (hpre k (mem_keys h1))
  have hlk : ∀ {k}, 100000 ≤ k → look (argA args 0 ++ pre) k = look pre k := fun {k} h1 => by
    rw [look_append]
    cases h2 : look (argA args 0) k with
    | none => rfl
    | some av =>
      obtain ⟨_, h3⟩ := look_argA h2
      rw [Nat.sub_zero, List.getElem?_eq_none (by omega)] at h3
      cases h3
  have hlive : LiveN (argA args 0 ++ pre) = LiveN pre := by
    funext n
    unfold LiveN Live
    apply propext
    constructor
    · rintro (h1 | ⟨e, h1, h2, h3⟩)
      · exact .inl h1
      · rw [hlk (by omega)] at h1; exact .inr ⟨e, h1, h2, h3⟩
    · rintro (h1 | ⟨e, h1, h2, h3⟩)
      · exact .inl h1
      · exact .inr ⟨e, by rw [hlk (by omega)]; exact h1, h2, h3⟩
  have hs : Sim w U nt (argA args 0 ++ pre) { tmps := vs.toArray ++ Array.replicate (fn.ntmps - vs.toArray.size) undef, defers := [] } w := by
    refine ⟨fun _ _ => False, hv, hpS.below, rfl, by simp [hn]; omega, fun d av h1 h2 => ?_, fun n o av h1 h2 h3 h4 => ?_, fun n o o' av av' h1 h2 => ?_, fun k av h1 h2 => ?_, fun k av g h1 h2 => ?_, fun k k' av av' g h1 h2 h3 h4 => ?_, hpS.fix, fun b o hd => hd.elim⟩
    · rw [look_append] at h1
      cases h3 : look (argA args 0) d with
      | none =>
        rw [h3] at h1
        have := hlow h1
        omega
      | some av' =>
        rw [h3] at h1
        cases h1
        obtain ⟨_, h4⟩ := look_argA h3
        rw [Nat.sub_zero] at h4
        obtain ⟨v, h6, h7⟩ := hargs.at h4
        have hdl : d < vs.length := by
          rcases Nat.lt_or_ge d vs.length with h | h
          · exact h
          · rw [List.getElem?_eq_none h] at h6; cases h6
        rw [hlive]
        refine ⟨v, ?_, h7⟩
        rw [Array.getElem?_append_left (by simpa using hdl)]
        simpa using h6
    · rw [hlk (by unfold fKey; omega)] at h1
      rw [hlk (by omega)] at h3
      rw [hlive]
      exact hpS.fld n o av h1 h2 h3 h4
    · rw [hlk (by unfold fKey; omega)] at h1 h2
      exact hpS.fdis n o o' av av' h1 h2
    · rw [hlk h2.1] at h1; rw [hlive]; exact hpS.obj k av h1 h2
    · rw [hlk h2.1] at h1; exact hpS.blk k av g h1 h2
    · rw [hlk h3.1] at h1; rw [hlk h4.1] at h2; exact hpS.disj k k' av av' g h1 h2 h3 h4
  refine wp_mono (h w U hU _ w hs) ?_
  rintro e a' w' ⟨s', ⟨h1, s2, g1, g2, g3⟩, h3⟩
  obtain ⟨D', hv', h4⟩ := g1 a' w' h3
  obtain ⟨v, h5, h6⟩ := resA_run h4 g2
  have hS := h4.sub g3.sub
  have hlow2 : ∀ {k av}, look post k = some av → 100000 ≤ k := fun {k av} h1 => by
    rw [List.all_eq_true] at hpost
    exact Nat.le_of_ble_eq_true (hpost k (mem_keys h1))
  have hS0 : SimG w U 0 post ⟨#[], []⟩ w' D' hv' := ⟨hS.below, rfl, rfl, fun d av h7 h8 => by have := hlow2 h7; omega, hS.fld, hS.fdis, hS.obj, hS.blk, hS.disj, hS.fix, hS.dlt⟩
  rcases h1 with rfl | rfl
  · exact ⟨h4.dfr, v, h5, v, D', hv', _, rfl, hS0, h6.move (fun _ _ _ h1 h2 => ⟨h1, h2⟩) (fun _ h7 => h7.imp id fun ⟨e, he⟩ => ⟨e, g3.sub _ _ he.1, he.2⟩) fun _ => rfl⟩
  · exact ⟨h4.dfr, v, h5, v, D', hv', _, rfl, hS0, h6.move (fun _ _ _ h1 h2 => ⟨h1, h2⟩) (fun _ h7 => h7.imp id fun ⟨e, he⟩ => ⟨e, g3.sub _ _ he.1, he.2⟩) fun _ => rfl⟩
end
end Go.Proofs.Ytmdhefepaolhcaa
