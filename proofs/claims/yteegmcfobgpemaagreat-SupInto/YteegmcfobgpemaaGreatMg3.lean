/-
  AbCall AbObj2 AbFld AbMap AbFull AbArr SbFns SbApply SbVars TmSm SbSmall TmOrd RfSame RfLess RfFlat
-/
import Derived.Test.YteegmcfobgpemaaGreatMg2
import Derived.MapKept
import Derived.Laws.NewFold
namespace Go.Proofs.YteegmcfobgpemaaGreat
open Go.RowKit
set_option linter.unusedVariables false
set_option linter.unusedSimpArgs false
def AVReps (U : Nat → Nat → Prop) (w : World) (hv : Nat → Value) (lv : Nat → Prop) : List AV → List Value → Prop
  | [], vs => vs = []
  | c :: cs, vs => ∃ u us, vs = u :: us ∧ AVRep U w hv lv c u ∧ AVReps U w hv lv cs us
theorem AVReps.len {U : Nat → Nat → Prop} {w : World} {hv : Nat → Value} {lv : Nat → Prop} : ∀ {l : List AV} {vs : List Value}, AVReps U w hv lv l vs → vs.length = l.length
  | [], _, h => by have h : _ = [] := h; rw [h]; rfl
  | c :: cs, vs, ⟨u, us, e, h1, h2⟩ => by rw [e, List.length_cons, List.length_cons, AVReps.len h2]
theorem AVReps.at {U : Nat → Nat → Prop} {w : World} {hv : Nat → Value} {lv : Nat → Prop} : ∀ {l : List AV} {vs : List Value}, AVReps U w hv lv l vs → ∀ {i : Nat} {c : AV}, l[i]? = some c → ∃ v, vs[i]? = some v ∧ AVRep U w hv lv c v
  | [], _, _, i, c, hi => by simp at hi
  | c' :: cs, vs, ⟨u, us, e, h1, h2⟩, 0, c, hi => by
    simp only [List.getElem?_cons_zero, Option.some.injEq] at hi
    exact ⟨u, by rw [e]; rfl, hi ▸ h1⟩
  | c' :: cs, vs, ⟨u, us, e, h1, h2⟩, i + 1, c, hi => by
    obtain ⟨v, h3, h4⟩ := AVReps.at h2 (i := i) (c := c) (by simpa using hi)
    exact ⟨v, by rw [e]; simpa using h3, h4⟩
theorem AVReps.imp {U V : Nat → Nat → Prop} {w w' : World} {hv hv' : Nat → Value} {lv lv' : Nat → Prop} : ∀ {l : List AV} {vs : List Value}, (∀ c ∈ l, ∀ v, AVRep U w hv lv c v → AVRep V w' hv' lv' c v) → AVReps U w hv lv l vs → AVReps V w' hv' lv' l vs
  | [], _, _, h => h
  | c :: cs, vs, hc, ⟨u, us, e, h1, h2⟩ => ⟨u, us, e, hc c (by simp) u h1, AVReps.imp (fun x hx => hc x (List.mem_cons_of_mem _ hx)) h2⟩

def AFunO (P : Program) (f : FuncId) (pre : AS) (args : List AV) (r : AV) (post : AS) : Prop :=
  EntF P f ∧ ∀ (U : UX) (w : World) (hv : Nat → Value) (a0 : Act) (vs : List Value), (∀ k v, U.f k = some v → hasN (kO pre) k = true) → SimG w U 0 pre a0 w (fun _ _ => False) hv → AVReps (Us w U (fun _ _ => False)) w hv (LiveN pre) args vs →
    Calls P f vs.toArray w fun e w' => ∃ v D' hv' a', e = .returned v ∧ SimG w U 0 post a' w' D' hv' ∧ AVRep (Us w U D') w' hv' (LiveN post) r v

def evsA (S : Nat → Option AV) : List Operand → Option (List AV)
  | [] => some []
  | x :: xs => match ev S x, evsA S xs with
    | some c, some cs => some (c :: cs)
    | _, _ => none

def SubS (S : Nat → Option AV) : AS → Prop
  | [] => True
  | (k, av) :: s => S k = some av ∧ SubS S s
theorem SubS.look {S : Nat → Option AV} : ∀ {s : AS}, SubS S s → ∀ {k av}, look s k = some av → S k = some av
  | [], _, k, av, h => by simp [Go.Proofs.YteegmcfobgpemaaGreat.look] at h
  | (k', av') :: s, ⟨h1, h2⟩, k, av, h => by
    rw [look_cons] at h
    split at h
    · rename_i e; subst e; cases h; exact h1
    · exact SubS.look h2 h

def lendB (p : Nat × AV) : Bool := match Nat.ble 500000 p.1 with
  | true => true
  | false => Nat.ble 300000 p.1 && !Nat.beq p.2.t 6 && !Nat.beq p.2.t 7 && (Nat.blt p.1 450000 || Nat.beq p.2.t 5 || Nat.beq p.2.t 9 || Nat.beq p.2.t 23)
def refB (ks : List Nat) (av : AV) : Bool := match Nat.beq av.t 0 || Nat.beq av.t 5 with
  | true => Nat.ble av.n 1
  | false => match Nat.beq av.t 2 || Nat.beq av.t 11 || Nat.beq av.t 12 || Nat.beq av.t 15 || Nat.beq av.t 19 with
    | true => hasN ks (hk av)
    | false => true
def leaveB (ks : List Nat) (p : Nat × AV) : Bool := Nat.ble 200000 p.1 && !Nat.beq p.2.t 6 && refB ks p.2 && (match Nat.ble 500000 p.1 with | true => Nat.ble 350000 (fnm p.1) && Nat.blt (fnm p.1) 400000 && hasN ks (100000 + fnm p.1) | false => true)
def newN (pre post : List Nat) : List Nat → List (Nat × List Nat)
  | [] => []
  | k :: ks => match Nat.ble 500000 k, Nat.blt k 400000, Nat.blt k 450000, hasN pre k with
    | true, _, _, _ => newN pre post ks
    | false, true, _, _ => (k, pre ++ post) :: newN pre post ks
    | false, false, true, true => newN pre post ks
    | false, false, true, false => (k, pre ++ post) :: newN pre post ks
    | false, false, false, true => (k - 100000 + 1000000, pre ++ post) :: newN pre post ks
    | false, false, false, false => (k - 100000, pre ++ post) :: newN pre post ks

theorem ble_no {a b : Nat} (h : b < a) : Nat.ble a b = false := by
  cases e : Nat.ble a b with
  | false => rfl
  | true => have := Nat.le_of_ble_eq_true e; omega
theorem blt_no {a b : Nat} (h : b ≤ a) : Nat.blt a b = false := by
  cases e : Nat.blt a b with
  | false => rfl
  | true => have := bL e; omega
theorem blt_yes {a b : Nat} (h : a < b) : Nat.blt a b = true := by simp [Nat.blt_eq, h]
theorem newN_tail {pre post : List Nat} {x : Nat} {ks : List Nat} {q : Nat × List Nat} (h : q ∈ newN pre post ks) : q ∈ newN pre post (x :: ks) := by
  unfold newN
  split
  · exact h
  · exact List.mem_cons_of_mem _ h
  · exact h
  · exact List.mem_cons_of_mem _ h
  · exact List.mem_cons_of_mem _ h
  · exact List.mem_cons_of_mem _ h
theorem newN_row {pre post : List Nat} : ∀ {ks : List Nat} {k : Nat}, k ∈ ks → k < 450000 → (k < 400000 ∨ hasN pre k = false) → (k, pre ++ post) ∈ newN pre post ks
  | x :: ks, k, h, hk, hp => by
    rcases List.mem_cons.1 h with rfl | h
    · unfold newN
      rw [ble_no (by omega : k < 500000)]
      by_cases h4 : k < 400000
      · rw [blt_yes h4]; simp
      · rw [blt_no (by omega : 400000 ≤ k), blt_yes hk]
        rcases hp with hp | hp
        · omega
        · rw [hp]; simp
    · exact newN_tail (newN_row h hk hp)
theorem newN_box {pre post : List Nat} : ∀ {ks : List Nat} {k : Nat}, k ∈ ks → 450000 ≤ k → k < 500000 → hasN pre k = false → (k - 100000, pre ++ post) ∈ newN pre post ks
  | x :: ks, k, h, hk, hk2, hp => by
    rcases List.mem_cons.1 h with rfl | h
    · unfold newN
      rw [ble_no (by omega : k < 500000), blt_no (by omega : 400000 ≤ k), blt_no hk, hp]
      simp
    · exact newN_tail (newN_box h hk hk2 hp)
theorem newN_lent {pre post : List Nat} : ∀ {ks : List Nat} {k : Nat}, k ∈ ks → 450000 ≤ k → k < 500000 → hasN pre k = true → (k - 100000 + 1000000, pre ++ post) ∈ newN pre post ks
  | x :: ks, k, h, hk, hk2, hp => by
    rcases List.mem_cons.1 h with rfl | h
    · unfold newN
      rw [ble_no (by omega : k < 500000), blt_no (by omega : 400000 ≤ k), blt_no hk, hp]
      simp
    · exact newN_tail (newN_lent h hk hk2 hp)

theorem mem_keys {s : AS} {k : Nat} {av : AV} (h : look s k = some av) : k ∈ kO s := List.mem_map.2 ⟨_, look_mem h, rfl⟩
theorem keys_look {s : AS} {k : Nat} (h : k ∈ kO s) : ∃ av, look s k = some av := by
  induction s with
  | nil => simp [kO] at h
  | cons p s ih =>
    obtain ⟨d, x⟩ := p
    by_cases e : d = k
    · exact ⟨x, by rw [look_cons, if_pos e]⟩
    · rw [lN e]
      refine ih ?_
      simp only [kO, List.map_cons, List.mem_cons] at h ⊢
      rcases h with h | h
      · exact absurd h.symm e
      · exact h
theorem look_append {e s : AS} {k : Nat} : look (e ++ s) k = (look e k).or (look s k) := by
  induction e with
  | nil => rfl
  | cons p e ih =>
    obtain ⟨d, x⟩ := p
    by_cases h : d = k
    · subst h; rw [List.cons_append, lS, lS]; rfl
    · rw [List.cons_append, lN h, lN h, ih]
theorem look_no {s : AS} {k : Nat} (h : hasN (kO s) k = false) : look s k = none := by
  cases e : look s k with
  | none => rfl
  | some av => rw [hasN_of (mem_keys e)] at h; cases h

theorem all_look {q : Nat × AV → Bool} {s : AS} (h : s.all q = true) {k : Nat} {av : AV} (h1 : look s k = some av) : q (k, av) = true := by
  rw [List.all_eq_true] at h
  exact h _ (look_mem h1)

section
variable {P : Program} {w0 : World} {U0 : UX} {nt : Nat} {ops : Array Oper} {o : Oper} {S : Nat → Option AV} {gs : List Nat} {d : Nat} {s : AS} {a : Act} {w : World} {D : Nat → Nat → Prop} {hv : Nat → Value}

theorem evsA_rep (h : SimG w0 U0 nt s a w D hv) : ∀ {xs : List Operand} {cs : List AV}, (∀ k ∈ rdl xs, look s k = S k) → evsA S xs = some cs → AVReps (Us w0 U0 D) w hv (LiveN s) cs (xs.map a.eval)
  | [], cs, _, he => by simp [evsA] at he; subst he; rfl
  | x :: xs, cs, hs, he => by
    unfold evsA at he
    split at he
    · rename_i c cs' h1 h2
      cases he
      exact ⟨a.eval x, xs.map a.eval, rfl, ev_rep h (fun k hk => hs k (List.mem_append_left _ hk)) h1, evsA_rep h (fun k hk => hs k (List.mem_append_right _ hk)) h2⟩
    · cases he

theorem SimG.lend (h : SimG w0 U0 nt s a w D hv) {pre : AS} (hp : Sub s pre) (hl : pre.all lendB = true) : ∃ V : UX, (∀ k v, V.f k = some v → hasN (kO pre) k = true) ∧ SimG w V 0 pre ⟨#[], []⟩ w (fun _ _ => False) hv ∧ (∀ b, V.x b ↔ ∃ k av, look pre k = some av ∧ oKey k ∧ hb (hv k) = some b) ∧ (∀ k, hasN (kO pre) k = true → 400000 ≤ k → k < 500000 → V.f k = some (hv k)) ∧ (∀ b o, V.m b o ↔ Us w0 U0 D b o) ∧ ∀ b o u, Us w0 U0 D b o → w.cell? ⟨b, o, none⟩ = some u → Us w V (fun _ _ => False) b o ∧ w.cell? ⟨b, o, none⟩ = some u := by
  classical
  have hlk : ∀ {k av}, look pre k = some av → oKey k → 300000 ≤ k ∧ av.t ≠ 6 ∧ av.t ≠ 7 ∧ True := fun {k av} h1 h2 => by
    have h3 := all_look hl h1
    unfold oKey at h2
    unfold lendB at h3
    have h4 : Nat.ble 500000 k = false := by
      cases e : Nat.ble 500000 k with
      | false => rfl
      | true => have := Nat.le_of_ble_eq_true e; omega
    simp only [h4, Bool.and_eq_true, Bool.or_eq_true, Bool.not_eq_true'] at h3
    obtain ⟨⟨⟨h5, h6⟩, h7⟩, h8⟩ := h3
    refine ⟨Nat.le_of_ble_eq_true h5, (fun e => by rw [e] at h6; cases h6), (fun e => by rw [e] at h7; cases h7), trivial⟩
  let isB : Nat → Prop := fun k => 400000 ≤ k ∧ k < 500000 ∧ hasN (kO pre) k = true
  let V : UX := ⟨Us w0 U0 D, fun b => ∃ k av, look pre k = some av ∧ oKey k ∧ hb (hv k) = some b, fun k => if isB k then some (hv k) else none, fun k v (h1 : (if isB k then some (hv k) else none) = some v) => by
    split at h1
    · rename_i h2; exact ⟨h2.1, h2.2.1⟩
    · cases h1⟩
  have hkeep : ∀ b o u, Us w0 U0 D b o → w.cell? ⟨b, o, none⟩ = some u → Us w V (fun _ _ => False) b o ∧ w.cell? ⟨b, o, none⟩ = some u := fun b o u hu hc => by
    refine ⟨.inl ⟨World.block_lt_of_cell? w _ hc, hu, ?_⟩, hc⟩
    rintro ⟨k, av, h1, h2, h3⟩
    obtain ⟨g1, g2, g3, _⟩ := hlk h1 h2
    obtain ⟨f1, f2, f3⟩ := h.blk k av b (hp _ _ h1) h2 g3 h3
    exact us_ne hu f1 (f3 o fun e => absurd e g2) rfl
  have hln : ∀ n, LiveN pre n → LiveN s n := fun n h1 => h1.imp id fun ⟨e, he⟩ => ⟨e, hp _ _ he.1, he.2⟩
  refine ⟨V, fun n g h1 => ?_, ⟨BelowX.refl _ _, rfl, rfl, fun d av h1 h2 => ?_, fun n o av h1 h2 h3 h4 => ?_, fun n o o' av av' h1 h2 => h.fdis n o o' av av' (hp _ _ h1) (hp _ _ h2), fun k av h1 h2 => ?_, fun k av g h1 h2 h3 h4 => ?_, fun k k' av av' g h1 h2 => h.disj k k' av av' g (hp _ _ h1) (hp _ _ h2), fun n g h1 => ?_, fun b o hd => hd.elim⟩, fun b => Iff.rfl, fun k h1 h2 h3 => ?_, fun b o => Iff.rfl, hkeep⟩
  · have h1 : (if isB n then some (hv n) else none) = some g := h1
    split at h1
    · rename_i h2; exact h2.2.2
    · cases h1
  · have h3 := all_look hl h1
    unfold lendB at h3
    have h4 : Nat.ble 500000 d = false := by
      cases e : Nat.ble 500000 d with
      | false => rfl
      | true => have := Nat.le_of_ble_eq_true e; omega
    simp only [h4, Bool.and_eq_true] at h3
    have := Nat.le_of_ble_eq_true h3.1.1.1
    omega
  · obtain ⟨v, h6, h7⟩ := h.fld n o av (hp _ _ h1) h2 (hp _ _ h3) h4
    exact ⟨v, h6.move hkeep (fun _ => hln _) fun _ => rfl, h7⟩
  · exact (h.obj k av (hp _ _ h1) h2).move hkeep (fun _ h3 => ⟨hln _ h3, rfl⟩) fun _ _ => rfl
  · obtain ⟨g1, g2, g3, _⟩ := hlk h1 h2
    obtain ⟨f1, f2, f3⟩ := h.blk k av g (hp _ _ h1) h2 h3 h4
    exact ⟨.inr ⟨by rw [lcl_row g1]; exact g2, k, av, h1, h2, h4⟩, f2, fun _ _ h => h⟩
  · have h1 : (if isB n then some (hv n) else none) = some g := h1
    split at h1
    · cases h1; rfl
    · cases h1
  · show (if isB k then some (hv k) else none) = some (hv k)
    rw [if_pos ⟨h2, h3, h1⟩]

theorem SimG.back (h : SimG w0 U0 nt s a w D hv) {pre post : AS} (hp : Sub s pre) (hl : pre.all lendB = true) (hq : post.all (leaveB (kO post)) = true) (hks : (kO pre).all (hasN (kO post)) = true) (hN : ∀ q ∈ newN (kO pre) (kO post) (kO post), NoRefE s q) (hnb : ∀ k v, U0.f k = some v → hasN (kO post) k = true → hasN (kO pre) k = true)
    {V : UX} (hVx : ∀ b, V.x b ↔ ∃ k av, look pre k = some av ∧ oKey k ∧ hb (hv k) = some b) (hVf : ∀ k, hasN (kO pre) k = true → 400000 ≤ k → k < 500000 → V.f k = some (hv k)) (hVm : ∀ b o, V.m b o ↔ Us w0 U0 D b o) (hpS : SimG w V 0 pre ⟨#[], []⟩ w (fun _ _ => False) hv)
    {w' : World} {D' : Nat → Nat → Prop} {hv' : Nat → Value} {a' : Act} (h' : SimG w V 0 post a' w' D' hv') :
    ∃ D'' hv'', SimG w0 U0 nt (post ++ s) a w' D'' hv'' ∧ (∀ r v, refB (kO post) r = true → AVRep (Us w V D') w' hv' (LiveN post) r v → AVRep (Us w0 U0 D'') w' hv'' (LiveN (post ++ s)) r v) ∧ ∀ b o, D b o → D'' b o := by
  classical
  have hlk : ∀ {k av}, look pre k = some av → oKey k → 300000 ≤ k ∧ av.t ≠ 6 ∧ av.t ≠ 7 ∧ True := fun {k av} h1 h2 => by
    have h3 := all_look hl h1
    unfold oKey at h2
    unfold lendB at h3
    have h4 : Nat.ble 500000 k = false := by
      cases e : Nat.ble 500000 k with
      | false => rfl
      | true => have := Nat.le_of_ble_eq_true e; omega
    simp only [h4, Bool.and_eq_true, Bool.or_eq_true, Bool.not_eq_true'] at h3
    obtain ⟨⟨⟨h5, h6⟩, h7⟩, h8⟩ := h3
    refine ⟨Nat.le_of_ble_eq_true h5, (fun e => by rw [e] at h6; cases h6), (fun e => by rw [e] at h7; cases h7), trivial⟩
  have hqk : ∀ {k av}, look post k = some av → 200000 ≤ k ∧ av.t ≠ 6 ∧ refB (kO post) av = true := fun {k av} h1 => by
    have h3 := all_look hq h1
    unfold leaveB at h3
    simp only [Bool.and_eq_true, Bool.not_eq_true'] at h3
    exact ⟨Nat.le_of_ble_eq_true h3.1.1.1, (fun e => by rw [e] at h3; exact absurd h3.1.1.2 (by decide)), h3.1.2⟩
  have hqf : ∀ {n o av}, look post (fKey n o) = some av → o < 100 → 350000 ≤ n ∧ n < 400000 ∧ hasN (kO post) (100000 + n) = true := fun {n o av} h1 h2 => by
    have h3 := all_look hq h1
    unfold leaveB at h3
    have h4 : Nat.ble 500000 (fKey n o) = true := Nat.ble_eq_true_of_le (by unfold fKey; omega)
    simp only [h4, fnm_key h2, Bool.and_eq_true] at h3
    exact ⟨Nat.le_of_ble_eq_true h3.2.1.1, bL h3.2.1.2, h3.2.2⟩
  have hsub : ∀ {k}, hasN (kO pre) k = true → hasN (kO post) k = true := fun {k} h1 => by
    rw [List.all_eq_true] at hks
    exact hks k (hasN_mem h1)
  obtain ⟨D2, hD2⟩ : ∃ D2 : Nat → Nat → Prop, D2 = fun b o => D b o ∨ (w.heap.size ≤ b ∧ D' b o) := ⟨_, rfl⟩
  obtain ⟨hv2, hhv⟩ : ∃ hv2 : Nat → Value, hv2 = fun k => if hasN (kO post) k = true then hv' k else hv k := ⟨_, rfl⟩
  have hvy : ∀ {k}, hasN (kO post) k = true → hv2 k = hv' k := fun {k} h1 => by rw [hhv]; simp only [h1, if_true]
  have hvn : ∀ {k}, hasN (kO post) k = false → hv2 k = hv k := fun {k} h1 => by rw [hhv]; simp [h1]
  obtain ⟨s2, hs2⟩ : ∃ s2, s2 = post ++ s := ⟨_, rfl⟩
  have hly : ∀ {k av}, look post k = some av → look s2 k = some av := fun {k av} h1 => by rw [hs2, look_append, h1]; rfl
  have hlc : ∀ {k av}, look s2 k = some av → look post k = some av ∨ (hasN (kO post) k = false ∧ look s k = some av) := fun {k av} h1 => by
    cases e : hasN (kO post) k with
    | true =>
      obtain ⟨av', h2⟩ := keys_look (hasN_mem e)
      rw [hly h2] at h1
      cases h1
      exact .inl h2
    | false =>
      rw [hs2, look_append, look_no e] at h1
      exact .inr ⟨rfl, h1⟩
  have hlive : ∀ n e, Live s2 n e → hasN (kO post) n = false ∧ Live s n e := fun n e ⟨h1, h2⟩ => by
    rcases hlc h1 with h3 | ⟨h3, h4⟩
    · exact absurd rfl (hqk h3).2.1
    · exact ⟨h3, h4, h2⟩
  have hln : ∀ n, LiveN s2 n → LiveN s n := fun n h1 => h1.imp id fun ⟨e, he⟩ => ⟨e, (hlive n e he).2⟩
  have hbw := h'.below
  -- blocks that were not lent
  have hold : ∀ b, b < w.heap.size → ¬ V.x b → w'.heap[b]? = w.heap[b]? := hbw.block
  have hk1 : ∀ b o u, Us w0 U0 D b o → w.cell? ⟨b, o, none⟩ = some u → Us w0 U0 D2 b o ∧ w'.cell? ⟨b, o, none⟩ = some u := fun b o u hu hc => by
    refine ⟨hu.imp id fun h1 => ⟨h1.1, by rw [hD2]; exact .inl h1.2⟩, ?_⟩
    have hnx : ¬ V.x b := fun hx => by
      obtain ⟨k, av, h1, h2, h3⟩ := (hVx b).1 hx
      obtain ⟨g1, g2, g3, _⟩ := hlk h1 h2
      obtain ⟨f1, f2, f3⟩ := h.blk k av b (hp _ _ h1) h2 g3 h3
      exact us_ne hu f1 (f3 o fun e => absurd e g2) rfl
    rw [World.cell?_of_block (w := w) (hold b (World.block_lt_of_cell? w _ hc) hnx)]
    exact hc
  have hk2 : ∀ b o u, Us w V D' b o → w'.cell? ⟨b, o, none⟩ = some u → Us w0 U0 D2 b o ∧ w'.cell? ⟨b, o, none⟩ = some u := fun b o u hu hc => by
    refine ⟨?_, hc⟩
    rcases hu with ⟨h1, h2, h3⟩ | ⟨h1, h2⟩
    · exact ((hVm b o).1 h2).imp id fun h4 => ⟨h4.1, by rw [hD2]; exact .inl h4.2⟩
    · exact .inr ⟨Nat.le_trans h.below.size h1, by rw [hD2]; exact .inr ⟨h1, h2⟩⟩
  -- what was lent is where it was
  have hbx : ∀ k, 400000 ≤ k → k < 500000 → hasN (kO pre) k = true → hv' k = hv k := fun k h2 h3 h1 => h'.fix k _ (hVf k h1 h2 h3)
  have hrow : ∀ {k av n}, look s k = some av → hasN (kO post) k = false → RN n → hasN (kO post) n = true → (n < 400000 ∨ hasN (kO pre) n = false) → av.n ≠ n := fun {k av n} h1 h2 h3 h4 h6 => by
    have h5 := hN _ (newN_row (pre := kO pre) (post := kO post) (hasN_mem h4) h3.2 h6)
    refine (h5 k av h1 ?_).1
    cases e : hasN (kO pre ++ kO post) k with
    | false => rfl
    | true =>
      rcases List.mem_append.1 (hasN_mem e) with e | e
      · rw [hsub (hasN_of e)] at h2; cases h2
      · rw [hasN_of e] at h2; cases h2
  have hbox : ∀ {k av n}, look s k = some av → hasN (kO post) k = false → BN n → 350000 ≤ n → hasN (kO post) (100000 + n) = true → hasN (kO pre) (100000 + n) = false → av.n ≠ n ∧ fnm k ≠ n ∧ fnm k + 1000000 ≠ n := fun {k av n} h1 h2 h3 h6 h4 h5 => by
    unfold BN at h3
    have h7 := hN _ (newN_box (pre := kO pre) (post := kO post) (hasN_mem h4) (by omega) (by omega) h5)
    rw [show 100000 + n - 100000 = n by omega] at h7
    refine h7 k av h1 ?_
    cases e : hasN (kO pre ++ kO post) k with
    | false => rfl
    | true =>
      rcases List.mem_append.1 (hasN_mem e) with e | e
      · rw [hsub (hasN_of e)] at h2; cases h2
      · rw [hasN_of e] at h2; cases h2
  have hfno : ∀ {n o av}, look s (fKey n o) = some av → hasN (kO post) (fKey n o) = false → o < 100 → 350000 ≤ n → n < 400000 → hasN (kO post) (100000 + n) = true → False := fun {n o av} h1 h2 h3 h4 h5 h6 => by
    cases e : hasN (kO pre) (100000 + n) with
    | false =>
      have := (hbox h1 h2 (.inr ⟨h4, h5⟩) h4 h6 e).2.1
      rw [fnm_key h3] at this
      exact this rfl
    | true =>
      have h7 := hN _ (newN_lent (pre := kO pre) (post := kO post) (hasN_mem h6) (by omega) (by omega) e)
      have h8 := (h7 (fKey n o) av h1 (by
        cases e : hasN (kO pre ++ kO post) (fKey n o) with
        | false => rfl
        | true =>
          rcases List.mem_append.1 (hasN_mem e) with e | e
          · rw [hsub (hasN_of e)] at h2; cases h2
          · rw [hasN_of e] at h2; cases h2)).2.2
      rw [fnm_key h3] at h8
      apply h8
      show n + 1000000 = 100000 + n - 100000 + 1000000
      omega
  -- what the caller knew
  have hm1 : ∀ {k av v}, look s k = some av → hasN (kO post) k = false → AVRep (Us w0 U0 D) w hv (LiveN s) av v → AVRep (Us w0 U0 D2) w' hv2 (LiveN s2) av v := fun {k av v} h1 h2 h3 =>
    h3.move hk1 (fun _ => hln _) fun hR => by
      cases e : hasN (kO post) (hk av) with
      | false => exact hvn e
      | true =>
        rcases hR with ⟨r1, r2, r3⟩ | ⟨r1, r2⟩ | ⟨r1, r2⟩
        · rw [hk_eq.2 (by omega)] at e
          rcases r2 with r4 | ⟨_, r4⟩
          · exact absurd r4 r3
          · exact absurd rfl (hrow h1 h2 ⟨r4.2.1, Nat.lt_trans r4.2.2 (by omega)⟩ e (.inl r4.2.2))
        · rw [hk_eq.1 r1] at e ⊢
          rw [hvy e]
          cases e2 : hasN (kO pre) (100000 + av.n) with
          | true =>
            obtain ⟨av', h7⟩ := keys_look (hasN_mem e)
            have := (hqk h7).1
            unfold BN at r2
            exact hbx _ (by omega) (by omega) e2
          | false =>
            have h6 : 350000 ≤ av.n := by
              obtain ⟨av', h7⟩ := keys_look (hasN_mem e)
              have := (hqk h7).1
              unfold BN at r2
              omega
            exact absurd rfl (hbox h1 h2 r2 h6 e e2).1
        · rw [hk_eq.2 (by omega)] at e ⊢
          cases e2 : hasN (kO pre) av.n with
          | false => exact absurd rfl (hrow h1 h2 r2 e (.inr e2))
          | true =>
            by_cases h4 : av.n < 400000
            · exact absurd rfl (hrow h1 h2 r2 e (.inl h4))
            · have := r2.2
              rw [hvy e]
              exact hbx _ (by omega) (by omega) e2
  -- what the call left
  have hm2 : ∀ {av v}, refB (kO post) av = true → AVRep (Us w V D') w' hv' (LiveN post) av v → AVRep (Us w0 U0 D2) w' hv2 (LiveN s2) av v := fun {av v} h1 h2 => by
    unfold refB at h1
    refine h2.move hk2 (fun h3 h4 => ?_) fun hR => ?_
    · rw [h3] at h1
      have h1 : Nat.ble av.n 1 = true := h1
      have := Nat.le_of_ble_eq_true h1
      rcases liveN_rn h4 with h5 | h5
      · exact .inl h5
      · unfold RN at h5; omega
    · rcases hR with ⟨r1, r2, r3⟩ | ⟨r1, r2⟩ | ⟨r1, r2⟩
      · rw [r1] at h1
        have h1 : Nat.ble av.n 1 = true := h1
        have := Nat.le_of_ble_eq_true h1
        rcases liveN_rn r2 with h5 | h5
        · exact absurd h5 r3
        · unfold RN at h5; omega
      · rw [r1] at h1
        have h1 : hasN (kO post) (hk av) = true := h1
        exact hvy h1
      · rcases r1 with r1 | r1 | r1 | r1 <;> (rw [r1] at h1; have h1 : hasN (kO post) (hk av) = true := h1; exact hvy h1)
  refine ⟨D2, hv2, ?_, fun r v h1 h2 => by rw [← hs2]; exact hm2 h1 h2, fun b o hd => by rw [hD2]; exact .inl hd⟩
  rw [← hs2]
  -- the block of what was not lent
  have hnotx : ∀ {k av g}, look s k = some av → hasN (kO post) k = false → oKey k → av.t ≠ 7 → hb (hv k) = some g → ¬ V.x g := fun {k av g} h1 h2 h3 h4 h5 hx => by
    obtain ⟨k', av', f1, f2, f3⟩ := (hVx g).1 hx
    refine h.disj k k' av av' g h1 (hp _ _ f1) h3 f2 h4 (hlk f1 f2).2.2.1 (fun e => ?_) h5 f3
    rw [e, hsub (hasN_of (mem_keys f1))] at h2
    cases h2
  have hlent : ∀ {g}, V.x g → ∃ k av, look s k = some av ∧ oKey k ∧ av.t ≠ 7 ∧ av.t ≠ 6 ∧ hasN (kO post) k = true ∧ hb (hv k) = some g := fun {g} hx => by
    obtain ⟨k', av', f1, f2, f3⟩ := (hVx g).1 hx
    obtain ⟨g1, g2, g3, _⟩ := hlk f1 f2
    exact ⟨k', av', hp _ _ f1, f2, g3, g2, hsub (hasN_of (mem_keys f1)), f3⟩
  refine ⟨⟨hbw.os.trans h.below.os, hbw.tape.trans h.below.tape, hbw.output.trans h.below.output, Nat.le_trans h.below.size hbw.size, fun b hb hx => ?_⟩, h.dfr, h.size, fun d av h1 h2 => ?_, fun n o av h1 h2 h3 h4 => ?_, fun n o o' av av' h1 h2 h3 h4 h5 => ?_, fun k av h1 h2 => ?_, fun k av g h1 h2 h3 h4 => ?_, fun k k' av av' g h1 h2 h3 h4 h5 h6 hne => ?_, fun n g h1 => ?_, fun b o hd => ?_⟩
  · rw [hold b (Nat.lt_of_lt_of_le hb h.below.size) fun hv => ?_]
    · exact h.below.block b hb hx
    · obtain ⟨k, av, f1, f2, f3, f4, f5, f6⟩ := hlent hv
      rcases (h.blk k av b f1 f2 f3 f6).1 with f7 | f7
      · omega
      · exact hx f7.2
  · rcases hlc h1 with h3 | ⟨h3, h4⟩
    · have := (hqk h3).1; omega
    · obtain ⟨v, f1, f2⟩ := h.slot d av h4 h2
      exact ⟨v, f1, hm1 h4 h3 f2⟩
  · have hob := hlc h3
    rcases hlc h1 with h5 | ⟨h5, h6⟩
    · rcases hob with h7 | ⟨h7, h8⟩
      · obtain ⟨v, f1, f2, f3⟩ := h'.fld n o av h5 h2 h7 h4
        refine ⟨v, hm2 (hqk h5).2.2 f1, f2, ?_⟩
        rw [hvy (hasN_of (mem_keys h7))]
        exact f3
      · rw [(hqf h5 h2).2.2] at h7; cases h7
    · rcases hob with h7 | ⟨h7, h8⟩
      · have h8 := (hqk h7).1
        have h4' := h4
        unfold BN at h4'
        exact (hfno h6 h5 h2 (by omega) (by omega) (hasN_of (mem_keys h7))).elim
      · obtain ⟨v, f1, f2, f3⟩ := h.fld n o av h6 h2 h8 h4
        refine ⟨v, hm1 h6 h5 f1, f2, fun i hi => ?_⟩
        rw [hvn h7]
        have f4 := f3 i hi
        obtain ⟨g2, ys, ty2, e1, e2, e3⟩ := h.obj9 h8 h4
        rw [e2] at f4 ⊢
        rw [World.cell?_of_block (w := w) (hold g2 (Array.getElem?_eq_some_iff.1 e3).1 (hnotx h8 h7 (bn_okey h4) (by simp) (by rw [e1]; rfl)))]
        exact f4
  · rcases hlc h1 with f1 | ⟨f1, f2⟩
    · rcases hlc h2 with f3 | ⟨f3, f4⟩
      · exact h'.fdis n o o' av av' f1 f3 h3 h4 h5
      · obtain ⟨g1, g2, g3⟩ := hqf f1 h3
        exact (hfno f4 f3 h4 g1 g2 g3).elim
    · rcases hlc h2 with f3 | ⟨f3, f4⟩
      · obtain ⟨g1, g2, g3⟩ := hqf f3 h4
        exact (hfno f2 f1 h3 g1 g2 g3).elim
      · exact h.fdis n o o' av av' f2 f4 h3 h4 h5
  · rcases hlc h1 with h3 | ⟨h3, h4⟩
    · rw [hvy (hasN_of (mem_keys h3))]
      refine (h'.obj k av h3 h2).move hk2 (fun h5 h6 => ?_) fun _ _ => rfl
      have h7 := (hqk h3).2.2
      unfold refB at h7
      rw [h5] at h7
      have h7 : Nat.ble av.n 1 = true := h7
      have := Nat.le_of_ble_eq_true h7
      rcases liveN_rn h6 with h8 | h8
      · exact ⟨.inl h8, by rw [h8]; rfl⟩
      · unfold RN at h8; omega
    · rw [hvn h3]
      by_cases h7 : av.t = 7
      · exact oc_no h7
      · refine (h.obj k av h4 h2).move hk1 (fun h5 h6 => ⟨hln _ h6, ?_⟩) fun g hg => hold g (h.blk k av g h4 h2 h7 hg).2.1 (hnotx h4 h3 h2 h7 hg)
        unfold tokv
        by_cases h8 : av.n = 1
        · rw [if_pos h8, if_pos h8]
        · rw [if_neg h8, if_neg h8]
          rcases h6 with h6 | ⟨e, he⟩
          · exact absurd h6 h8
          · rw [hvn (hlive _ _ he).1]
  · rcases hlc h1 with h5 | ⟨h5, h6⟩
    · rw [hvy (hasN_of (mem_keys h5))] at h4 ⊢
      obtain ⟨f1, f2, f3⟩ := h'.blk k av g h5 h2 h3 h4
      have ht6 := (hqk h5).2.1
      refine ⟨?_, f2, fun o _ hd => ?_⟩
      · rcases f1 with f1 | ⟨f1, f4⟩
        · exact .inl (Nat.le_trans h.below.size f1)
        · obtain ⟨k1, av1, e1, e2, e3, e4, e5, e6⟩ := hlent f4
          rcases (h.blk k1 av1 g e1 e2 e3 e6).1 with e7 | e7
          · exact .inl e7
          · exact .inr ⟨f1, e7.2⟩
      · rw [hD2] at hd
        rcases hd with hd | hd
        · rcases f1 with f1 | ⟨f1, f4⟩
          · have := h.dlt _ _ hd; omega
          · obtain ⟨k1, av1, e1, e2, e3, e4, e5, e6⟩ := hlent f4
            exact (h.blk k1 av1 g e1 e2 e3 e6).2.2 o (fun e => absurd e e4) hd
        · exact f3 o (fun e => absurd e ht6) hd.2
    · rw [hvn h5] at h4 ⊢
      obtain ⟨f1, f2, f3⟩ := h.blk k av g h6 h2 h3 h4
      refine ⟨f1, Nat.lt_of_lt_of_le f2 hbw.size, fun o ho hd => ?_⟩
      rw [hD2] at hd
      rcases hd with hd | hd
      · exact f3 o ho hd
      · omega
  · have hmix : ∀ {k k' av av'}, look post k = some av → oKey k → av.t ≠ 7 → look s k' = some av' → hasN (kO post) k' = false → oKey k' → av'.t ≠ 7 → hb (hv' k) = some g → hb (hv k') ≠ some g := fun {k k' av av'} e1 e2 e3 e4 e5 e6 e7 e8 e9 => by
      rcases (h'.blk k av g e1 e2 e3 e8).1 with f1 | f1
      · have := (h.blk k' av' g e4 e6 e7 e9).2.1; omega
      · exact hnotx e4 e5 e6 e7 e9 f1.2
    rcases hlc h1 with e1 | ⟨e1, e2⟩
    · rw [hvy (hasN_of (mem_keys e1))]
      rcases hlc h2 with e3 | ⟨e3, e4⟩
      · rw [hvy (hasN_of (mem_keys e3))]
        exact h'.disj k k' av av' g e1 e3 h3 h4 h5 h6 hne
      · rw [hvn e3]
        exact hmix e1 h3 h5 e4 e3 h4 h6
    · rw [hvn e1]
      rcases hlc h2 with e3 | ⟨e3, e4⟩
      · rw [hvy (hasN_of (mem_keys e3))]
        exact fun f1 f2 => hmix e3 h4 h6 e2 e1 h3 h5 f2 f1
      · rw [hvn e3]
        exact h.disj k k' av av' g e2 e4 h3 h4 h5 h6 hne
  · cases e : hasN (kO post) n with
    | false => rw [hvn e]; exact h.fix n g h1
    | true =>
      rw [hvy e]
      have h2 := U0.hf n g h1
      rw [hbx n h2.1 h2.2 (hnb n g h1 e)]
      exact h.fix n g h1
  · rw [hD2] at hd
    rcases hd with hd | hd
    · exact Nat.lt_of_lt_of_le (h.dlt b o hd) hbw.size
    · exact h'.dlt b o hd.2

def nbB (pre post : List Nat) : Bool := post.all fun k => match Nat.ble 400000 k && Nat.blt k 500000 with | true => hasN pre k | false => true
theorem hnb_of {pre post : List Nat} (h : nbB pre post = true) : ∀ k v, U0.f k = some v → hasN post k = true → hasN pre k = true := fun k v h1 h2 => by
  have h3 := U0.hf k v h1
  unfold nbB at h
  rw [List.all_eq_true] at h
  have h4 := h _ (hasN_mem h2)
  rw [Nat.ble_eq_true_of_le h3.1, blt_yes h3.2] at h4
  exact h4
theorem a_callO {f : FuncId} {xs : Array Operand} {ts : Array TypeId} {avs : List AV} {r : AV} {pre post : AS} (hg : Gd w0 U0 nt ops o gs S) (hd : o.dst = some d) (hn : Nat.blt d nt = true) (h5 : Nat.blt d 100000 = true)
    (ho : o.op = .call { callee := .value (.func f), args := xs, argTypes := ts }) (hx : evsA S xs.toList = some avs) (hc : AFunO P f pre avs r post) (hp : SubS S pre) (hl : pre.all lendB = true) (hq : post.all (leaveB (kO post)) = true) (hks : (kO pre).all (hasN (kO post)) = true) (hr : refB (kO post) r = true) (hnb : ∀ k v, U0.f k = some v → hasN (kO post) k = true → hasN (kO pre) k = true) :
    AOp P w0 U0 nt ops o (gs ++ (rdl xs.toList ++ kO pre)) (newN (kO pre) (kO post) (kO post)) S ((d, r) :: post) := by
  intro s hs hN a w ⟨D, hv, h⟩ Q K hK
  rw [if_pos (hg s (fun k hk => hs k (List.mem_append_left _ hk)) a w D hv h)]
  have hargs := evsA_rep h (fun k hk => hs k (List.mem_append_right _ (List.mem_append_left _ hk))) hx
  have hsub : Sub s pre := fun k av h1 => (hs k (List.mem_append_right _ (List.mem_append_right _ (mem_keys h1)))).trans (hp.look h1)
  obtain ⟨V, v1, v2, v3, v4, v5, v6⟩ := h.lend hsub hl
  obtain ⟨h1, h2⟩ := hc
  have hcall := h2 V w hv ⟨#[], []⟩ _ v1 v2 (hargs.imp fun c _ v hcv => hcv.move v6 (fun _ h3 => h3.imp id fun ⟨e, he⟩ => ⟨e, hsub _ _ he.1, he.2⟩) fun _ => rfl)
  have he : (execOp a.eval o).run P w = .ok (.enter f (xs.toList.map a.eval).toArray) w := by
    have hf : a.eval (.func f) = .func (.func f) #[] #[] := rfl
    have hen := h1 (xs.map a.eval) w
    have harr : (xs.toList.map a.eval).toArray = xs.map a.eval := by apply Array.ext'; simp
    rw [harr]
    generalize a.eval = ρ at hf hen ⊢
    simp [execOp, ho, resolve, invoke, Deferred.ofValue, hf, hen]
  unfold Oper.wp
  rw [he, Oper.upon_enter]
  refine hcall.mono ?_
  rintro e w' ⟨v, D', hv', a', rfl, h6, h7⟩
  rw [hd]
  obtain ⟨D2, hv2, h8, h9⟩ := h.back hsub hl hq hks hN hnb v3 v4 v5 v2 h6
  exact hK _ _ ⟨D2, hv2, h8.put (bL hn) (bL h5) (h9.1 r v hr h7)⟩

def argA : List AV → Nat → AS
  | [], _ => []
  | c :: cs, i => (i, c) :: argA cs (i + 1)
theorem look_argA : ∀ {cs : List AV} {i k : Nat} {av : AV}, look (argA cs i) k = some av → i ≤ k ∧ cs[k - i]? = some av
  | [], _, _, _, h => by simp [argA, look] at h
  | c :: cs, i, k, av, h => by
    rw [argA, look_cons] at h
    split at h
    · rename_i e; subst e; cases h; exact ⟨Nat.le_refl _, by simp⟩
    · rename_i e
      obtain ⟨h1, h2⟩ := look_argA h
      refine ⟨by omega, ?_⟩
      rw [show k - i = (k - (i + 1)) + 1 by omega]
      simpa using h2
noncomputable def resA (P : Program) (s : AS) (rs : List ResultVar) : Option AV := match rs with
  | [.tmp t] => match Nat.blt t 100000, look s t with
    | true, some ⟨0, c, _, _, _⟩ => some (.val c)
    | true, some av => some av
    | _, _ => none
  | rs => match resO P s rs with | some cs => some (resAV cs) | none => none
theorem resA_run (h : SimG w0 U0 nt s a w D hv) {fn : Func} {r : AV} (hr : resA P s fn.results.toList = some r) : ∃ v, (results fn a.tmps).run P w = .ok v w ∧ AVRep (Us w0 U0 D) w hv (LiveN s) r v := by
  unfold resA at hr
  split at hr
  · rename_i t ht
    have hrs : fn.results = #[.tmp t] := by apply Array.ext'; simpa using ht
    have hres : ∀ v, a.tmps[t]? = some v → (results fn a.tmps).run P w = .ok v w := fun v hv => by
      rw [results_eq, hrs]
      simp [resF, Array.getD_eq_getD_getElem?, hv]
    split at hr
    · rename_i c n q p h1 h2
      cases hr
      obtain ⟨v, h3, h4⟩ := h.slot t _ h2 (bL h1)
      exact ⟨v, hres v h3, avrep_val h4.1⟩
    · rename_i av h1 h2
      cases hr
      obtain ⟨v, h3, h4⟩ := h.slot t _ h2 (bL h1)
      exact ⟨v, hres v h3, h4⟩
    · cases hr
  · split at hr
    · rename_i cs h1
      cases hr
      obtain ⟨v, h2, h3⟩ := res_run h h1
      refine ⟨v, h2, avrep_rr ?_ ?_ h3⟩
      · unfold resAV; split
        · exact .inl rfl
        · exact .inr rfl
      · unfold resAV; split <;> rfl
    · cases hr
def EndO (P : Program) (w0 : World) (U0 : UX) (nt : Nat) (fn : Func) (s : AS) (r : AV) (post : AS) : Prop := ∃ s', Wk w0 U0 nt s s' ∧ resA P s' fn.results.toList = some r ∧ SubL s' post

theorem afunO_of {f : FuncId} {fn : Func} {c : Code} {pre post : AS} {args : List AV} {r : AV} (hf : P.funcs[f]? = some fn) (hn : fn.ntmps = nt) (hname : (fn.name == "runtime.NumGoroutine") = false) (hb : fn.body = some c) (hl : Nat.ble args.length nt = true) (hnt : Nat.blt nt 100000 = true) (hpre : (kO pre).all (Nat.ble 100000) = true) (hpost : (kO post).all (Nat.ble 100000) = true)
    (h : ∀ (w : World) (U : UX), (∀ k v, U.f k = some v → hasN (kO pre) k = true) → AWp P w U nt c (fun e s' => (e = .normal ∨ e = .ret) ∧ EndO P w U nt fn s' r post) (argA args 0 ++ pre)) : AFunO P f pre args r post := by
  refine ⟨ent_of hf hname (by rw [hb]; rfl), fun U w hv a0 vs hU hpS hargs => ?_⟩
  have hlen := hargs.len
  refine calls_of_wp hf hb ?_
  have hle := Nat.le_of_ble_eq_true hl
  have hnt := bL hnt
  have hlow : ∀ {k av}, look pre k = some av → 100000 ≤ k := fun {k av} h1 => by
    rw [List.all_eq_true] at hpre
    exact Nat.le_of_ble_eq_true (hpre k (mem_keys h1))
  have hlk : ∀ {k}, 100000 ≤ k → look (argA args 0 ++ pre) k = look pre k := fun {k} h1 => by
    rw [look_append]
    cases h2 : look (argA args 0) k with
    | none => rfl
    | some av =>
      obtain ⟨_, h3⟩ := look_argA h2
      rw [Nat.sub_zero, List.getElem?_eq_none (by omega)] at h3
      cases h3
  have hlive : LiveN (argA args 0 ++ pre) = LiveN pre := by
    funext n
    unfold LiveN Live
    apply propext
    constructor
    · rintro (h1 | ⟨e, h1, h2, h3⟩)
      · exact .inl h1
      · rw [hlk (by omega)] at h1; exact .inr ⟨e, h1, h2, h3⟩
    · rintro (h1 | ⟨e, h1, h2, h3⟩)
      · exact .inl h1
      · exact .inr ⟨e, by rw [hlk (by omega)]; exact h1, h2, h3⟩
  have hs : Sim w U nt (argA args 0 ++ pre) { tmps := vs.toArray ++ Array.replicate (fn.ntmps - vs.toArray.size) undef, defers := [] } w := by
    refine ⟨fun _ _ => False, hv, hpS.below, rfl, by simp [hn]; omega, fun d av h1 h2 => ?_, fun n o av h1 h2 h3 h4 => ?_, fun n o o' av av' h1 h2 => ?_, fun k av h1 h2 => ?_, fun k av g h1 h2 => ?_, fun k k' av av' g h1 h2 h3 h4 => ?_, hpS.fix, fun b o hd => hd.elim⟩
    · rw [look_append] at h1
      cases h3 : look (argA args 0) d with
      | none =>
        rw [h3] at h1
        have := hlow h1
        omega
      | some av' =>
        rw [h3] at h1
        cases h1
        obtain ⟨_, h4⟩ := look_argA h3
        rw [Nat.sub_zero] at h4
        obtain ⟨v, h6, h7⟩ := hargs.at h4
        have hdl : d < vs.length := by
          rcases Nat.lt_or_ge d vs.length with h | h
          · exact h
          · rw [List.getElem?_eq_none h] at h6; cases h6
        rw [hlive]
        refine ⟨v, ?_, h7⟩
        rw [Array.getElem?_append_left (by simpa using hdl)]
        simpa using h6
    · rw [hlk (by unfold fKey; omega)] at h1
      rw [hlk (by omega)] at h3
      rw [hlive]
      exact hpS.fld n o av h1 h2 h3 h4
    · rw [hlk (by unfold fKey; omega)] at h1 h2
      exact hpS.fdis n o o' av av' h1 h2
    · rw [hlk h2.1] at h1; rw [hlive]; exact hpS.obj k av h1 h2
    · rw [hlk h2.1] at h1; exact hpS.blk k av g h1 h2
    · rw [hlk h3.1] at h1; rw [hlk h4.1] at h2; exact hpS.disj k k' av av' g h1 h2 h3 h4
  refine wp_mono ((h w U hU ⟨none, []⟩ _ w hs).wp rfl (fun e a w ⟨s, _, h⟩ => h.df)) ?_
  rintro e a' w' ⟨s', ⟨h1, s2, g1, g2, g3⟩, h3⟩
  obtain ⟨D', hv', h4⟩ := g1 a' w' h3
  obtain ⟨v, h5, h6⟩ := resA_run h4 g2
  have hS := h4.sub g3.sub
  have hlow2 : ∀ {k av}, look post k = some av → 100000 ≤ k := fun {k av} h1 => by
    rw [List.all_eq_true] at hpost
    exact Nat.le_of_ble_eq_true (hpost k (mem_keys h1))
  have hS0 : SimG w U 0 post ⟨#[], []⟩ w' D' hv' := ⟨hS.below, rfl, rfl, fun d av h7 h8 => by have := hlow2 h7; omega, hS.fld, hS.fdis, hS.obj, hS.blk, hS.disj, hS.fix, hS.dlt⟩
  rcases h1 with rfl | rfl
  · exact ⟨h4.dfr, v, h5, v, D', hv', _, rfl, hS0, h6.move (fun _ _ _ h1 h2 => ⟨h1, h2⟩) (fun _ h7 => h7.imp id fun ⟨e, he⟩ => ⟨e, g3.sub _ _ he.1, he.2⟩) fun _ => rfl⟩
  · exact ⟨h4.dfr, v, h5, v, D', hv', _, rfl, hS0, h6.move (fun _ _ _ h1 h2 => ⟨h1, h2⟩) (fun _ h7 => h7.imp id fun ⟨e, he⟩ => ⟨e, g3.sub _ _ he.1, he.2⟩) fun _ => rfl⟩
end
def zeroT (P : Program) (e : TypeId) : Option CV := match P.info? e with
  | some it => match it.zero with
    | some (.agg cs) => match P.underlying e with
      | some (.struct fs) => match szO P fs.toList 0 with
        | some sz => match zsO sz cs.toList with | some zs => some (.row zs) | none => none
        | none => none
      | _ => none
    | some v => match plainV v with | true => some (cellCV v) | false => none
    | none => none
  | none => none
theorem zeroT_spec {P : Program} {e : TypeId} {c : CV} (h : zeroT P e = some c) : ∃ it z, P.info? e = some it ∧ it.zero = some z ∧ ∀ U w, Rep U w c z.cells.toList := by
  unfold zeroT at h
  split at h
  · rename_i it hi
    split at h
    · rename_i cs hz
      refine ⟨it, _, hi, hz, fun U w => ?_⟩
      split at h
      · split at h
        · split at h
          · rename_i zs h0
            cases h
            obtain ⟨segs, e1, e2, e3, e4, e5⟩ := zsO_spec (U := U) (w := w) h0
            rw [rep_row]
            show Sq _ cs.toList
            rw [← e1]
            exact sq_of_segs e4 (fun i c hi => by obtain ⟨seg, f1, f2, _⟩ := e5 i c hi; exact ⟨seg, f1, f2⟩)
          · cases h
        · cases h
      · cases h
    · rename_i v hz hv
      refine ⟨it, _, hi, hv, fun U w => ?_⟩
      split at h
      · rename_i hp
        cases h
        have := rep_plain U w v hp
        have hc : v.cells = #[v] := by
          cases v with
          | agg cs => exact absurd rfl (hz cs)
          | _ => rfl
        rw [hc]
        exact this
      · cases h
    · cases h
  · cases h

section
variable {P : Program} {w0 : World} {U0 : UX} {nt : Nat} {ops : Array Oper} {o : Oper} {S : Nat → Option AV} {gs : List Nat} {d : Nat} {s : AS} {a : Act} {w : World} {D : Nat → Nat → Prop} {hv : Nat → Value}

theorem sq_repl {U : Nat → Nat → Prop} {c : CV} {xs : List Value} (h : Rep U w c xs) : ∀ k, Sq ((List.replicate k c).map fun c => Rep U w c) (List.replicate k xs).flatten
  | 0 => rfl
  | k + 1 => ⟨_, _, rfl, h, sq_repl h k⟩
theorem slV_all {v : Value} {k cap : Nat} {ao : Option Addr} {z : Nat} (h : v = .slice ao k cap) (hk : k ≤ cap) (hg : ao = none ∨ ∃ g, ao = some ⟨g, 0, none⟩) : SlV v 0 k z v := by
  refine ⟨ao, k, cap, ao, h, by rw [h]; rfl, by omega, fun _ => rfl, fun _ g e => by rw [Nat.zero_mul]; exact e, Iff.rfl⟩
theorem own_addr {e z : Nat} {v : Value} {k : Nat} {xs : List Value} (h : w.ownsRow 0 e z v k xs) : ∃ ao cap, v = .slice ao k cap ∧ k ≤ cap ∧ (ao = none ∨ ∃ g, ao = some ⟨g, 0, none⟩) := by
  rcases h.2 with ⟨rfl, rfl⟩ | ⟨g, cap, cur, rfl, _, h3, h4, h5, h6, h7⟩
  · exact ⟨none, 0, rfl, Nat.le_refl _, .inl rfl⟩
  · exact ⟨_, cap, rfl, h4, .inr ⟨g, rfl⟩⟩

theorem appLawM {Q : Exit → Act → World → Prop} {K : Act → World → Prop} (h : SimG w0 U0 nt s a w D hv) {n e size bytes : Nat} {z : Value} {t : TypeId} (hd : o.dst = some d) (hdn : d < nt) (h5 : d < 100000) (hn : RW n) (hr : NoRef s n) {x y : Operand} (ho : o.op = .call { callee := .builtin .append, args := #[x, y], argTypes := #[t, t] })
    (ht : P.underlying t = some (.slice e)) (hi : (P.info? e).map (fun i => (i.zero, i.size, i.bytes)) = some (some z, size, bytes)) (hzs : z.cells.size = size) (hsz : 0 < size) (hbt : bytes ≤ 1000)
    {l l2 : List CV} (hl : ∀ c ∈ l, c.size = size) (hl2 : ∀ c ∈ l2, c.size = size) (hbd : l.length + l2.length ≤ 100000000000)
    {v : Value} (hx : a.eval x = v) (hy : VRep (Us w0 U0 D) w (.lst l2) (a.eval y)) {xs : List Value} (hown : w.ownsRow 0 e size v l.length xs) (hsq : Sq (l.map fun c => Rep (Us w0 U0 D) w c) xs)
    (hroom : ∀ g, v.ownBlock = some g → Mn w0 U0 (lcl n (.mrow e size (l ++ l2))) g ∧ (∀ o, ¬ D g o) ∧ ∀ q av, look s q = some av → oKey q → av.t ≠ 7 → q ≠ n → hb (hv q) ≠ some g)
    (hK : ∀ a' w', Sim w0 U0 nt ((d, .sl n 0 (l.length + l2.length) size) :: (n, .mrow e size (l ++ l2)) :: s) a' w' → K a' w') : o.wp P a w K Q := by
  obtain ⟨ao2, m, c2, g1, g2, g3, g4, g6, ys2, g7, g8⟩ := vrep_lst.1 hy
  have hyl2 : ys2.length = m * size := by rw [sq_len (n := CV.size) (fun c _ xs h => h.len) g8, sum_const hl2, g2]
  have hmul : (l.length + m) * bytes ≤ 100000000000 * 1000 := Nat.mul_le_mul (by omega) hbt
  obtain ⟨v', w', r1, r2, r3, r4⟩ := run_app (P := P) (ty := o.type) ht hi hzs hsz (Nat.zero_le _) hown g6 g7 hyl2 (rep_one_of g8) (by unfold maxLen; omega) (by omega)
  have hvs : ∀ {u : Value} {k xs} {w : World}, w.ownsRow 0 e size u k xs → hb u = u.ownBlock := fun {u k xs w} h1 => by
    rcases h1.2 with ⟨rfl, rfl⟩ | ⟨g, cap, cur, rfl, _⟩ <;> rfl
  have hb2 := hvs r2
  have hkp : ∀ b o u, Us w0 U0 D b o → w.cell? ⟨b, o, none⟩ = some u → Us w0 U0 D b o ∧ w'.cell? ⟨b, o, none⟩ = some u := fun b o u hu hc => by
    refine ⟨hu, ?_⟩
    have hlt : b < w.heap.size := World.block_lt_of_cell? w _ hc
    have hnb : some b ≠ v.ownBlock := fun e => by
      obtain ⟨f1, f2, _⟩ := hroom b e.symm
      exact us_ne hu f1 (f2 o) rfl
    rw [World.cell?_of_block (w := w) (r3.block b hlt hnb)]
    exact hc
  have hG := h.newrow (avn := .mrow e size (l ++ l2)) (v' := v') (D' := D) (X := fun b => v.ownBlock = some b) hn hr (by simp) ⟨r3.os, r3.tape, r3.output, r3.size, fun b hb hx => r3.block b hb fun e => hx e.symm⟩ (fun b hb => ⟨(hroom b hb).1, (hroom b hb).2.2⟩) (fun g hg => by
      rw [hb2] at hg
      refine ⟨?_, (r2.lt g hg).2, fun o _ hd => ?_⟩
      · rcases r4 with r4 | ⟨_, r4⟩
        · exact .inl (r4 ▸ hg)
        · exact .inr (r4 g hg)
      · rcases r4 with r4 | ⟨_, r4⟩
        · exact (hroom g (r4 ▸ hg)).2.1 o hd
        · have := r4 g hg
          have := h.dlt _ _ hd
          omega) (fun b o hd => .inl hd) (fun b o hd => Nat.lt_of_lt_of_le (h.dlt _ _ hd) r3.size) hkp (fun hv lv => by
      refine ⟨xs ++ ys2, ?_, hsz, fun c hc => ?_, ?_⟩
      · show w'.ownsRow 0 e size v' (l ++ l2).length (xs ++ ys2)
        rw [List.length_append, ← g2]
        exact r2
      · rcases List.mem_append.1 hc with hc | hc
        · exact hl c hc
        · exact hl2 c hc
      · show Sq ((l ++ l2).map _) _
        rw [List.map_append]
        exact sq_append (Sq.keep hkp hsq) (Sq.keep hkp g8))
  have he : (execOp a.eval o).run P w = .ok (.value v') w' := by
    generalize a.eval = ρ at hx g1 ⊢
    simp [execOp, ho, resolve, invoke, builtin, hx, g1, r1, Result.andThen]
  unfold Oper.wp
  rw [he, Oper.upon_value, hd]
  refine hK _ _ ⟨_, _, hG.put hdn h5 ?_⟩
  refine ⟨hn.rn, ?_⟩
  obtain ⟨a1, c1, e1, e2, e3⟩ := own_addr r2
  have := slV_all (z := size) e1 e2 e3
  show SlV ((fun x => if x = n then v' else hv x) n) 0 (l.length + l2.length) size v'
  simp only [if_true]
  rw [← g2]
  exact this

theorem a_app0M (nn : Nat) (hg : Gd w0 U0 nt ops o gs S) (hd : o.dst = some d) (hn : Nat.blt d nt = true) (h5 : Nat.blt d 100000 = true) {x y : Operand} {t e size bytes : Nat} {z : Value} {l2 : List CV} {n q n2 q2 p2} (ho : o.op = .call { callee := .builtin .append, args := #[x, y], argTypes := #[t, t] }) (ht : P.underlying t = some (.slice e)) (hi : (P.info? e).map (fun i => (i.zero, i.size, i.bytes)) = some (some z, size, bytes)) (hzs : Nat.beq z.cells.size size = true) (hsz : Nat.blt 0 size = true) (hbt : Nat.ble bytes 1000 = true)
    (hx : ev S x = some ⟨0, .lst [], n, q, []⟩) (hy : ev S y = some ⟨0, .lst l2, n2, q2, p2⟩) (hnn : (Nat.ble 200000 n && Nat.blt n 400000) = true) (hn2 : (Nat.ble 200000 nn && Nat.blt nn 400000) = true) (hne : Nat.beq n nn = false) (hlv : S n = some (.tok e size)) (hl2 : ∀ c ∈ l2, c.size = size) (hbd : l2.length ≤ 100000000000) :
    AOp P w0 U0 nt ops o (gs ++ (rd x ++ (rd y ++ [n]))) [(nn, [])] S [(d, .sl nn 0 l2.length size), (nn, .mrow e size l2), (n, .no)] := by
  intro s hs hN a w ⟨D, hv, h⟩ Q K hK
  rw [if_pos (hg s (fun k hk => hs k (List.mem_append_left _ hk)) a w D hv h)]
  obtain ⟨h1, h2⟩ : VRep (Us w0 U0 D) w (.lst []) (a.eval x) ∧ Tk hv (LiveN s) ⟨0, .lst [], n, q, []⟩ (a.eval x).cells.toList := ev_rep h (fun k hk => hs k (List.mem_append_right _ (List.mem_append_left _ hk))) hx
  have h3 := ev_val h (fun k hk => hs k (List.mem_append_right _ (List.mem_append_right _ (List.mem_append_left _ hk)))) hy
  have hrn := rnB hnn
  have hrn2 := rnB hn2
  have hok : oKey n := ⟨by omega, by omega⟩
  have hlk := (hs n (by simp)).trans hlv
  have hlive : Live s n (e, size) := ⟨hlk, hrn.1, hrn.2⟩
  have hval : a.eval x = hv n := by
    obtain ⟨m, c, g1, g2⟩ := h2 (.inr ⟨_, hlive⟩)
    simp only at g1
    rw [at_nil] at g1
    cases g1
    obtain ⟨ao, k, c, e1, _⟩ := vrep_lst.1 h1
    unfold tokv at g2
    rw [if_neg (by show n ≠ 1; omega)] at g2
    rw [e1] at g2 ⊢
    simpa [Value.cells] using g2
  obtain ⟨k, xs, g1, g2⟩ : ∃ k xs, w.ownsRow 0 e size (hv n) k xs ∧ 0 < size := h.obj n _ hlk hok
  have hvs : hb (hv n) = (hv n).ownBlock ∧ lenOf (hv n) = k := by
    rcases g1.2 with ⟨e1, e2⟩ | ⟨g, cap, cur, e1, _⟩
    · rw [e1, e2]; exact ⟨rfl, rfl⟩
    · rw [e1]; exact ⟨rfl, rfl⟩
  have hk0 : k = 0 := by
    obtain ⟨ao, k', c, e1, e2, _⟩ := vrep_lst.1 h1
    rw [hval] at e1
    rw [e1] at hvs
    have : k' = k := hvs.2
    rw [← this, e2]; rfl
  subst hk0
  have hx0 : xs = [] := List.eq_nil_of_length_eq_zero (by simpa using g1.1)
  subst hx0
  have hne' : n ≠ nn := fun e => by rw [e, Nat.beq_refl] at hne; cases hne
  refine appLawM (l := []) (n := nn) (h.kill hok) hd (bL hn) (bL h5) hrn2 (fun k av hk => ?_) ho ht hi (Nat.eq_of_beq_eq_true hzs) (bL hsz) (Nat.le_of_ble_eq_true hbt) (fun c hc => by cases hc) hl2 (by simpa using hbd) hval h3 g1 rfl (fun g hg => ?_) (fun a' w' hs' => hK a' w' ?_)
  · by_cases e : n = k
    · subst e
      rw [lS] at hk
      cases hk
      refine ⟨by show 0 ≠ _; omega, ?_⟩
      have hfn : fnm n = 100000 := by
        unfold fnm
        have : Nat.ble 500000 n = false := by
          cases hb : Nat.ble 500000 n with
          | false => rfl
          | true => have := Nat.le_of_ble_eq_true hb; omega
        rw [this]
      rw [hfn]
      omega
    · rw [lN e] at hk; exact (hN (nn, []) (by simp)).nr k av hk
  · rw [← hvs.1] at hg
    obtain ⟨f1, f2, f3⟩ := h.blk n _ g hlk hok (by simp) hg
    rw [lcl_tok rfl] at f1
    refine ⟨?_, fun o => f3 o fun _ => ?_, fun q av h6 h7 h8 h9 => ?_⟩
    · rcases f1 with f1 | f1
      · exact .inl f1
      · exact absurd rfl f1.1
    · rw [hvs.2]; simp
    · have hq : n ≠ q := fun e => by subst e; rw [lS] at h6; cases h6; exact h8 rfl
      rw [lN hq] at h6
      exact h.disj n q _ av g hlk h6 hok h7 (by simp) h8 hq hg
  · simpa using hs'
theorem a_appM (nn : Nat) (hg : Gd w0 U0 nt ops o gs S) (hd : o.dst = some d) (hn : Nat.blt d nt = true) (h5 : Nat.blt d 100000 = true) {x y : Operand} {t e size bytes : Nat} {z : Value} {l l2 : List CV} {n len n2 q2 p2} (ho : o.op = .call { callee := .builtin .append, args := #[x, y], argTypes := #[t, t] }) (ht : P.underlying t = some (.slice e)) (hi : (P.info? e).map (fun i => (i.zero, i.size, i.bytes)) = some (some z, size, bytes)) (hzs : Nat.beq z.cells.size size = true) (hbt : Nat.ble bytes 1000 = true)
    (hx : ev S x = some (.sl n 0 len size)) (hy : ev S y = some ⟨0, .lst l2, n2, q2, p2⟩) (hn2 : (Nat.ble 200000 nn && Nat.blt nn 400000) = true) (hne : (!Nat.beq n nn && (Nat.blt n 300000 || Nat.ble 300000 nn)) = true) (hlv : S n = some (.mrow e size l)) (hlen : len = l.length) (hl2 : ∀ c ∈ l2, c.size = size) (hbd : l.length + l2.length ≤ 100000000000) :
    AOp P w0 U0 nt ops o (gs ++ (rd x ++ (rd y ++ [n]))) [(nn, [])] S [(d, .sl nn 0 (l.length + l2.length) size), (nn, .mrow e size (l ++ l2)), (n, .no)] := by
  intro s hs hN a w ⟨D, hv, h⟩ Q K hK
  rw [if_pos (hg s (fun k hk => hs k (List.mem_append_left _ hk)) a w D hv h)]
  obtain ⟨hrn, hsl⟩ : RN n ∧ SlV (hv n) 0 len size (a.eval x) := ev_rep h (fun k hk => hs k (List.mem_append_right _ (List.mem_append_left _ hk))) hx
  have h3 := ev_val h (fun k hk => hs k (List.mem_append_right _ (List.mem_append_right _ (List.mem_append_left _ hk)))) hy
  have hrn2 := rnB hn2
  have hrn' := hrn
  unfold RN at hrn'
  have hok : oKey n := ⟨by omega, by omega⟩
  have hlk := (hs n (by simp)).trans hlv
  obtain ⟨xs, g1, g2, g3, g4⟩ := h.mrow hlk hrn
  have hval : a.eval x = hv n := by
    obtain ⟨ao, m, cap, ao', e1, e2, e3, e4, _⟩ := hsl
    obtain ⟨ao2, cap2, f1, f2, f3⟩ := own_addr g1
    rw [f1] at e1 ⊢
    injection e1 with e5 e6 e7
    subst e5; subst e6; subst e7
    rw [e2, e4 rfl, hlen]; rfl
  have hvs : hb (hv n) = (hv n).ownBlock := by
    rcases g1.2 with ⟨e1, e2⟩ | ⟨g, cap, cur, e1, _⟩
    · rw [e1]; rfl
    · rw [e1]; rfl
  rw [Bool.and_eq_true, Bool.or_eq_true] at hne
  have hne' : n ≠ nn := fun e => by rw [e, Nat.beq_refl] at hne; exact absurd hne.1 (by decide)
  refine appLawM (l := l) (n := nn) (h.kill hok) hd (bL hn) (bL h5) hrn2 (fun k av hk => ?_) ho ht hi (Nat.eq_of_beq_eq_true hzs) g2 (Nat.le_of_ble_eq_true hbt) g3 hl2 hbd hval h3 g1 g4 (fun g hg => ?_) (fun a' w' hs' => hK a' w' hs')
  · by_cases e : n = k
    · subst e
      rw [lS] at hk
      cases hk
      refine ⟨by show 0 ≠ _; omega, ?_⟩
      have hfn : fnm n = 100000 := by
        unfold fnm
        have : Nat.ble 500000 n = false := by
          cases hb : Nat.ble 500000 n with
          | false => rfl
          | true => have := Nat.le_of_ble_eq_true hb; omega
        rw [this]
      rw [hfn]
      omega
    · rw [lN e] at hk; exact (hN (nn, []) (by simp)).nr k av hk
  · rw [← hvs] at hg
    obtain ⟨f1, f2, f3⟩ := h.blk n _ g hlk hok (by simp) hg
    refine ⟨?_, fun o => f3 o (fun e => by cases e), fun q av h6 h7 h8 h9 => ?_⟩
    · rcases f1 with f1 | f1
      · exact .inl f1
      · rcases hne.2 with h6 | h6
        · rw [lcl_own (bL h6)] at f1; exact absurd rfl f1.1
        · exact .inr ⟨by rw [lcl_row (Nat.le_of_ble_eq_true h6)]; simp, f1.2⟩
    · have hq : n ≠ q := fun e => by subst e; rw [lS] at h6; cases h6; exact h8 rfl
      rw [lN hq] at h6
      exact h.disj n q _ av g hlk h6 hok h7 (by simp) h8 hq hg

theorem a_clearM (hg : Gd w0 U0 nt ops o gs S) (hd : o.dst = none) {x : Operand} {t e e' : TypeId} {ts : Array TypeId} {n lo len z : Nat} {l : List CV} {zc : CV} (ho : o.op = .call { callee := .builtin .clear, args := #[x], argTypes := ts }) (ht : ts[0]? = some t) (hu : P.underlying t = some (.slice e)) (hzc : zeroT P e = some zc) (hx : ev S x = some (.sl n lo len z)) (hm' : S n = some (.mrow e' z l)) (hzz : zc.size = z) (hl : lo + len ≤ l.length) :
    AOp P w0 U0 nt ops o (gs ++ (rd x ++ [n])) [] S [(n, .mrow e' z (l.take lo ++ (List.replicate len zc ++ l.drop (lo + len))))] := by
  intro s hs hN a w ⟨D, hv, h⟩ Q K hK
  rw [if_pos (hg s (fun k hk => hs k (List.mem_append_left _ hk)) a w D hv h)]
  have hm := (hs n (by simp)).trans hm'
  obtain ⟨hrn, ao, m, cap, ao', h1, h2, h3, h4, h6, h7⟩ : RN n ∧ SlV (hv n) lo len z (a.eval x) := ev_rep h (fun k hk => hs k (List.mem_append_right _ (List.mem_append_left _ hk))) hx
  obtain ⟨xs, g1, g2, g3, g4⟩ := h.mrow hm hrn
  obtain ⟨it, zv, i1, i2, i3⟩ := zeroT_spec hzc
  by_cases hl0 : len = 0
  · subst hl0
    have he : (execOp a.eval o).run P w = .ok (.value (.tuple #[])) w := by
      generalize a.eval = ρ at h2 ⊢
      cases ao' <;> simp [execOp, ho, resolve, invoke, builtin, Builtin.clear_, ht, h2, run_underlying hu]
    unfold Oper.wp
    rw [he, Oper.upon_value, hd]
    have : l.take lo ++ (List.replicate 0 zc ++ l.drop (lo + 0)) = l := by simp
    refine hK _ _ ⟨D, hv, h.congr fun k => ?_⟩
    rw [this]
    by_cases e : n = k
    · subst e; rw [List.cons_append, lS]; exact hm.symm
    · rw [List.cons_append, lN e]; rfl
  obtain ⟨g, cap', cur, f1, f2, f3, f4, f6, f7, f8, f9⟩ := own_some g1 (by omega)
  obtain rfl : cap = cap' := by rw [f1] at h1; injection h1 with k1 k2 k3; exact k3.symm
  obtain rfl : ao = some ⟨g, 0, none⟩ := by rw [f1] at h1; injection h1 with k1 k2 k3; exact k1.symm
  have ha : ao' = some ⟨g, lo * z, none⟩ := h6 (by omega) g rfl
  subst ha
  have hzl : zv.cells.size = z := by have := (i3 (fun _ _ => True) w).len; rw [hzz] at this; simpa using this
  obtain ⟨zs, hzs⟩ : ∃ zs, zs = (List.replicate len zv.cells.toList).flatten := ⟨_, rfl⟩
  have hzsl : zs.length = len * z := by rw [hzs]; simp [hzl]
  have hzc2 : (Builtin.zeroCells zv.cells len).toList = zs := by
    rw [hzs]
    apply List.ext_getElem?
    intro k
    rw [flat_const g2 _ (by intro v hv'; rw [List.mem_replicate] at hv'; rw [hv'.2]; simpa using hzl)]
    unfold Builtin.zeroCells
    rw [hzl]
    by_cases hk : k < len * z
    · have e1 : k / z < len := (Nat.div_lt_iff_lt_mul g2).2 hk
      have e2 : k % z < zv.cells.size := by rw [hzl]; exact Nat.mod_lt _ g2
      simp [hk, List.getElem?_replicate, e1, e2]
    · have e1 : ¬ k / z < len := by rw [Nat.div_lt_iff_lt_mul g2]; exact hk
      simp [hk, List.getElem?_replicate, e1]
  have hone : ∀ v ∈ zs, v.oneCell' = true := by
    intro v hv'
    rw [hzs, List.mem_flatten] at hv'
    obtain ⟨r, hr1, hr2⟩ := hv'
    rw [List.mem_replicate] at hr1
    rw [hr1.2] at hr2
    exact (i3 (fun _ _ => True) w).one v hr2
  have hcl : lo * z + len * z ≤ l.length * z := by rw [← Nat.add_mul]; exact Nat.mul_le_mul_right _ hl
  have hcap : l.length * z ≤ cap * z := Nat.mul_le_mul_right _ f3
  have hst := run_storeCells_at (P := P) g (lo * z) e' zs 0 cur w f2 (by rw [hzsl, f6]; omega) hone
  rw [Nat.add_zero] at hst
  have he : (execOp a.eval o).run P w = .ok (.value (.tuple #[])) (w.setRow g (cur.toList.take (lo * z) ++ zs ++ cur.toList.drop (lo * z + zs.length)).toArray) := by
    have hzv : (zeroValue e).run P w = .ok zv w := by simp [zeroValue, typeInfo, i1, i2]
    obtain ⟨len', rfl⟩ : ∃ k, len = k + 1 := ⟨len - 1, by omega⟩
    generalize a.eval = ρ at h2 ⊢
    simp [execOp, ho, resolve, invoke, builtin, Builtin.clear_, ht, h2, run_underlying hu, hzv, hzc2, hst]
  unfold Oper.wp
  rw [he, Oper.upon_value, hd]
  have hok : oKey n := by unfold RN at hrn; unfold oKey; omega
  obtain ⟨l', hl'⟩ : ∃ l', l' = l.take lo ++ (List.replicate len zc ++ l.drop (lo + len)) := ⟨_, rfl⟩
  have hll : l'.length = l.length := by rw [hl']; simp; omega
  refine hK _ _ ?_
  rw [← hl']
  refine ⟨_, _, h.store (av := .mrow e' z l') hok hm (by simp) (by simp) rfl (fun g' hn o _ => hn o (by simp)) (by simp) f9 f2 fun w' hw hkp => ?_⟩
  have hsplit : l = l.take lo ++ ((l.drop lo).take len ++ (l.drop lo).drop len) := by rw [List.take_append_drop, List.take_append_drop]
  have g4' := g4
  rw [hsplit, List.map_append, List.map_append] at g4'
  obtain ⟨y1, r1, e1, s1, s2⟩ := sq_split g4'
  obtain ⟨y2, y3, e2, s3, s4⟩ := sq_split s2
  have hy1 : y1.length = lo * z := by rw [sq_len (n := CV.size) (fun c _ xs h => h.len) s1, sum_const (fun c hc => g3 c (List.mem_of_mem_take hc)), List.length_take, Nat.min_eq_left (by omega)]
  have hy2 : y2.length = len * z := by rw [sq_len (n := CV.size) (fun c _ xs h => h.len) s3, sum_const (fun c hc => g3 c (List.mem_of_mem_drop (List.mem_of_mem_take hc))), List.length_take, List.length_drop, Nat.min_eq_left (by omega)]
  have hy3 : y1.length + (y2.length + y3.length) = l.length * z := by have := g1.1; rw [e1, e2] at this; simpa using this
  have hcur : cur.toList = y1 ++ (y2 ++ (y3 ++ cur.toList.drop (l.length * z))) := by
    conv => lhs; rw [← List.take_append_drop (l.length * z) cur.toList, f7, e1, e2]
    simp
  have hnew : cur.toList.take (lo * z) ++ zs ++ cur.toList.drop (lo * z + zs.length) = (y1 ++ (zs ++ y3)) ++ cur.toList.drop (l.length * z) := by
    have t1 : cur.toList.take (lo * z) = y1 := by rw [hcur, ← hy1]; simp
    have t2 : cur.toList.drop (lo * z + zs.length) = y3 ++ cur.toList.drop (l.length * z) := by
      rw [hzsl, ← hy1, ← hy2]
      conv => lhs; rw [hcur]
      rw [← List.append_assoc, List.drop_append_of_le_length (by simp)]
      simp
    rw [t1, t2]
    simp
  rw [hnew] at hw
  refine ⟨y1 ++ (zs ++ y3), ⟨?_, .inr ⟨g, cap, _, ?_, Nat.zero_le _, hw, ?_, f4, ?_, ?_⟩⟩, g2, fun x hx => ?_, ?_⟩
  · show _ = l'.length * z
    rw [hll]
    simp only [List.length_append, hzsl]
    omega
  · show hv n = .slice _ l'.length cap
    rw [hll]; exact f1
  · show l'.length ≤ cap
    rw [hll]; exact f3
  · have := congrArg List.length hcur
    rw [Array.length_toList, f6] at this
    simp only [List.size_toArray, List.length_append, hzsl] at this ⊢
    show _ = cap * z
    omega
  · show List.take (l'.length * z) _ = _
    rw [hll, List.take_append_of_le_length (by simp only [List.length_append, hzsl]; omega), List.take_of_length_le (by simp only [List.length_append, hzsl]; omega)]
  · have hx : x ∈ l' := hx
    rw [hl', List.mem_append, List.mem_append] at hx
    rcases hx with hx | hx | hx
    · exact g3 x (List.mem_of_mem_take hx)
    · rw [List.mem_replicate] at hx; rw [hx.2, hzz]; rfl
    · exact g3 x (List.mem_of_mem_drop hx)
  · show Sq (l'.map fun c => Rep (Us w0 U0 D) w' c) _
    rw [hl', List.map_append, List.map_append]
    refine sq_append (Sq.keep hkp s1) (sq_append ?_ ?_)
    · rw [hzs]; exact sq_repl (i3 _ _) len
    · rw [← List.drop_drop]
      exact Sq.keep hkp s4

theorem wk_frz (d n : Nat) {e z lo len : Nat} {l : List CV} (hs : look s d = some (.sl n lo len z)) (hm : look s n = some (.mrow e z l)) (hd : Nat.blt d 100000 = true) (hloc : (∀ b, ¬ U0.x b) ∨ n < 300000) (hlen : lo + len ≤ l.length) {s' : AS} (hsub : SubL s s') (hk : noKey s' n = true) : Wk w0 U0 nt s ((d, .val (.lst ((l.drop lo).take len))) :: s') := by
  rintro a w ⟨D, hv, h⟩
  have hd := bL hd
  obtain ⟨v, g1, hrn, ao, m, cap, ao', h1, h2, h3, h4, h6, h7⟩ : ∃ v, a.tmps[d]? = some v ∧ RN n ∧ SlV (hv n) lo len z v := h.slot d _ hs hd
  have h2 : v = .slice ao' len (cap - lo) := h2
  obtain ⟨xs, f1, f2, f3, f4⟩ := h.mrow hm hrn
  have hrn' := hrn
  unfold RN at hrn'
  have hok : oKey n := ⟨by omega, by omega⟩
  have hsub' := hsub.sub
  have hno : ∀ av, look s' n ≠ some av := fun av h8 => by
    have h9 := look_mem h8
    unfold noKey at hk
    rw [List.all_eq_true] at hk
    have := hk _ h9
    simp at this
  rcases f1.2 with ⟨e1, e2⟩ | ⟨g, cap', cur, e1, _, e3, e4, e5, e6, e7⟩
  · -- nil
    have hl0 : l = [] := List.eq_nil_of_length_eq_zero e2
    subst hl0
    rw [e1] at h1
    injection h1 with h1 h8 h9
    subst h1; subst h8; subst h9
    have hlo : lo = 0 := by simp at hlen; omega
    have hle : len = 0 := by simp at hlen; omega
    subst hlo; subst hle
    have hao : ao' = none := h7.2 rfl
    refine ⟨D, hv, (h.sub hsub').know hd g1 (avrep_val ?_)⟩
    rw [h2, hao]
    exact vrep_lst.2 ⟨none, 0, 0, rfl, rfl, Nat.le_refl _, by unfold maxLen; omega, fun _ => ⟨rfl, rfl⟩, [], .inl rfl, rfl⟩
  · obtain rfl : cap = cap' := by rw [e1] at h1; injection h1 with k1 k2 k3; exact k3.symm
    obtain rfl : ao = some ⟨g, 0, none⟩ := by rw [e1] at h1; injection h1 with k1 k2 k3; exact k1.symm
    have hgb : hb (hv n) = some g := by rw [e1]; rfl
    obtain ⟨b1, b2, b3⟩ := h.blk n _ g hm hok (by simp) hgb
    have hge : w0.heap.size ≤ g := by
      rcases b1 with b1 | b1
      · exact b1
      · rcases hloc with hloc | hloc
        · exact absurd b1.2 (hloc g)
        · exact absurd (lcl_own hloc _) b1.1
    have hG := (h.sub hsub').moreD (g := g) b2 fun k av h10 h11 h12 h13 => h.disj n k _ av g hm (hsub' _ _ h10) hok h11 (by simp) h12 (fun e => hno av (e ▸ h10)) hgb h13
    refine ⟨_, hv, hG.know hd g1 (avrep_val ?_)⟩
    rw [h2]
    have hkp : ∀ b o v, Us w0 U0 D b o → w.cell? ⟨b, o, none⟩ = some v → Us w0 U0 (fun b o => D b o ∨ b = g) b o ∧ w.cell? ⟨b, o, none⟩ = some v := fun b o v hu hc => ⟨hu.imp id fun h => ⟨h.1, .inl h.2⟩, hc⟩
    have hsplit : l = l.take lo ++ ((l.drop lo).take len ++ (l.drop lo).drop len) := by rw [List.take_append_drop, List.take_append_drop]
    have f4' := f4
    rw [hsplit, List.map_append, List.map_append] at f4'
    obtain ⟨y1, r1, c1, s1, s2⟩ := sq_split f4'
    obtain ⟨y2, y3, c2, s3, s4⟩ := sq_split s2
    have hy1 : y1.length = lo * z := by rw [sq_len (n := CV.size) (fun c _ xs h => h.len) s1, sum_const (fun c hc => f3 c (List.mem_of_mem_take hc)), List.length_take, Nat.min_eq_left (by omega)]
    refine vrep_lst.2 ⟨ao', len, cap - lo, rfl, by simp; omega, by omega, by omega, fun h10 => ?_, y2, ?_, Sq.keep hkp s3⟩
    · have := h7.1 h10; cases this
    · by_cases hlc : lo < cap
      · refine .inr ⟨g, lo * z, h6 hlc g rfl, fun i hi => ⟨.inr ⟨hge, .inr rfl⟩, ?_⟩⟩
        have hlt : lo * z + i < l.length * z := by
          have := f1.1
          rw [c1, c2] at this
          simp only [List.length_append] at this
          omega
        rw [own_cell f1 (by rw [e1]; rfl) hlt, c1, c2, ← hy1, List.getElem?_append_right (by omega), List.getElem?_append_left (by omega)]
        congr 1
        omega
      · left
        have : len = 0 := by omega
        rw [this] at s3
        exact s3

def AFunW (P : Program) (W : World) (fc : CV) (args : List CV) (r : AV) : Prop := AFunV P W fc args r ∨ ∃ f, fc = .sc (.func (.func f) #[] #[]) ∧ AFun P W f args r
theorem a_callw {x : Operand} {xs : Array Operand} {ts : Array TypeId} {fc : CV} {cs : List CV} {r : AV} {n q p} (hg : Gd w0 U0 nt ops o gs S) (hd : o.dst = some d) (hn : Nat.blt d nt = true) (h5 : Nat.blt d 100000 = true)
    (ho : o.op = .call { callee := .value x, args := xs, argTypes := ts }) (hf : ev S x = some ⟨0, fc, n, q, p⟩) (hx : evsO S xs.toList = some cs) (hc : AFunW P w0 fc cs r) : AOp P w0 U0 nt ops o (gs ++ (rd x ++ rdl xs.toList)) [] S [(d, r)] := by
  rcases hc with hc | ⟨f, rfl, hc⟩
  · exact a_callv hg hd hn h5 ho hf hx hc
  intro s hs _ a w ⟨D, hv, h⟩ Q K hK
  rw [if_pos (hg s (fun k hk => hs k (List.mem_append_left _ hk)) a w D hv h)]
  have hargs := evsO_rep h (fun k hk => hs k (List.mem_append_right _ (List.mem_append_right _ hk))) hx
  have hfv := ev_sc h (fun k hk => hs k (List.mem_append_right _ (List.mem_append_left _ hk))) hf
  obtain ⟨h1, h2, h3, h4⟩ := hc
  have hcall := h4 _ w _ trivial hargs
  have he : (execOp a.eval o).run P w = .ok (.enter f (xs.toList.map a.eval).toArray) w := by
    have hen := h1 (xs.map a.eval) w
    have harr : (xs.toList.map a.eval).toArray = xs.map a.eval := by apply Array.ext'; simp
    rw [harr]
    generalize a.eval = ρ at hfv hen ⊢
    simp [execOp, ho, resolve, invoke, Deferred.ofValue, hfv, hen]
  unfold Oper.wp
  rw [he, Oper.upon_enter]
  refine hcall.mono ?_
  rintro e w' ⟨v, rfl, h6, h7⟩
  rw [hd]
  exact hK _ _ ⟨Dn D w w', hv, (h.growN h7).put (bL hn) (bL h5) (avrep_rr h2 h3 (us_of_rr rfl h7.size h.below.size h6))⟩

theorem AWp.nil {c : Code} {Q : Exit → AS → Prop} (d : Nat) {l : List CV} (h5 : Nat.blt d 100000 = true) (hs : look s d = some (.val (.lst l))) (h1 : l = [] → AWp P w0 U0 nt c Q ((d, ⟨0, .lst [], 1, 0, []⟩) :: s)) (h2 : AWp P w0 U0 nt c Q ((d, ⟨16, .lst l, 0, 0, []⟩) :: s)) : AWp P w0 U0 nt c Q s := by
  intro M a w ⟨D, hv, h⟩
  have h5 := bL h5
  obtain ⟨v, g1, g2⟩ := h.slot d _ hs h5
  have g2 : VRep (Us w0 U0 D) w (.lst l) v := g2.1
  cases hn : isNil v with
  | false => exact h2 M a w ⟨D, hv, h.know h5 g1 ⟨g2, hn⟩⟩
  | true =>
    have hv0 := isNil_eq hn
    subst hv0
    obtain ⟨ao, n, cc, e1, e2, _⟩ := vrep_lst.1 g2
    injection e1 with _ e3 _
    have hl : l = [] := List.eq_nil_of_length_eq_zero (by omega)
    subst hl
    exact h1 rfl M a w ⟨D, hv, h.know h5 g1 ⟨g2, fun _ => ⟨0, .lst [], rfl, rfl⟩⟩⟩
theorem wk_not (d : Nat) {c : CV} (h5 : Nat.blt d 100000 = true) (hs : look s d = some ⟨16, c, 0, 0, []⟩) : Wk w0 U0 nt s ((d, .val c) :: s) := by
  rintro a w ⟨D, hv, h⟩
  have h5 := bL h5
  obtain ⟨v, g1, g2⟩ := h.slot d _ hs h5
  exact ⟨D, hv, h.know h5 g1 (avrep_val g2.1)⟩
theorem run_eqnil {t e : TypeId} (hu : P.underlying t = some (.slice e)) (v : Value) (w : World) (hv : ∃ ao n c, v = .slice ao n c ∧ (ao = none → n = 0 ∧ c = 0)) : (Op.equal t v (.slice none 0 0)).run P w = .ok (isNil v) w := by
  obtain ⟨ao, n, c, rfl, h⟩ := hv
  unfold Op.equal
  rw [show Op.maxDepth = 9999 + 1 from rfl, Op.equalIn]
  cases ao with
  | none => obtain ⟨rfl, rfl⟩ := h rfl; simp [run_underlying hu, isNil]
  | some ad => simp [run_underlying hu, isNil]
theorem a_isnil (hg : Gd w0 U0 nt ops o gs S) (hd : o.dst = some d) (hn : Nat.blt d nt = true) (h5 : Nat.blt d 100000 = true) {x : Operand} {t1 t2 e : TypeId} {q} (ho : o.op = .binOp .eql t1 x (.const (.slice none 0 0)) t2) (hu : P.underlying t1 = some (.slice e)) (hx : ev S x = some ⟨0, .lst [], 1, q, []⟩) : AOp P w0 U0 nt ops o (gs ++ rd x) [] S [(d, .val (.b true))] :=
  aop_val hg hd hn h5 (fun k hk => List.mem_append_left _ hk) fun s hs a w D hv hm => by
    obtain ⟨h1, h2⟩ : VRep (Us w0 U0 D) w (.lst []) (a.eval x) ∧ Tk hv (LiveN s) ⟨0, .lst [], 1, q, []⟩ (a.eval x).cells.toList := ev_rep hm (fun k hk => hs k (List.mem_append_right _ hk)) hx
    have hnil : a.eval x = .slice none 0 0 := by
      obtain ⟨m, c, g1, g2⟩ := h2 (.inl rfl)
      simp only at g1
      rw [at_nil] at g1
      cases g1
      obtain ⟨ao, k, c, e1, _⟩ := vrep_lst.1 h1
      rw [e1] at g2 ⊢
      simpa [Value.cells, tokv] using g2
    refine ⟨.bool true, ?_, avrep_sc rfl⟩
    have hb := run_eqnil (P := P) hu (.slice none 0 0) w ⟨none, 0, 0, rfl, fun _ => ⟨rfl, rfl⟩⟩
    have hc : a.eval (.const (.slice none 0 0)) = .slice none 0 0 := rfl
    generalize a.eval = ρ at hnil hc ⊢
    simp [execOp, ho, hnil, hc, eqGuard, binOp, hb, isNil]
theorem a_notnil (hg : Gd w0 U0 nt ops o gs S) (hd : o.dst = some d) (hn : Nat.blt d nt = true) (h5 : Nat.blt d 100000 = true) {x : Operand} {t1 t2 e : TypeId} {l : List CV} {n q p} (ho : o.op = .binOp .eql t1 x (.const (.slice none 0 0)) t2) (hu : P.underlying t1 = some (.slice e)) (hx : ev S x = some ⟨16, .lst l, n, q, p⟩) : AOp P w0 U0 nt ops o (gs ++ rd x) [] S [(d, .val (.b false))] :=
  aop_val hg hd hn h5 (fun k hk => List.mem_append_left _ hk) fun s hs a w D hv hm => by
    obtain ⟨h1, h2⟩ : VRep (Us w0 U0 D) w (.lst l) (a.eval x) ∧ isNil (a.eval x) = false := ev_rep hm (fun k hk => hs k (List.mem_append_right _ hk)) hx
    obtain ⟨ao, k, c, e1, e2, e3, e4, e5, _⟩ := vrep_lst.1 h1
    refine ⟨.bool false, ?_, avrep_sc rfl⟩
    have hb := run_eqnil (P := P) hu (a.eval x) w ⟨ao, k, c, e1, e5⟩
    rw [h2] at hb
    have hc : a.eval (.const (.slice none 0 0)) = .slice none 0 0 := rfl
    generalize a.eval = ρ at hb hc ⊢
    simp [execOp, ho, hc, eqGuard, binOp, hb]
theorem wk_nilM (d n e z : Nat) (hs : look s d = some ⟨0, .lst [], 1, 0, []⟩) (h5 : Nat.blt d 100000 = true) (hn : (Nat.ble 200000 n && Nat.blt n 400000) = true) (hz : Nat.blt 0 z = true) (hr : noRefB s [(n, [])] = true) : Wk w0 U0 nt s ((d, .sl n 0 0 z) :: (n, .mrow e z []) :: s) := by
  rintro a w ⟨D, hv, h⟩
  have h5 := bL h5
  have hrn := rnB hn
  have hz := bL hz
  have hr := (noRefB_spec hr (n, []) (by simp)).nr
  obtain ⟨v, g1, g2⟩ := h.slot d _ hs h5
  have hv0 : v = .slice none 0 0 := by
    obtain ⟨h1, h2⟩ : VRep (Us w0 U0 D) w (.lst []) v ∧ Tk hv (LiveN s) ⟨0, .lst [], 1, 0, []⟩ v.cells.toList := g2
    obtain ⟨m, c, f1, f2⟩ := h2 (.inl rfl)
    simp only at f1
    rw [at_nil] at f1
    cases f1
    obtain ⟨ao, k, c, e1, _⟩ := vrep_lst.1 h1
    rw [e1] at f2 ⊢
    simpa [Value.cells, tokv] using f2
  have hG := h.newrow (X := fun _ => False) (avn := .mrow e z []) (v' := .slice none 0 0) hrn hr (by simp) (BelowX.refl _ _) (fun b hb => hb.elim) (fun g hg => by cases hg) (fun b o hd => .inl hd) h.dlt (fun b o u h1 h2 => ⟨h1, h2⟩) (fun hv lv => ⟨[], World.ownsRow_nil _ _ _ _, hz, (fun c hc => by cases hc), rfl⟩)
  refine ⟨D, _, hG.know h5 g1 ⟨RW.rn hrn, ?_⟩⟩
  show SlV ((fun x => if x = n then Value.slice none 0 0 else hv x) n) 0 0 z v
  simp only [if_true]
  rw [hv0]
  exact slV_all rfl (Nat.le_refl _) (.inl rfl)
end
section
variable {P : Program} {w0 : World} {U0 : UX} {nt : Nat} {ops : Array Oper} {o : Oper} {S : Nat → Option AV} {gs : List Nat} {d : Nat} {s : AS} {a : Act} {w : World} {D : Nat → Nat → Prop} {hv : Nat → Value}

def aggA (av : AV) : Bool := match Nat.beq av.t 0 with | true => Nat.beq av.c.k 2 | false => false
theorem vrep_one {U : Nat → Nat → Prop} {c : CV} {v : Value} (h : VRep U w c v) (hk : c.k ≠ 2) : v.cells = #[v] ∧ v.oneCell' = true := by
  unfold VRep at h
  rw [if_neg hk] at h
  have h1 := h.one v (by simp)
  exact ⟨by cases v <;> first | rfl | simp [Value.oneCell'] at h1, h1⟩

def fldB (av : AV) : Bool := Nat.beq av.t 0 || Nat.beq av.t 2 || Nat.beq av.t 11 || Nat.beq av.t 12 || Nat.beq av.t 15
theorem one_cells {v : Value} (h : v.oneCell' = true) : v.cells = #[v] := by cases v <;> first | rfl | simp [Value.oneCell'] at h
theorem fld_one {U : Nat → Nat → Prop} {lv : Nat → Prop} {av : AV} {v : Value} (h : AVRep U w hv lv av v) (hf : fldB av = true) (ht : av.t ≠ 0) : v.cells = #[v] ∧ v.oneCell' = true := by
  unfold fldB at hf
  simp only [Bool.or_eq_true] at hf
  unfold AVRep at h
  rw [if_neg ht] at h
  rcases hf with (((hf | hf) | hf) | hf) | hf <;> have hf := Nat.eq_of_beq_eq_true hf
  · exact absurd hf ht
  · rw [if_pos hf] at h; rw [h.2]; exact ⟨rfl, rfl⟩
  · rw [if_neg (by omega), if_neg (by omega), if_neg (by omega), if_pos hf] at h; rw [h.2]; exact ⟨rfl, rfl⟩
  · rw [if_neg (by omega), if_neg (by omega), if_neg (by omega), if_neg (by omega), if_pos hf] at h
    obtain ⟨_, ao, m, cap, ao', _, e, _⟩ := h
    rw [e]; exact ⟨rfl, rfl⟩
  · rw [if_neg (by omega), if_neg (by omega), if_neg (by omega), if_neg (by omega), if_neg (by omega), if_pos hf] at h
    exact ⟨one_cells h.2.2, h.2.2⟩
theorem aLf (hg : Gd w0 U0 nt ops o gs S) (hd : o.dst = some d) (hn : Nat.blt d nt = true) (h5 : Nat.blt d 100000 = true) {x : Operand} {ty : TypeId} {ds : TypeDesc} {z n q : Nat} {p : List Nat} {k' v' l'} {av : AV} (ho : o.op = .load ty x) (hu : P.underlying ty = some ds) (hi : (P.info? ty).map (·.size) = some z) (hx : ev S x = some ⟨2, ⟨k', v', l'⟩, n, q, p⟩) (hb : S (100000 + n) = some .obj) (hf : S (fKey n q) = some av) (hq : Nat.blt q 100 = true) (hz : av.sz = z) (hk : aggB ds = aggA av) (ht : fldB av = true) : AOp P w0 U0 nt ops o (gs ++ (rd x ++ [100000 + n, fKey n q])) [] S [(d, av)] :=
  aop_val hg hd hn h5 (fun k hk => List.mem_append_left _ hk) fun s hs a w D hv hm => by
    obtain ⟨hbn, h1⟩ : BN n ∧ a.eval x = .pointer (some ⟨blkOf (hv (100000 + n)), q, none⟩) := ev_rep hm (fun k hk => hs k (List.mem_append_right _ (List.mem_append_left _ hk))) hx
    obtain ⟨v, g1, g2, g3⟩ := hm.fld n q av ((hs (fKey n q) (by simp)).trans hf) (bL hq) ((hs (100000 + n) (by simp)).trans hb) hbn
    have hsz := run_sizeOf (P := P) (w := w) hi
    refine ⟨v, ?_, g1⟩
    have hl : (loadVar ty ⟨blkOf (hv (100000 + n)), q, none⟩).run P w = .ok v w := by
      cases hag : aggA av with
      | true =>
        rw [hag] at hk
        unfold aggA at hag
        split at hag
        · rename_i ht0
          have ht0 := Nat.eq_of_beq_eq_true ht0
          have hk2 := Nat.eq_of_beq_eq_true hag
          unfold AVRep at g1
          rw [if_pos ht0] at g1
          have g4 := g1.1
          unfold VRep at g4
          rw [if_pos hk2] at g4
          obtain ⟨xs, rfl, g5⟩ := g4
          have hxl : xs.length = z := by rw [← hz, ← g2]; simp [Value.cells]
          have := run_loadCells_list (P := P) w ⟨blkOf (hv (100000 + n)), q, none⟩ xs (fun j u hj => by
            have hjl : j < xs.length := by
              rcases Nat.lt_or_ge j xs.length with h | h
              · exact h
              · rw [List.getElem?_eq_none h] at hj; cases hj
            rw [add_at, g3 j (by simpa [Value.cells] using hjl)]
            simpa [Value.cells] using hj)
          rw [hxl] at this
          simp [loadVar, run_isAgg hu, hk, hsz, this]
        · cases hag
      | false =>
        rw [hag] at hk
        have hv1 : v.cells = #[v] := by
          by_cases ht0 : av.t = 0
          · unfold aggA at hag
            rw [ht0] at hag
            have hk2 : av.c.k ≠ 2 := fun e => by rw [e] at hag; cases hag
            unfold AVRep at g1
            rw [if_pos ht0] at g1
            exact (vrep_one g1.1 hk2).1
          · exact (fld_one g1 ht ht0).1
        have := g3 0 (by rw [hv1]; simp)
        rw [hv1] at this
        simp only [Nat.add_zero] at this
        simp [loadVar, run_isAgg hu, hk, run_load, this]
    generalize a.eval = ρ at h1 ⊢
    simp [execOp, ho, Instr.loadAt, Instr.sureAddr, h1, hl]

theorem SimG.storeF (h : SimG w0 U0 nt s a w D hv) {n q : Nat} (hbn : BN n) (hob : look s (100000 + n) = some .obj) (hq : q < 100) {av0 av : AV} (h0 : look s (fKey n q) = some av0) (hsz : av.sz = av0.sz) (hz0 : 0 < av.sz) {v : Value} (hav : AVRep (Us w0 U0 D) w hv (LiveN s) av v) (hvs : v.cells.size = av.sz) :
    ∃ g ys zs us ty, blkOf (hv (100000 + n)) = g ∧ w.heap[g]? = some (.cells (ys ++ zs ++ us).toArray ty (0, 0)) ∧ ys.length = q ∧ zs.length = av.sz ∧ SimG w0 U0 nt ((fKey n q, av) :: s) a (w.setRow g (ys ++ v.cells.toList ++ us).toArray) D hv := by
  obtain ⟨g, xs, ty, e1, e2, e3⟩ := h.obj9 hob hbn
  have hgb : hb (hv (100000 + n)) = some g := by rw [e1]; rfl
  obtain ⟨v0, f1, f2, f3⟩ := h.fld n q av0 h0 hq hob hbn
  obtain ⟨hmn, hlt, hD⟩ := h.blk (100000 + n) _ g hob (bn_okey hbn) (by simp) hgb
  have hD' : ∀ o, ¬ D g o := fun o => hD o fun e => by cases e
  have hqz : q + av.sz ≤ xs.size := by
    have := f3 (av.sz - 1) (by rw [f2, ← hsz]; omega)
    rw [e2] at this
    simp only [World.cell?, e3] at this
    rw [Array.getElem?_eq_getElem (xs := v0.cells) (by rw [f2, ← hsz]; omega)] at this
    have h2 := (Array.getElem?_eq_some_iff.1 (by simpa using this)).1
    omega
  obtain ⟨ys, hys⟩ : ∃ ys, ys = xs.toList.take q := ⟨_, rfl⟩
  obtain ⟨zs, hzs⟩ : ∃ zs, zs = (xs.toList.drop q).take av.sz := ⟨_, rfl⟩
  obtain ⟨us, hus⟩ : ∃ us, us = (xs.toList.drop q).drop av.sz := ⟨_, rfl⟩
  have hxs : xs.toList = ys ++ zs ++ us := by rw [hys, hzs, hus, List.append_assoc, List.take_append_drop, List.take_append_drop]
  have hyl : ys.length = q := by rw [hys]; simp; omega
  have hzl : zs.length = av.sz := by rw [hzs]; simp; omega
  have hvl : v.cells.toList.length = av.sz := by simpa using hvs
  have hx' : w.heap[g]? = some (.cells (ys ++ zs ++ us).toArray ty (0, 0)) := by rw [← hxs, Array.toArray_toList]; exact e3
  refine ⟨g, ys, zs, us, ty, e2, hx', hyl, hzl, ?_⟩
  obtain ⟨w', hw'⟩ : ∃ w', w' = w.setRow g (ys ++ v.cells.toList ++ us).toArray := ⟨_, rfl⟩
  rw [← hw']
  have hoth : ∀ k, k ≠ g → w'.heap[k]? = w.heap[k]? := fun k hk => by rw [hw']; exact setRow_other w g k _ hk
  have hnew : w'.heap[g]? = some (.cells (ys ++ v.cells.toList ++ us).toArray ty (0, 0)) := by rw [hw']; exact setRow_heap w _ _ _ _ _ hx'
  have hkeep : ∀ b o u, Us w0 U0 D b o → w.cell? ⟨b, o, none⟩ = some u → Us w0 U0 D b o ∧ w'.cell? ⟨b, o, none⟩ = some u := fun b o u hu hc => by
    refine ⟨hu, ?_⟩
    rw [hw', cell_setRow_other]
    · exact hc
    · exact us_ne hu hmn (hD' o)
  -- cells of the box outside the field
  have hout : ∀ i, i < q ∨ q + av.sz ≤ i → w'.cell? ⟨g, i, none⟩ = w.cell? ⟨g, i, none⟩ := fun i hi => by
    simp only [World.cell?, hnew, hx']
    simp only [Option.isSome_none, Bool.false_eq_true, if_false, List.getElem?_toArray]
    rcases hi with hi | hi
    · rw [List.append_assoc, List.append_assoc, List.getElem?_append_left (by omega), List.getElem?_append_left (by omega)]
    · rw [List.getElem?_append_right (by simp only [List.length_append]; omega), List.getElem?_append_right (by simp only [List.length_append]; omega)]
      simp only [List.length_append, hvl, hzl]
  have hfk : ∀ {m o : Nat}, o < 100 → fKey m o = fKey n q → m = n ∧ o = q := fun {m o} ho e => by unfold fKey at e; omega
  have hlk : ∀ {k}, k ≠ fKey n q → look ((fKey n q, av) :: s) k = look s k := fun {k} hk => lN (Ne.symm hk)
  have hl : ∀ m e, Live ((fKey n q, av) :: s) m e ↔ Live s m e := fun m e => by
    unfold Live
    constructor
    · rintro ⟨g1, g2⟩; rw [hlk (by unfold fKey; omega)] at g1; exact ⟨g1, g2⟩
    · rintro ⟨g1, g2⟩; exact ⟨by rw [hlk (by unfold fKey; omega)]; exact g1, g2⟩
  have hl2 : LiveN ((fKey n q, av) :: s) = LiveN s := by funext k; simp only [LiveN, hl]
  have hsize : w'.heap.size = w.heap.size := by rw [hw', setRow_size]
  refine ⟨⟨?_, ?_, ?_, by rw [hsize]; exact h.below.size, fun k hk hkx => ?_⟩, h.dfr, h.size, fun d av' g1 g2 => ?_, fun m o av' g1 g2 g3 g4 => ?_, fun m o o' av1 av2 g1 g2 g3 g4 g5 => ?_, fun k av' g1 g2 => ?_, fun k av' g' g1 g2 g3 g4 => ?_, fun k k' av1 av2 g' g1 g2 g3 g4 => ?_, h.fix, fun b o hd => by rw [hsize]; exact h.dlt b o hd⟩
  · rw [hw']; exact h.below.os
  · rw [hw']; exact h.below.tape
  · rw [hw']; exact h.below.output
  · rw [hoth k]
    · exact h.below.block k hk hkx
    · rintro rfl
      rcases hmn with h1 | h1
      · omega
      · exact hkx h1.2
  · rw [hlk (by unfold fKey; omega)] at g1
    rw [hl2]
    obtain ⟨u, g3, g4⟩ := h.slot d av' g1 g2
    exact ⟨u, g3, g4.keep hkeep⟩
  · rw [hlk (by unfold fKey BN at *; omega)] at g3
    rw [hl2]
    by_cases e : fKey m o = fKey n q
    · obtain ⟨rfl, rfl⟩ := hfk g2 e
      rw [lS] at g1
      cases g1
      refine ⟨v, hav.keep hkeep, hvs, fun i hi => ?_⟩
      rw [e2]
      simp only [World.cell?, hnew]
      simp only [Option.isSome_none, Bool.false_eq_true, if_false, List.getElem?_toArray]
      rw [List.append_assoc, List.getElem?_append_right (by omega), hyl, show o + i - o = i by omega, List.getElem?_append_left (by omega)]
      simp
    · rw [hlk e] at g1
      obtain ⟨u, k1, k2, k3⟩ := h.fld m o av' g1 g2 g3 g4
      refine ⟨u, k1.keep hkeep, k2, fun i hi => ?_⟩
      by_cases em : m = n
      · subst em
        have ho : o ≠ q := fun e3 => e (by rw [e3])
        rw [e2]
        have k4 := k3 i hi
        rw [e2] at k4
        rw [hout]
        · exact k4
        · rcases Nat.lt_or_ge o q with h3 | h3
          · have := h.fdis m o q av' av0 g1 h0 g2 hq h3
            rw [k2] at hi
            omega
          · have := h.fdis m q o av0 av' h0 g1 hq g2 (by omega)
            omega
      · obtain ⟨g2', _, _, c1, c2, c3⟩ := h.obj9 g3 g4
        have hne : g2' ≠ g := fun e3 => h.disj (100000 + n) (100000 + m) _ _ g hob g3 (bn_okey hbn) (bn_okey g4) (by simp) (by simp) (by omega) hgb (by rw [c1, e3]; rfl)
        rw [c2]
        have k4 := k3 i hi
        rw [c2] at k4
        rw [World.cell?_of_block (w := w) (hoth g2' hne)]
        exact k4
  · have conv : ∀ {o : Nat} {aq : AV}, o < 100 → look ((fKey n q, av) :: s) (fKey m o) = some aq → ∃ aq', look s (fKey m o) = some aq' ∧ aq'.sz = aq.sz := fun {o aq} ho g6 => by
      by_cases e : fKey m o = fKey n q
      · rw [e, lS] at g6
        cases g6
        exact ⟨av0, by rw [e]; exact h0, hsz.symm⟩
      · rw [hlk e] at g6; exact ⟨aq, g6, rfl⟩
    obtain ⟨b1, c1, c2⟩ := conv g3 g1
    obtain ⟨b2, c3, c4⟩ := conv g4 g2
    rw [← c2]
    exact h.fdis m o o' b1 b2 c1 c3 g3 g4 g5
  · have g2' := g2
    unfold oKey at g2'
    rw [hlk (by unfold fKey; omega)] at g1
    rw [hl2]
    by_cases e : k = 100000 + n
    · subst e
      rw [hob] at g1
      cases g1
      exact ⟨g, _, ty, e1, hnew⟩
    · by_cases h7 : av'.t = 7
      · exact oc_no h7
      · exact (h.obj k av' g1 g2).move hkeep (fun _ hx => ⟨hx, rfl⟩) fun g' hg' => hoth g' fun e3 => h.disj (100000 + n) k _ av' g hob g1 (bn_okey hbn) g2 (by simp) h7 (Ne.symm e) hgb (e3 ▸ hg')
  · have g2' := g2
    unfold oKey at g2'
    rw [hlk (by unfold fKey; omega)] at g1
    rw [hsize]
    exact h.blk k av' g' g1 g2 g3 g4
  · have g3' := g3
    have g4' := g4
    unfold oKey at g3' g4'
    rw [hlk (by unfold fKey; omega)] at g1 g2
    exact h.disj k k' av1 av2 g' g1 g2 g3 g4

theorem a_store_fld (hg : Gd w0 U0 nt ops o gs S) (hd : o.dst = none) {x y : Operand} {ty : TypeId} {z n q : Nat} {p : List Nat} {k' v' l'} {av0 av : AV} (ho : o.op = .store ty x y) (hi : (P.info? ty).map (·.size) = some z) (hx : ev S x = some ⟨2, ⟨k', v', l'⟩, n, q, p⟩) (hb : S (100000 + n) = some .obj) (hf : S (fKey n q) = some av0) (hy : ev S y = some av) (hq : Nat.blt q 100 = true) (hz : av.sz = z) (hz0 : av0.sz = z) (hzp : Nat.blt 0 z = true) (ht : fldB av = true) : AOp P w0 U0 nt ops o (gs ++ (rd x ++ (rd y ++ [100000 + n, fKey n q]))) [] S [(fKey n q, av)] := by
  intro s hs hN a w ⟨D, hv, h⟩ Q K hK
  rw [if_pos (hg s (fun k hk => hs k (List.mem_append_left _ hk)) a w D hv h)]
  obtain ⟨hbn, h1⟩ : BN n ∧ a.eval x = .pointer (some ⟨blkOf (hv (100000 + n)), q, none⟩) := ev_rep h (fun k hk => hs k (List.mem_append_right _ (List.mem_append_left _ hk))) hx
  have h2 := ev_rep h (fun k hk => hs k (List.mem_append_right _ (List.mem_append_right _ (List.mem_append_left _ hk)))) hy
  have hcs : (a.eval y).cells.size = av.sz ∧ ∀ u ∈ (a.eval y).cells.toList, u.oneCell' = true := by
    by_cases ht0 : av.t = 0
    · have h3 := h2
      unfold AVRep at h3
      rw [if_pos ht0] at h3
      refine ⟨?_, h3.1.cells.one⟩
      have := h3.1.cells.len
      unfold AV.sz
      rw [ht0]
      simpa using this
    · obtain ⟨g1, g2⟩ := fld_one h2 ht ht0
      rw [g1]
      refine ⟨?_, by simpa using g2⟩
      unfold AV.sz
      rw [beq_ne ht0]
      rfl
  obtain ⟨g, ys, zs, us, t, e1, e2, e3, e4, e5⟩ := h.storeF hbn ((hs (100000 + n) (by simp)).trans hb) (bL hq) ((hs (fKey n q) (by simp)).trans hf) (hz.trans hz0.symm) (by rw [hz]; exact bL hzp) h2 hcs.1
  rw [e1] at h1
  have hcl : (a.eval y).cells.toList.length = av.sz := by simpa using hcs.1
  have hrun := run_storeTree (P := P) hi e2 e3 (v := a.eval y) rfl (by rw [hcl, e4]) (by rw [hcl, hz]) hcs.2
  have he : (execOp a.eval o).run P w = .ok .skip (w.setRow g (ys ++ (a.eval y).cells.toList ++ us).toArray) := by
    generalize a.eval = ρ at h1 hrun ⊢
    simp [execOp, ho, Instr.storeAt, Instr.sureAddr, h1, hrun]
  unfold Oper.wp
  rw [he, Oper.upon_skip, hd]
  exact hK _ _ ⟨_, _, e5⟩

theorem SimG.addF (h : SimG w0 U0 nt s a w D hv) {n q : Nat} (hbn : BN n) (hob : look s (100000 + n) = some .obj) (hq : q < 100) {av : AV} {v : Value} (hav : AVRep (Us w0 U0 D) w hv (LiveN s) av v) (hvs : v.cells.size = av.sz) (hc : ∀ i, i < v.cells.size → w.cell? ⟨blkOf (hv (100000 + n)), q + i, none⟩ = v.cells[i]?) (ho : ∀ o av', look s (fKey n o) = some av' → o < 100 → q + av.sz ≤ o) : SimG w0 U0 nt ((fKey n q, av) :: s) a w D hv := by
  have hfk : ∀ {m o : Nat}, o < 100 → fKey m o = fKey n q → m = n ∧ o = q := fun {m o} ho e => by unfold fKey at e; omega
  have hlk : ∀ {k}, k ≠ fKey n q → look ((fKey n q, av) :: s) k = look s k := fun {k} hk => lN (Ne.symm hk)
  have hl : ∀ m e, Live ((fKey n q, av) :: s) m e ↔ Live s m e := fun m e => by
    unfold Live
    constructor
    · rintro ⟨g1, g2⟩; rw [hlk (by unfold fKey; omega)] at g1; exact ⟨g1, g2⟩
    · rintro ⟨g1, g2⟩; exact ⟨by rw [hlk (by unfold fKey; omega)]; exact g1, g2⟩
  have hl2 : LiveN ((fKey n q, av) :: s) = LiveN s := by funext k; simp only [LiveN, hl]
  refine ⟨h.below, h.dfr, h.size, fun d av' g1 g2 => ?_, fun m o av' g1 g2 g3 g4 => ?_, fun m o o' av1 av2 g1 g2 g3 g4 g5 => ?_, fun k av' g1 g2 => ?_, fun k av' g' g1 g2 g3 g4 => ?_, fun k k' av1 av2 g' g1 g2 g3 g4 => ?_, h.fix, h.dlt⟩
  · rw [hlk (by unfold fKey; omega)] at g1
    rw [hl2]
    exact h.slot d av' g1 g2
  · rw [hlk (by unfold fKey BN at *; omega)] at g3
    rw [hl2]
    by_cases e : fKey m o = fKey n q
    · obtain ⟨rfl, rfl⟩ := hfk g2 e
      rw [lS] at g1
      cases g1
      exact ⟨v, hav, hvs, hc⟩
    · rw [hlk e] at g1
      exact h.fld m o av' g1 g2 g3 g4
  · by_cases e1 : fKey m o = fKey n q
    · obtain ⟨rfl, rfl⟩ := hfk g3 e1
      rw [lS] at g1
      cases g1
      rw [hlk (by unfold fKey; omega)] at g2
      exact ho o' av2 g2 g4
    · rw [hlk e1] at g1
      by_cases e2 : fKey m o' = fKey n q
      · obtain ⟨rfl, rfl⟩ := hfk g4 e2
        have := ho o av1 g1 g3
        omega
      · rw [hlk e2] at g2
        exact h.fdis m o o' av1 av2 g1 g2 g3 g4 g5
  · have g2' := g2
    unfold oKey at g2'
    rw [hlk (by unfold fKey; omega)] at g1
    rw [hl2]
    exact h.obj k av' g1 g2
  · have g2' := g2
    unfold oKey at g2'
    rw [hlk (by unfold fKey; omega)] at g1
    exact h.blk k av' g' g1 g2 g3 g4
  · have g3' := g3
    have g4' := g4
    unfold oKey at g3' g4'
    rw [hlk (by unfold fKey; omega)] at g1 g2
    exact h.disj k k' av1 av2 g' g1 g2 g3 g4

def zeroAV (c : CV) : AV := ⟨0, c, match isNilC c with | true => 1 | false => 0, 0, []⟩
noncomputable def fldsA (d : Nat) : List CV → Nat → AS
  | [], _ => []
  | c :: cs, o => (fKey d o, zeroAV c) :: fldsA d cs (o + c.size)
theorem look_fldsA {d : Nat} : ∀ {cs : List CV} {o k : Nat} {av : AV}, look (fldsA d cs o) k = some av → ∃ o', o ≤ o' ∧ k = fKey d o'
  | [], _, _, _, h => by simp [fldsA, look] at h
  | c :: cs, o, k, av, h => by
    rw [fldsA, look_cons] at h
    split at h
    · rename_i e; exact ⟨o, Nat.le_refl _, e.symm⟩
    · obtain ⟨o', h1, h2⟩ := look_fldsA h
      exact ⟨o', by omega, h2⟩
theorem vrep_of_rep {U : Nat → Nat → Prop} {c : CV} {xs : List Value} (h : Rep U w c xs) : ∃ v, VRep U w c v ∧ v.cells.toList = xs := by
  by_cases hk : c.k = 2
  · exact ⟨.agg xs.toArray, by unfold VRep; rw [if_pos hk]; exact ⟨xs, rfl, h⟩, by simp [Value.cells]⟩
  · have h1 : c.size = 1 := by cases c with | mk k v l => rw [CV.size_mk, if_neg hk]
    have hl := h.len
    rw [h1] at hl
    match xs, hl with
    | [v], _ =>
      refine ⟨v, by unfold VRep; rw [if_neg hk]; exact h, ?_⟩
      rw [one_cells (h.one v (by simp))]
theorem SimG.addFs (h : SimG w0 U0 nt s a w D hv) {n : Nat} (hbn : BN n) (hob : look s (100000 + n) = some .obj) (hno : ∀ o av, look s (fKey n o) = some av → o < 100 → False) {g : Nat} (hgv : blkOf (hv (100000 + n)) = g) : ∀ {cs : List CV} {segs : List (List Value)} {o : Nat}, cs.length = segs.length → (∀ (i : Nat) (c : CV), cs[i]? = some c → ∃ seg, segs[i]? = some seg ∧ Rep (Us w0 U0 D) w c seg ∧ (isNilC c = true → seg = [.slice none 0 0])) → (∀ i, i < segs.flatten.length → w.cell? ⟨g, o + i, none⟩ = segs.flatten[i]?) → (∀ c ∈ cs, 0 < c.size) → o + segs.flatten.length ≤ 100 → SimG w0 U0 nt (fldsA n cs o ++ s) a w D hv
  | [], _, _, _, _, _, _, _ => h
  | c :: cs, [], _, hl, _, _, _, _ => by simp at hl
  | c :: cs, seg :: segs, o, hl, hr, hc, hp, h100 => by
    obtain ⟨seg', e1, e2, e3⟩ := hr 0 c rfl
    simp at e1
    subst e1
    have hsl := e2.len
    have hcp := hp c (by simp)
    rw [List.flatten_cons] at hc h100
    rw [List.length_append] at h100
    have ih := h.addFs hbn hob hno hgv (cs := cs) (segs := segs) (o := o + c.size) (by simpa using hl) (fun i c' hi => hr (i + 1) c' (by simpa using hi)) (fun i hi => by
      have := hc (seg.length + i) (by rw [List.length_append]; omega)
      rw [List.getElem?_append_right (by omega), show seg.length + i - seg.length = i by omega] at this
      rw [← this, hsl, Nat.add_assoc]) (fun c' hc' => hp c' (List.mem_cons_of_mem _ hc')) (by omega)
    obtain ⟨v, g1, g2⟩ := vrep_of_rep e2
    have hnk : ∀ {k}, 100000 ≤ k → k < 500000 → look (fldsA n cs (o + c.size) ++ s) k = look s k := fun {k} h1 h2 => by
      rw [look_append]
      cases e : look (fldsA n cs (o + c.size)) k with
      | none => rfl
      | some av => obtain ⟨o', _, rfl⟩ := look_fldsA e; unfold fKey at h2; omega
    have hbk := bn_okey hbn
    unfold oKey at hbk
    refine ih.addF hbn (by rw [hnk hbk.1 hbk.2]; exact hob) (by omega) (v := v) ⟨g1, fun hlv => ?_⟩ ?_ ?_ ?_
    · refine ⟨0, c, at_nil c, ?_⟩
      show v.cells.toList[0]? = some (tokv hv (zeroAV c).n)
      unfold zeroAV at hlv ⊢
      cases hnil : isNilC c with
      | true =>
        rw [g2, e3 hnil]; rfl
      | false => rw [hnil] at hlv; exact absurd hlv not_live0
    · rw [← Array.length_toList, g2, hsl]; rfl
    · intro i hi
      have hi' : i < seg.length := by rw [← g2]; simpa using hi
      have := hc i (by rw [List.length_append]; omega)
      rw [List.getElem?_append_left hi', ← g2, Array.getElem?_toList] at this
      rw [hgv]; exact this
    · intro o' av' h1 h2
      rw [look_append] at h1
      cases e : look (fldsA n cs (o + c.size)) (fKey n o') with
      | none => rw [e] at h1; exact (hno o' av' h1 h2).elim
      | some av =>
        obtain ⟨o2, h3, h4⟩ := look_fldsA e
        unfold fKey at h4
        show o + c.size ≤ o'
        omega

end
end Go.Proofs.YteegmcfobgpemaaGreat
namespace Go.Proofs.YteegmcfobgpemaaGreat
open Go.RowKit Go.MapKept
set_option linter.unusedVariables false
set_option linter.unusedSimpArgs false
section
variable {P : Program} {w0 : World} {U0 : UX} {nt : Nat} {ops : Array Oper} {o : Oper} {S : Nat → Option AV} {gs : List Nat} {d : Nat} {s : AS} {a : Act} {w : World} {D : Nat → Nat → Prop} {hv : Nat → Value}

theorem SimG.upd (h : SimG w0 U0 nt s a w D hv) {k0 : Nat} (h5 : oKey k0) {av0 av : AV} (h0 : look s k0 = some av0) (ht0 : av0.t ≠ 7) (hobj : av0.t ≠ 9) (ht : av.t = av0.t) (hnd : ∀ g, NoD D av0 (hv k0) g → NoD D av (hv k0) g) (ht6 : av.t ≠ 6) {g : Nat} (hg : hb (hv k0) = some g) {w' : World} (hos : w'.os = w.os) (htp : w'.tape = w.tape) (hou : w'.output = w.output) (hsize : w'.heap.size = w.heap.size) (hoth : ∀ k, k ≠ g → w'.heap[k]? = w.heap[k]?) (hoc : (∀ b o v, Us w0 U0 D b o → w.cell? ⟨b, o, none⟩ = some v → Us w0 U0 D b o ∧ w'.cell? ⟨b, o, none⟩ = some v) → OC (Us w0 U0 D) w' hv (LiveN s) av (hv k0)) :
    SimG w0 U0 nt ((k0, av) :: s) a w' D hv := by
  obtain ⟨hbase, hlt0, hD⟩ := h.blk k0 av0 g h0 h5 ht0 hg
  have h5' := h5
  unfold oKey at h5'
  have ht6' : av0.t ≠ 6 := by rw [← ht]; exact ht6
  have hD' : ∀ o, ¬ D g o := fun o => hD o fun e => absurd e ht6'
  have hne9 : av ≠ .obj := fun e => hobj (by rw [← ht, e])
  have hne90 : av0 ≠ .obj := fun e => hobj (by rw [e])
  have hl : ∀ n e, Live ((k0, av) :: s) n e ↔ Live s n e := fun n e => by
    unfold Live
    by_cases e1 : k0 = n
    · subst e1
      rw [lS, h0]
      constructor
      · rintro ⟨h1, _⟩; cases h1; exact absurd rfl ht6
      · rintro ⟨h1, _⟩; cases h1; exact absurd rfl ht6'
    · rw [lN e1]
  have hl2 : LiveN ((k0, av) :: s) = LiveN s := by funext k; simp only [LiveN, hl]
  have hkeep : ∀ b o v, Us w0 U0 D b o → w.cell? ⟨b, o, none⟩ = some v → Us w0 U0 D b o ∧ w'.cell? ⟨b, o, none⟩ = some v := fun b o v hu hc => by
    refine ⟨hu, ?_⟩
    rw [World.cell?_of_block (w := w) (hoth b (us_ne hu hbase (hD' o)))]
    exact hc
  refine ⟨⟨hos.trans h.below.os, htp.trans h.below.tape, hou.trans h.below.output, by rw [hsize]; exact h.below.size, fun k hk hkx => ?_⟩, h.dfr, h.size, fun d av' h1 h2 => ?_, fun n o av' h1 h2 h3 h10 => ?_, fun n o o' av1 av2 h1 h2 => ?_, fun k av' h1 h2 => ?_, fun k av' g' h1 h2 h3 h4 => ?_, fun k k' av1 av2 g' h1 h2 h3 h4 h6 h7 hne => ?_, h.fix, fun b o hd => ?_⟩
  · rw [hoth k]
    · exact h.below.block k hk hkx
    · rintro rfl
      rcases hbase with h1 | h1
      · omega
      · exact hkx h1.2
  · rw [lN (by omega)] at h1
    rw [hl2]
    obtain ⟨v, h3, h4⟩ := h.slot d av' h1 h2
    exact ⟨v, h3, h4.keep hkeep⟩
  · rw [lN (by unfold fKey; omega)] at h1
    have hne : k0 ≠ 100000 + n := fun e => by subst e; rw [lS] at h3; cases h3; exact hne9 rfl
    rw [lN hne] at h3
    rw [hl2]
    obtain ⟨v, h4, h6, h7⟩ := h.fld n o av' h1 h2 h3 h10
    refine ⟨v, h4.keep hkeep, h6, fun i hi => ?_⟩
    have hng : blkOf (hv (100000 + n)) ≠ g := by
      rintro e
      obtain ⟨g2, ys, ty2, e1, e2, e3⟩ := h.obj9 h3 h10
      have : hb (hv (100000 + n)) = some g := by rw [e1]; rw [e2] at e; rw [← e]; rfl
      exact h.disj k0 (100000 + n) av0 _ g h0 h3 h5 (bn_okey h10) ht0 (by simp) hne hg this
    rw [World.cell?_of_block (w := w) (hoth _ hng)]
    exact h7 i hi
  · rw [lN (by unfold fKey; omega)] at h1 h2
    exact h.fdis n o o' av1 av2 h1 h2
  · rw [hl2]
    by_cases e : k0 = k
    · subst e
      rw [lS] at h1
      cases h1
      exact hoc hkeep
    · rw [lN e] at h1
      by_cases h7 : av'.t = 7
      · exact oc_no h7
      · exact (h.obj k av' h1 h2).move hkeep (fun _ hl => ⟨hl, rfl⟩) fun g' hg' => hoth g' fun e2 => h.disj k0 k av0 av' g h0 h1 h5 h2 ht0 h7 e hg (e2 ▸ hg')
  · rw [hsize]
    by_cases e : k0 = k
    · subst e
      rw [lS] at h1
      cases h1
      obtain ⟨g1, g2, g3⟩ := h.blk k0 av0 g' h0 h5 ht0 h4
      exact ⟨by rw [lcl_eq ht]; exact g1, g2, hnd g' g3⟩
    · rw [lN e] at h1
      exact h.blk k av' g' h1 h2 h3 h4
  · have conv : ∀ q (aq : AV), look ((k0, av) :: s) q = some aq → aq.t ≠ 7 → ∃ aq', look s q = some aq' ∧ aq'.t ≠ 7 := fun q aq h8 h9 => by
      by_cases e : k0 = q
      · exact ⟨av0, by rw [← e]; exact h0, ht0⟩
      · rw [lN e] at h8; exact ⟨aq, h8, h9⟩
    obtain ⟨a1, b1, c1⟩ := conv k av1 h1 h6
    obtain ⟨a2, b2, c2⟩ := conv k' av2 h2 h7
    exact h.disj k k' a1 a2 g' b1 b2 h3 h4 c1 c2 hne
  · rw [hsize]; exact h.dlt b o hd


theorem a_mkmap (nn : Nat) (hg : Gd w0 U0 nt ops o gs S) (hd : o.dst = some d) (hn : Nat.blt d nt = true) (h5 : Nat.blt d 100000 = true) {t : TypeId} (ho : o.op = .makeMap t none) (hn2 : (Nat.ble 200000 nn && Nat.blt nn 400000) = true) : AOp P w0 U0 nt ops o gs [(nn, [])] S [(d, .mref nn), (nn, .mp [])] := by
  intro s hs hN a w ⟨D, hv, h⟩ Q K hK
  rw [if_pos (hg s hs a w D hv h)]
  have hrn := rnB hn2
  have he : (execOp a.eval o).run P w = .ok (.value (.map (some w.heap.size))) (w.alloc (.map #[] 0)) := by
    simp [execOp, ho, Instr.makeMap, run_newObj_alloc]
  unfold Oper.wp
  rw [he, Oper.upon_value, hd]
  have hb' : Below w.heap.size w (w.alloc (.map #[] 0)) := (Below.refl _ _).alloc (Nat.le_refl _) _
  have hG := h.newrow (X := fun _ => False) (avn := .mp []) (v' := .map (some w.heap.size)) (D' := D) hrn (hN (nn, []) (by simp)).nr (by simp) ((BelowX.refl _ w).step hb') (fun b hb => hb.elim) (fun g hg => by
      have hg : some w.heap.size = some g := hg
      cases hg
      refine ⟨.inr (Nat.le_refl _), by simp, fun o _ hd => ?_⟩
      have := h.dlt _ _ hd
      omega) (fun b o hd => .inl hd) (fun b o hd => Nat.lt_of_lt_of_le (h.dlt _ _ hd) hb'.size) (us_keep h.dlt hb' fun _ _ h => h) (fun hv lv => ⟨w.heap.size, #[], 0, rfl, alloc_new _ _, rfl, by simp, by simp⟩)
  refine hK _ _ ⟨_, _, hG.put (bL hn) (bL h5) ⟨RW.rn hrn, ?_, rfl⟩⟩
  simp

theorem ents_at {U : Nat → Nat → Prop} : ∀ {l : List CV} {es : List MapEntry} {j : Nat} {c : CV}, Ents U w l es → l[j]? = some c → ∃ e, es[j]? = some e ∧ Ent U w c e
  | [], _, _, _, _, h => by simp at h
  | x :: l, es, 0, c, ⟨e, es', h1, h2, h3⟩, h => by simp at h; subst h; exact ⟨e, by rw [h1]; rfl, h2⟩
  | x :: l, es, j + 1, c, ⟨e, es', h1, h2, h3⟩, h => by
    obtain ⟨e', g1, g2⟩ := ents_at h3 (j := j) (c := c) (by simpa using h)
    exact ⟨e', by rw [h1]; simpa using g1, g2⟩
theorem ents_len {U : Nat → Nat → Prop} : ∀ {l : List CV} {es : List MapEntry}, Ents U w l es → es.length = l.length
  | [], _, h => by have h : _ = [] := h; rw [h]; rfl
  | x :: l, es, ⟨e, es', h1, h2, h3⟩ => by rw [h1, List.length_cons, List.length_cons, ents_len h3]
def IntKeys (k : IntKind) (l : List CV) : Prop := ∀ r ∈ l, ∃ i c, r = .row [.sc (.int k i), c]
def lookR (k : IntKind) (i : Int) : List CV → Option CV
  | [] => none
  | ⟨_, _, [⟨_, .int k' j, _⟩, c]⟩ :: l => if k' = k ∧ j = i then some c else lookR k i l
  | _ :: l => lookR k i l
theorem lookR_row {k : IntKind} {i j : Int} {c : CV} {l : List CV} : lookR k i (.row [.sc (.int k j), c] :: l) = if j = i then some c else lookR k i l := by
  rw [lookR]; simp
theorem find_spec {U : Nat → Nat → Prop} {k : IntKind} {i : Int} : ∀ {l : List CV} {es : List MapEntry} (n : Nat), Ents U w l es → IntKeys k l →
    (Instr.findNow (.int k) (.int k i) es n = some none ∧ lookR k i l = none) ∨ ∃ j e c, Instr.findNow (.int k) (.int k i) es n = some (some (n + j, e.val)) ∧ es[j]? = some e ∧ l[j]? = some (.row [.sc (.int k i), c]) ∧ VRep U w c e.val ∧ e.key = .int k i ∧ lookR k i l = some c
  | [], es, n, h, _ => by have h : es = [] := h; subst h; exact .inl ⟨rfl, rfl⟩
  | r :: l, es, n, ⟨e, es', h1, ⟨k1, c1, g2, g3, g4, g5⟩, h3⟩, hk => by
    obtain ⟨j0, c0, e1⟩ := hk r (by simp)
    rw [e1] at g2
    injection g2 with _ _ g6
    injection g6 with g6 g7
    injection g7 with g7 _
    subst g7
    have hkey : e.key = .int k j0 := by rw [g4, ← g6]
    subst h1
    rw [e1, lookR_row]
    by_cases hj : j0 = i
    · subst hj
      right
      refine ⟨0, e, c0, ?_, rfl, rfl, g5, hkey, by rw [if_pos rfl]⟩
      simp [Instr.findNow, Instr.sameNow, hkey]
    · rw [if_neg hj]
      have hs : Instr.sameNow (.int k) (.int k i) e.key = some false := by
        rw [hkey]
        simp [Instr.sameNow]
        exact fun h => hj h.symm
      rcases find_spec (n + 1) h3 (fun x hx => hk x (List.mem_cons_of_mem _ hx)) with ⟨f1, f2⟩ | ⟨j, e', c, f1, f2, f3, f4, f5, f6⟩
      · left; exact ⟨by simp [Instr.findNow, hs, f1], f2⟩
      · right
        refine ⟨j + 1, e', c, ?_, by simpa using f2, by simpa using f3, f4, f5, f6⟩
        simp [Instr.findNow, hs, f1]
        omega

theorem a_lookup (hg : Gd w0 U0 nt ops o gs S) (hd : o.dst = some d) (hn : Nat.blt d nt = true) (h5 : Nat.blt d 100000 = true) {x y : Operand} {t kt et : TypeId} {k : IntKind} {i : Int} {n : Nat} {l : List CV} {zc : CV} {n' q' p'} (ho : o.op = .lookup t x y true) (hu : P.underlying t = some (.map kt et)) (huk : P.underlying kt = some (.int k)) (hzc : zeroT P et = some zc) (hx : ev S x = some (.mref n)) (hy : ev S y = some ⟨0, .sc (.int k i), n', q', p'⟩) (hm' : S n = some (.mp l)) (hik : IntKeys k l) (hzr : ∀ U w v, Rep U w zc v.cells.toList → (∃ it, P.info? et = some it ∧ it.zero = some v) → VRep U w zc v) : AOp P w0 U0 nt ops o (gs ++ (rd x ++ (rd y ++ [n]))) [] S [(d, .tup [(lookR k i l).getD zc, .b (lookR k i l).isSome])] :=
  aop_val hg hd hn h5 (fun k hk => List.mem_append_left _ hk) fun s hs a w D hv hm => by
    obtain ⟨hrn, h1, _⟩ : RN n ∧ a.eval x = hv n ∧ (a.eval x).oneCell' = true := ev_rep hm (fun k hk => hs k (List.mem_append_right _ (List.mem_append_left _ hk))) hx
    have e2 := ev_sc hm (fun k hk => hs k (List.mem_append_right _ (List.mem_append_right _ (List.mem_append_left _ hk)))) hy
    have hok : oKey n := by unfold RN at hrn; unfold oKey; omega
    obtain ⟨g, es, clock, g1, g2, g3, g4, g5⟩ : ∃ g es clock, hv n = .map (some g) ∧ w.heap[g]? = some (.map es clock) ∧ Ents (Us w0 U0 D) w l es.toList ∧ (∀ e ∈ es, e.born < clock) ∧ (es.toList.map (fun e : MapEntry => e.born)).Nodup := hm.obj n _ ((hs n (by simp)).trans hm') hok
    obtain ⟨it, zv, i1, i2, i3⟩ := zeroT_spec hzc
    have hck := run_checkKey (P := P) (w := w) huk (k := .int k i) rfl es.isEmpty 9999
    have hge := Go.MapKept.run_getObj_map (P := P) g2
    rcases find_spec 0 g3 hik (i := i) with ⟨f1, f2⟩ | ⟨j, e, c, f1, f2, f3, f4, f5, f6⟩
    · have hfk := run_findKey (P := P) (w := w) huk f1
      have hzv : (zeroValue et).run P w = .ok zv w := by simp [zeroValue, typeInfo, i1, i2]
      refine ⟨.tuple #[zv, .bool false], ?_, ?_⟩
      · rw [g1] at h1
        generalize a.eval = ρ at h1 e2 ⊢
        simp [execOp, ho, Instr.lookup, run_underlying hu, h1, e2, hge, hck, hfk, hzv]
      · rw [f2]
        exact ⟨[zv, .bool false], rfl, zv, [.bool false], rfl, hzr _ _ zv (i3 _ _) ⟨it, i1, i2⟩, .bool false, [], rfl, vrep_sc.2 ⟨rfl, rfl⟩, rfl⟩
    · have hfk := run_findKey (P := P) (w := w) huk f1
      refine ⟨.tuple #[e.val, .bool true], ?_, ?_⟩
      · rw [g1] at h1
        generalize a.eval = ρ at h1 e2 ⊢
        simp [execOp, ho, Instr.lookup, run_underlying hu, h1, e2, hge, hck, hfk]
      · rw [f6]
        exact ⟨[e.val, .bool true], rfl, e.val, [.bool true], rfl, f4, .bool true, [], rfl, vrep_sc.2 ⟨rfl, rfl⟩, rfl⟩

theorem aNc (hg : Gd w0 U0 nt ops o gs S) (hd : o.dst = some d) (hn : Nat.blt d nt = true) (h5 : Nat.blt d 100000 = true) {x : Operand} {n q : Nat} {p : List Nat} {c : CV} (ho : o.op = .nilCheck x) (hx : ev S x = some ⟨2, c, n, q, p⟩) : AOp P w0 U0 nt ops o (gs ++ rd x) [] S [(d, ⟨2, c, n, q, p⟩)] :=
  aop_val hg hd hn h5 (fun k hk => List.mem_append_left _ hk) fun s hs a w D hv hm => by
    obtain ⟨hbn, h1⟩ : BN n ∧ a.eval x = .pointer (some ⟨blkOf (hv (100000 + n)), q, none⟩) := ev_rep hm (fun k hk => hs k (List.mem_append_right _ hk)) hx
    refine ⟨.pointer (some ⟨blkOf (hv (100000 + n)), q, none⟩), ?_, hbn, rfl⟩
    generalize a.eval = ρ at h1 ⊢
    simp [execOp, ho, h1]

def putR (k : IntKind) (i : Int) (c : CV) : List CV → List CV
  | [] => [.row [.sc (.int k i), c]]
  | r :: l => match r with
    | ⟨_, _, [⟨_, .int k' j, _⟩, _]⟩ => if k' = k ∧ j = i then .row [.sc (.int k i), c] :: l else r :: putR k i c l
    | _ => r :: putR k i c l
theorem putR_row {k : IntKind} {i j : Int} {c c' : CV} {l : List CV} : putR k i c (.row [.sc (.int k j), c'] :: l) = if j = i then .row [.sc (.int k i), c] :: l else .row [.sc (.int k j), c'] :: putR k i c l := by
  rw [putR]; simp
theorem putR_spec {k : IntKind} {i : Int} (c : CV) : ∀ {l : List CV}, IntKeys k l → (lookR k i l = none → putR k i c l = l ++ [.row [.sc (.int k i), c]]) ∧ ∀ j c', l[j]? = some (.row [.sc (.int k i), c']) → (∀ j' c'', j' < j → l[j']? ≠ some (.row [.sc (.int k i), c''])) → putR k i c l = l.set j (.row [.sc (.int k i), c])
  | [], _ => ⟨fun _ => rfl, fun j c' h => by simp at h⟩
  | r :: l, hk => by
    obtain ⟨j0, c0, rfl⟩ := hk r (by simp)
    obtain ⟨ih1, ih2⟩ := putR_spec c (l := l) (fun x hx => hk x (List.mem_cons_of_mem _ hx))
    rw [putR_row, lookR_row]
    by_cases hj : j0 = i
    · subst hj
      rw [if_pos rfl, if_pos rfl]
      refine ⟨(fun h => by cases h), fun j c' h hf => ?_⟩
      cases j with
      | zero => rfl
      | succ j => exact absurd rfl (hf 0 c0 (by omega))
    · rw [if_neg hj, if_neg hj]
      refine ⟨fun h => by rw [ih1 h]; rfl, fun j c' h hf => ?_⟩
      cases j with
      | zero =>
        simp at h
        exact absurd h.1 hj
      | succ j =>
        rw [ih2 j c' (by simpa using h) fun j' c'' hlt => by have := hf (j' + 1) c'' (by omega); simpa using this]
        rfl
theorem find_first {U : Nat → Nat → Prop} {k : IntKind} {i : Int} : ∀ {l : List CV} {es : List MapEntry} (n : Nat) {j : Nat} {v : Value}, Ents U w l es → IntKeys k l → Instr.findNow (.int k) (.int k i) es n = some (some (n + j, v)) → ∀ j' c'', j' < j → l[j']? ≠ some (.row [.sc (.int k i), c''])
  | [], es, n, j, v, h, _, hf => by have h : es = [] := h; subst h; cases hf
  | r :: l, es, n, j, v, ⟨e, es', h1, ⟨k1, c1, g2, g3, g4, g5⟩, h3⟩, hk, hf => by
    obtain ⟨j0, c0, e1⟩ := hk r (by simp)
    rw [e1] at g2
    injection g2 with _ _ g6
    injection g6 with g6 g7
    have hkey : e.key = .int k j0 := by rw [g4, ← g6]
    subst h1
    intro j' c'' hlt hr
    by_cases hj : j0 = i
    · subst hj
      simp [Instr.findNow, Instr.sameNow, hkey] at hf
      omega
    · have hs : Instr.sameNow (.int k) (.int k i) e.key = some false := by
        rw [hkey]
        simp [Instr.sameNow]
        exact fun h => hj h.symm
      simp [Instr.findNow, hs] at hf
      cases j' with
      | zero =>
        rw [e1] at hr
        simp at hr
        exact hj hr.1
      | succ j' =>
        obtain ⟨j2, rfl⟩ : ∃ j2, j = j2 + 1 := ⟨j - 1, by omega⟩
        exact find_first (n + 1) (j := j2) h3 (fun x hx => hk x (List.mem_cons_of_mem _ hx)) (by rw [hf]; congr 3; omega) j' c'' (by omega) (by simpa using hr)
theorem ents_set {U : Nat → Nat → Prop} {r : CV} {e' : MapEntry} : ∀ {l : List CV} {es : List MapEntry} {j : Nat}, Ents U w l es → Ent U w r e' → Ents U w (l.set j r) (es.set j e')
  | [], es, j, h, _ => by have h : es = [] := h; subst h; exact rfl
  | x :: l, es, 0, ⟨e, es', h1, h2, h3⟩, hr => by rw [h1]; exact ⟨e', es', rfl, hr, h3⟩
  | x :: l, es, j + 1, ⟨e, es', h1, h2, h3⟩, hr => by rw [h1]; exact ⟨e, es'.set j e', rfl, h2, ents_set h3 hr⟩
theorem ents_snoc {U : Nat → Nat → Prop} {r : CV} {e' : MapEntry} : ∀ {l : List CV} {es : List MapEntry}, Ents U w l es → Ent U w r e' → Ents U w (l ++ [r]) (es ++ [e'])
  | [], es, h, hr => by have h : es = [] := h; subst h; exact ⟨e', [], rfl, hr, rfl⟩
  | x :: l, es, ⟨e, es', h1, h2, h3⟩, hr => by rw [h1]; exact ⟨e, es' ++ [e'], rfl, h2, ents_snoc h3 hr⟩

theorem a_mapup (hg : Gd w0 U0 nt ops o gs S) (hd : o.dst = none) {x y z : Operand} {t kt et : TypeId} {k : IntKind} {i : Int} {n : Nat} {l : List CV} {c : CV} {n' q' p' n2 q2 p2} (ho : o.op = .mapUpdate t x y z) (hu : P.underlying t = some (.map kt et)) (huk : P.underlying kt = some (.int k)) (hx : ev S x = some (.mref n)) (hy : ev S y = some ⟨0, .sc (.int k i), n', q', p'⟩) (hz : ev S z = some ⟨0, c, n2, q2, p2⟩) (hm' : S n = some (.mp l)) (hik : IntKeys k l) : AOp P w0 U0 nt ops o (gs ++ (rd x ++ (rd y ++ (rd z ++ [n])))) [] S [(n, .mp (putR k i c l))] := by
  intro s hs hN a w ⟨D, hv, h⟩ Q K hK
  rw [if_pos (hg s (fun k hk => hs k (List.mem_append_left _ hk)) a w D hv h)]
  have hm := (hs n (by simp)).trans hm'
  obtain ⟨hrn, h1, _⟩ : RN n ∧ a.eval x = hv n ∧ (a.eval x).oneCell' = true := ev_rep h (fun k hk => hs k (List.mem_append_right _ (List.mem_append_left _ hk))) hx
  have e2 := ev_sc h (fun k hk => hs k (List.mem_append_right _ (List.mem_append_right _ (List.mem_append_left _ hk)))) hy
  have e3 := ev_val h (fun k hk => hs k (List.mem_append_right _ (List.mem_append_right _ (List.mem_append_right _ (List.mem_append_left _ hk))))) hz
  have hok : oKey n := by unfold RN at hrn; unfold oKey; omega
  obtain ⟨g, es, clock, g1, g2, g3, g4, g5⟩ : ∃ g es clock, hv n = .map (some g) ∧ w.heap[g]? = some (.map es clock) ∧ Ents (Us w0 U0 D) w l es.toList ∧ (∀ e ∈ es, e.born < clock) ∧ (es.toList.map (fun e : MapEntry => e.born)).Nodup := h.obj n _ hm hok
  have hck := run_checkKey (P := P) (w := w) huk (k := .int k i) rfl false 9999
  have hge := Go.MapKept.run_getObj_map (P := P) g2
  obtain ⟨p1, p2'⟩ := putR_spec (i := i) c hik
  have fin : ∀ (es' : Array MapEntry) (clock' : Nat), (execOp a.eval o).run P w = .ok .skip { w with heap := w.heap.setIfInBounds g (.map es' clock') } → Ents (Us w0 U0 D) w (putR k i c l) es'.toList → (∀ e ∈ es', e.born < clock') → (es'.toList.map (fun e : MapEntry => e.born)).Nodup → o.wp P a w K Q := fun es' clock' he k1 k2 k3 => by
    obtain ⟨q1, q2⟩ := heap_set (o' := Obj.map es' clock') g2
    unfold Oper.wp
    rw [he, Oper.upon_skip, hd]
    refine hK _ _ ⟨_, _, h.upd (av := .mp (putR k i c l)) (g := g) hok hm (by simp) (by simp) rfl (fun g' hn o _ => hn o (by simp)) (by simp) (by rw [g1]; rfl) rfl rfl rfl (by simp) q2 fun hkp => ?_⟩
    exact ⟨g, es', clock', g1, q1, k1.keep hkp, k2, k3⟩
  rcases find_spec 0 g3 hik (i := i) with ⟨f1, f2⟩ | ⟨j, e, c', f1, f2, f3, f4, f5, f6⟩
  · have hfk := run_findKey (P := P) (w := w) huk f1
    refine fin (es.push { key := .int k i, val := a.eval z, born := clock }) (clock + 1) ?_ ?_ ?_ ?_
    · rw [g1] at h1
      have hso := run_setObj_map (P := P) (Obj.map (es.push { key := .int k i, val := a.eval z, born := clock }) (clock + 1)) g2
      generalize a.eval = ρ at h1 e2 hso ⊢
      simp [execOp, ho, Instr.mapUpdate, run_underlying hu, h1, e2, hge, hck, hfk, hso]
    · rw [p1 f2, Array.toList_push]
      exact ents_snoc g3 ⟨.sc (.int k i), c, rfl, rfl, rfl, e3⟩
    · intro e he
      rcases Array.mem_push.1 he with he | rfl
      · have := g4 e he; omega
      · exact Nat.lt_succ_self _
    · rw [Array.toList_push, List.map_append, List.nodup_append]
      refine ⟨g5, by simp, fun a1 h1 b1 h2 => ?_⟩
      simp at h1 h2
      obtain ⟨e, he, rfl⟩ := h1
      have := g4 e he
      omega
  · have hfk := run_findKey (P := P) (w := w) huk f1
    rw [Nat.zero_add] at hfk
    have hjl : j < es.size := by
      have := (List.getElem?_eq_some_iff.1 f2).1
      simpa using this
    have hej : es[j]? = some e := by rw [← Array.getElem?_toList]; exact f2
    have hmod : (es.modify j fun e => { e with key := .int k i, val := a.eval z }).toList = es.toList.set j { e with key := .int k i, val := a.eval z } := by
      rw [Array.toList_modify]
      apply List.ext_getElem?
      intro q
      rw [List.getElem?_modify, List.getElem?_set]
      by_cases hq : j = q
      · subst hq
        have : es[j] = e := (Array.getElem?_eq_some_iff.1 hej).2
        simp [hjl, this]
      · simp [hq]
    have hbr : (es.modify j fun e => { e with key := .int k i, val := a.eval z }).toList.map (fun e : MapEntry => e.born) = es.toList.map (fun e : MapEntry => e.born) := by
      rw [hmod, List.map_set]
      apply List.ext_getElem?
      intro q
      rw [List.getElem?_set]
      by_cases hq : j = q
      · subst hq
        rw [if_pos rfl, if_pos (by simpa using hjl), List.getElem?_map, f2]
        rfl
      · rw [if_neg hq]
    refine fin (es.modify j fun e => { e with key := .int k i, val := a.eval z }) clock ?_ ?_ ?_ ?_
    · rw [g1] at h1
      have hso := run_setObj_map (P := P) (Obj.map (es.modify j fun e => { e with key := .int k i, val := a.eval z }) clock) g2
      have hst : (Instr.keyThatStays (.int k i) (.int k i)).run P w = .ok (.int k i) w := by simp [Instr.keyThatStays, Instr.sameBits]
      generalize a.eval = ρ at h1 e2 hso ⊢
      simp [execOp, ho, Instr.mapUpdate, run_underlying hu, h1, e2, hge, hck, hfk, hej, f5, hst, hso]
    · rw [hmod, p2' j c' f3 (find_first 0 (j := j) g3 hik f1)]
      exact ents_set g3 ⟨.sc (.int k i), c, rfl, rfl, rfl, e3⟩
    · intro e' he
      have h6 : e'.born ∈ (es.modify j fun e => { e with key := .int k i, val := a.eval z }).toList.map (fun e : MapEntry => e.born) := List.mem_map.2 ⟨e', Array.mem_toList_iff.2 he, rfl⟩
      rw [hbr] at h6
      obtain ⟨e4, h7, h8⟩ := List.mem_map.1 h6
      rw [← h8]
      exact g4 e4 (by simpa using h7)
    · rw [hbr]; exact g5
end
end Go.Proofs.YteegmcfobgpemaaGreat
namespace Go.Proofs.YteegmcfobgpemaaGreat
open Go.RowKit
set_option linter.unusedVariables false
set_option linter.unusedSimpArgs false
section
variable {P : Program} {w0 : World} {U0 : UX} {nt : Nat} {ops : Array Oper} {o : Oper} {S : Nat → Option AV} {gs : List Nat} {d : Nat} {s : AS} {a : Act} {w : World} {D : Nat → Nat → Prop} {hv : Nat → Value}
theorem run_eqmap {t k e : TypeId} (hu : P.underlying t = some (.map k e)) (w : World) : (Op.equal t (.map none) (.map none)).run P w = .ok true w := by
  unfold Op.equal
  rw [show Op.maxDepth = 9999 + 1 from rfl, Op.equalIn]
  simp [run_underlying hu]
theorem run_appF {t ty e : TypeId} {z : Value} {size bytes : Nat} (ht : P.underlying t = some (.slice e)) (hi : (P.info? e).map (fun i => (i.zero, i.size, i.bytes)) = some (some z, size, bytes)) (hzs : z.cells.size = size) (hsz : 0 < size)
    {ao1 : Option Addr} {n : Nat} {xs : List Value} {U : Nat → Nat → Prop} (hnil1 : ao1 = none → n = 0) (hb1 : At U w ao1 xs) (hl1 : xs.length = n * size) {ao : Option Addr} {m c : Nat} {ys : List Value} (hnil : ao = none → m = 0) (hb : At U w ao ys) (hl : ys.length = m * size) (h1 : ∀ u ∈ ys, u.oneCell' = true) (hm : 0 < m) (h63 : n + m ≤ maxLen) (hbytes : (n + m) * bytes ≤ 140737488355328) :
    ∃ v' w', Sem.run P (Builtin.append_ #[t, t] ty #[.slice ao1 n n, .slice ao m c]) w = .ok v' w' ∧ w'.ownsRow w.heap.size e size v' (n + m) (xs ++ ys) ∧ w.grownBy w' none := by
  obtain ⟨i, hi1, hi2, hi3, hi4⟩ := info_parts hi
  have hat : ∀ {ad : Addr} {zs : List Value}, At U w (some ad) zs → ∀ j u, zs[j]? = some u → w.cell? (ad.add j) = some u := fun {ad zs} hA j u hj => by
    have hjl : j < zs.length := by
      rcases Nat.lt_or_ge j zs.length with h | h
      · exact h
      · rw [List.getElem?_eq_none h] at hj; cases hj
    rcases hA with rfl | ⟨b, off, ha, hc⟩
    · simp at hjl
    · cases ha
      rw [add_at, (hc j hjl).2, hj]
  cases ao with
  | none => have := hnil rfl; omega
  | some ad =>
    cases ao1 with
    | none =>
      have hn := hnil1 rfl
      subst hn
      have : xs = [] := List.eq_nil_of_length_eq_zero (by simpa using hl1)
      subst this
      obtain ⟨v', w', hr, ho, hg, _⟩ := run_append_own (P := P) w w.heap.size t ty e i z size bytes ht hi1 hi2 hi3 hi4 hzs hsz (.slice none 0 0) 0 [] (World.ownsRow_nil _ _ _ _) ad m c ys hl (hat hb) h1 h63 hbytes (Nat.le_refl _)
      exact ⟨v', w', hr, ho, hg⟩
    | some ad1 => exact run_append_arg_grows (P := P) w t ty e i z size bytes ht hi1 hi2 hi3 hi4 hzs hsz ad1 n n xs hl1 (hat hb1) ad m c ys hl (hat hb) (by omega) h63 hbytes

theorem made_flat (z : List Value) (hz : 0 < z.length) (n : Nat) : (madeCells z.toArray (n * z.length)).toList = (List.replicate n z).flatten := by
  apply List.ext_getElem?
  intro k
  rw [flat_const hz _ (fun v hv => by rw [List.eq_of_mem_replicate hv])]
  have hlen : (madeCells z.toArray (n * z.length)).toList.length = n * z.length := by simp [size_madeCells]
  rcases Nat.lt_or_ge k (n * z.length) with h | h
  · have hd : k / z.length < n := by rw [Nat.div_lt_iff_lt_mul hz]; exact h
    have hm : k % z.length < z.length := Nat.mod_lt _ hz
    rw [List.getElem?_replicate, if_pos hd]
    simp only [Option.bind_some]
    rw [List.getElem?_eq_getElem hm]
    simp [madeCells, h, hm]
  · rw [List.getElem?_eq_none (by omega), List.getElem?_replicate, if_neg]
    · rfl
    · rw [Nat.not_lt, Nat.le_div_iff_mul_le hz]; exact h

theorem a_mkM (nn : Nat) (hg : Gd w0 U0 nt ops o gs S) (hd : o.dst = some d) (hn : Nat.blt d nt = true) (h5 : Nat.blt d 100000 = true) {x y : Operand} {t e size bytes k : Nat} {z : Value} {zc : CV} {i1 i2 : Int} {k1 k2 : IntKind} {n1 q1 p1 n2 q2 p2} (ho : o.op = .makeSlice t x y) (ht : P.underlying t = some (.slice e)) (hi : (P.info? e).map (fun i => (i.zero, i.size, i.bytes)) = some (some z, size, bytes)) (hzc : zeroT P e = some zc) (hzs : Nat.beq z.cells.size size = true) (hzz : zc.size = size) (hsz : Nat.blt 0 size = true) (hbt : Nat.ble bytes 1000 = true)
    (hx : ev S x = some ⟨0, .sc (.int k1 i1), n1, q1, p1⟩) (hy : ev S y = some ⟨0, .sc (.int k2 i2), n2, q2, p2⟩) (hn2 : (Nat.ble 200000 nn && Nat.blt nn 400000) = true) (h1 : i1 = (k : Int)) (h2 : i2 = (k : Int)) (hs1 : Nat.ble size 160 = true) (hbd : k ≤ 100000) :
    AOp P w0 U0 nt ops o (gs ++ (rd x ++ rd y)) [(nn, [])] S [(d, .sl nn 0 k size), (nn, .mrow e size (List.replicate k zc))] := by
  intro s hs hN a w ⟨D, hv, h⟩ Q K hK
  rw [if_pos (hg s (fun k hk => hs k (List.mem_append_left _ hk)) a w D hv h)]
  have e1 := ev_sc h (fun k hk => hs k (List.mem_append_right _ (List.mem_append_left _ hk))) hx
  have e2 := ev_sc h (fun k hk => hs k (List.mem_append_right _ (List.mem_append_right _ hk))) hy
  subst h1
  subst h2
  obtain ⟨i, hi1, hi2, hi3, hi4⟩ := info_parts hi
  have hsz := bL hsz
  have hbt := Nat.le_of_ble_eq_true hbt
  have hzs := Nat.eq_of_beq_eq_true hzs
  have hmul : bytes * k ≤ 1000 * 100000 := Nat.mul_le_mul hbt hbd
  have hk : k * size ≤ 100000 * 160 := Nat.mul_le_mul hbd (Nat.le_of_ble_eq_true hs1)
  obtain ⟨w', r1, r2, r3⟩ := run_makeSlice_full (P := P) (w := w) w.heap.size t e i z size ht hi1 hi2 hi3 k1 k2 k (by omega) (by rw [hi4]; omega) (by unfold maxLen; omega) (Nat.le_refl _)
  have hrn2 := rnB hn2
  obtain ⟨it, z', f1, f2, f3⟩ := zeroT_spec hzc
  rw [hi1] at f1
  cases f1
  rw [hi2] at f2
  cases f2
  have hmf : (madeCells z.cells (k * size)).toList = (List.replicate k z.cells.toList).flatten := by
    have := made_flat z.cells.toList (by simpa [hzs] using hsz) k
    simpa [hzs] using this
  rw [hmf] at r2
  have hkp : ∀ b o u, Us w0 U0 D b o → w.cell? ⟨b, o, none⟩ = some u → Us w0 U0 D b o ∧ w'.cell? ⟨b, o, none⟩ = some u := fun b o u hu hc => by
    refine ⟨hu, ?_⟩
    have hlt : b < w.heap.size := World.block_lt_of_cell? w _ hc
    rw [World.cell?_of_block (w := w) (r3.block b hlt (by simp))]
    exact hc
  have hG := h.newrow (avn := .mrow e size (List.replicate k zc)) (v' := .slice (some ⟨w.heap.size, 0, none⟩) k k) (D' := D) (X := fun _ => False) (n := nn) hrn2 (hN (nn, []) (by simp)).nr (by simp) ⟨r3.os, r3.tape, r3.output, r3.size, fun b hb hx => r3.block b hb (by simp)⟩ (fun b hb => hb.elim) (fun g hg => by
      have hg : (Value.slice (some ⟨w.heap.size, 0, none⟩) k k).ownBlock = some g := hg
      refine ⟨.inr (r2.lt g hg).1, (r2.lt g hg).2, fun o _ hd => ?_⟩
      have := (r2.lt g hg).1
      have := h.dlt _ _ hd
      omega) (fun b o hd => .inl hd) (fun b o hd => Nat.lt_of_lt_of_le (h.dlt _ _ hd) r3.size) hkp (fun hv lv => by
      refine ⟨(List.replicate k z.cells.toList).flatten, ?_, hsz, fun c hc => ?_, sq_repl (f3 _ _) k⟩
      · show w'.ownsRow 0 e size _ (List.replicate k zc).length _
        rw [List.length_replicate]
        exact ownsRow_mono r2 (Nat.zero_le _)
      · rw [List.eq_of_mem_replicate hc]; exact hzz)
  have he : (execOp a.eval o).run P w = .ok (.value (.slice (some ⟨w.heap.size, 0, none⟩) k k)) w' := by
    generalize a.eval = ρ at e1 e2 ⊢
    simp [execOp, ho, e1, e2, r1]
  unfold Oper.wp
  rw [he, Oper.upon_value, hd]
  refine hK _ _ ⟨_, _, hG.put (bL hn) (bL h5) ⟨RW.rn hrn2, ?_⟩⟩
  show SlV ((fun x => if x = nn then Value.slice (some ⟨w.heap.size, 0, none⟩) k k else hv x) nn) 0 k size _
  simp only [if_true]
  exact slV_all rfl (Nat.le_refl _) (.inr ⟨_, rfl⟩)
end
section
variable {P : Program} {w0 : World} {U0 : UX} {nt : Nat} {ops : Array Oper} {o : Oper} {S : Nat → Option AV} {gs : List Nat} {d : Nat} {s : AS} {a : Act} {w : World} {D : Nat → Nat → Prop} {hv : Nat → Value}

theorem a_allocA (sz : List Nat) (hg : Gd w0 U0 nt ops o gs S) (hd : o.dst = some d) (hn : Nat.blt d nt = true) (h5 : Nat.blt d 100000 = true) {ty : TypeId} {it : TypeInfo} {cs : Array Value} {zs : List CV} (ho : o.op = .alloc ty) (hi : P.info? ty = some it) (hz : it.zero = some (.agg cs)) (h0 : zsO sz cs.toList = some zs) : AOp P w0 U0 nt ops o gs [(d, [])] S [(d, .bp d 0 []), (100000 + d, .bx (.row zs))] := by
  intro s hs hN a w ⟨D, hv, h⟩ Q K hK
  rw [if_pos (hg s hs a w D hv h)]
  obtain ⟨segs, e1, e2, e3, e4, e5⟩ := zsO_spec (U := Us w0 U0 D) (w := w) h0
  have hrep : Rep (Us w0 U0 D) w (.row zs) cs.toList := by
    rw [rep_row, ← e1]
    exact sq_of_segs e4 (fun i c hi => by obtain ⟨seg, f1, f2, _⟩ := e5 i c hi; exact ⟨seg, f1, f2⟩)
  have he : (execOp a.eval o).run P w = .ok (.value (.pointer (some ⟨w.heap.size, 0, none⟩))) (w.alloc (.cells cs ty)) := by
    simp [execOp, ho, Instr.alloc, zeroValue, typeInfo, hi, hz, run_newVar, Value.cells]
  unfold Oper.wp
  rw [he, Oper.upon_value, hd]
  have := h.newbox (d := d) (av := .bx (.row zs)) (hN (d, []) (by simp)).nr (bL hn) (bL h5) (.inl rfl) ty (fun _ => hrep) (fun _ hl => absurd hl not_live0)
  rw [Array.toArray_toList] at this
  exact hK _ _ ⟨_, _, this⟩

theorem a_buildA (sz : List Nat) (hg : Gd w0 U0 nt ops o gs S) (hd : o.dst = some d) (hn : Nat.blt d nt = true) (h5 : Nat.blt d 100000 = true) {t e : TypeId} {m z : Nat} {parts : Array (Nat × Operand)} {it ie : TypeInfo} {cs : Array Value} {zs r : List CV} (ho : o.op = .build t parts) (hu : P.underlying t = some (.array m e)) (hi : P.info? t = some it) (hie : P.info? e = some ie) (hz : it.zero = some (.agg cs)) (hez : ie.size = z) (hsz : sz = List.replicate m z) (h0 : zsO sz cs.toList = some zs) (hr : setsO S parts.toList zs = some r) :
    AOp P w0 U0 nt ops o (gs ++ rds parts.toList) [] S [(d, .val (.row r))] :=
  aop_val hg hd hn h5 (fun k hk => List.mem_append_left _ hk) fun s hs a w D hv hm => by
    obtain ⟨segs, e1, e2, e3, e4, e5⟩ := zsO_spec (U := Us w0 U0 D) (w := w) h0
    have hlen : segs.map List.length = zs.map CV.size := by rw [e2, e3]
    obtain ⟨g1, g2⟩ := setsO_spec (U := Us w0 U0 D) (w := w) (ρ := a.eval) (segs := segs) hr (fun x hx c n q p hev => ev_val hm (fun k hk => hs k (List.mem_append_right _ (mem_rds hx k hk))) hev) e4 hlen (fun i c hi => by obtain ⟨seg, f1, f2, _⟩ := e5 i c hi; exact ⟨seg, f1, f2⟩)
    have hfill := fill_segs (place := fun i => some (i * ie.size, ie.size)) sz (fun i z' hz' => by
      rw [hsz, List.getElem?_replicate] at hz'
      split at hz'
      · rename_i him
        cases hz'
        rw [hsz, List.take_replicate, List.sum_replicate_nat, hez, Nat.min_eq_left (Nat.le_of_lt him)]
      · cases hz') (parts.toList.map fun x => (x.1, a.eval x.2)) segs cs e1.symm e2 (fun x hx => by rw [← e3]; exact g1 x hx)
    refine ⟨.agg (setAll segs (parts.toList.map fun x => (x.1, a.eval x.2))).flatten.toArray, ?_, avrep_val (vrep_row.2 ⟨_, rfl, g2⟩)⟩
    have hb : P.built t (parts.map fun x => (x.1, a.eval x.2)).toList = some (setAll segs (parts.toList.map fun x => (x.1, a.eval x.2))).flatten.toArray := by
      unfold Program.built
      rw [hi, hu]
      simp only [hz, hie]
      rw [Array.toList_map]
      exact hfill
    have := run_build w t _ _ hb
    generalize a.eval = ρ at this ⊢
    simp [execOp, ho, this]

theorem a_idxA (j : Nat) (hg : Gd w0 U0 nt ops o gs S) (hd : o.dst = some d) (hn : Nat.blt d nt = true) (h5 : Nat.blt d 100000 = true) {x y : Operand} {ty e : TypeId} {m z n q : Nat} {p : List Nat} {k' v' l'} {i : Int} {kd : IntKind} {n2 q2 p2} (ho : o.op = .indexAddr ty x y) (hu : P.underlying ty = some (.array m e)) (hz : (P.info? e).map (·.size) = some z) (hx : ev S x = some ⟨2, ⟨k', v', l'⟩, n, q, p⟩) (hy : ev S y = some ⟨0, .sc (.int kd i), n2, q2, p2⟩) (hi : i = (j : Int)) (hj : Nat.blt j m = true) : AOp P w0 U0 nt ops o (gs ++ (rd x ++ rd y)) [] S [(d, .bp n (q + j * z) (p ++ [j]))] :=
  aop_val hg hd hn h5 (fun k hk => List.mem_append_left _ hk) fun s hs a w D hv hm => by
    obtain ⟨hbn, h1⟩ : BN n ∧ a.eval x = .pointer (some ⟨blkOf (hv (100000 + n)), q, none⟩) := ev_rep hm (fun k hk => hs k (List.mem_append_right _ (List.mem_append_left _ hk))) hx
    have e2 := ev_sc hm (fun k hk => hs k (List.mem_append_right _ (List.mem_append_right _ hk))) hy
    have hsz := run_sizeOf (P := P) (w := w) hz
    have hj := bL hj
    subst hi
    refine ⟨.pointer (some ⟨blkOf (hv (100000 + n)), q + j * z, none⟩), ?_, hbn, rfl⟩
    have hadd := add_at (blkOf (hv (100000 + n))) q (j * z)
    generalize a.eval = ρ at h1 e2 ⊢
    simp [execOp, ho, Instr.indexAt, asIntOf, run_underlying hu, Instr.sureAddr, h1, e2, hj, hsz, hadd]

theorem a_lookupI (hg : Gd w0 U0 nt ops o gs S) (hd : o.dst = some d) (hn : Nat.blt d nt = true) (h5 : Nat.blt d 100000 = true) {x y : Operand} {t kt et : TypeId} {k k2 : IntKind} {i z2 : Int} {n : Nat} {l : List CV} {n' q' p'} (ho : o.op = .lookup t x y true) (hu : P.underlying t = some (.map kt et)) (huk : P.underlying kt = some (.int k)) (hz2 : (P.info? et).map (·.zero) = some (some (.int k2 z2))) (hzc : zeroT P et = some (.sc (.int k2 z2))) (hx : ev S x = some (.mref n)) (hy : ev S y = some ⟨0, .sc (.int k i), n', q', p'⟩) (hm' : S n = some (.mp l)) (hik : IntKeys k l) : AOp P w0 U0 nt ops o (gs ++ (rd x ++ (rd y ++ [n]))) [] S [(d, .tup [(lookR k i l).getD (.sc (.int k2 z2)), .b (lookR k i l).isSome])] :=
  a_lookup hg hd hn h5 ho hu huk hzc hx hy hm' hik fun U w v _ hh => by
    obtain ⟨it, h1, h2⟩ := hh
    rw [h1, Option.map_some, h2] at hz2
    injection hz2 with hz2
    injection hz2 with hz2
    rw [hz2]
    exact vrep_sc.2 ⟨rfl, rfl⟩

def noMref (s : AS) (n : Nat) : Bool := s.all fun p => !((Nat.beq p.2.t 15 || Nat.beq p.2.t 19) && Nat.beq p.2.n n)
theorem wk_cut (n k : Nat) {e z : Nat} {l : List CV} (hm : look s n = some (.mrow e z l)) (hn : (Nat.ble 200000 n && Nat.blt n 400000) = true) (hkl : k ≤ l.length) (hr : noMref s n = true) : Wk w0 U0 nt s ((n, .mrow e z (l.take k)) :: s) := by
  rintro a w ⟨D, hv, h⟩
  have hrn := rnB hn
  have hrn1 : RN n := RW.rn hrn
  obtain ⟨xs, f1, f2, f3, f4⟩ := h.mrow hm hrn1
  obtain ⟨ao, cap, e1, e2, e3⟩ := own_slice f1
  obtain ⟨hv', hhv⟩ : ∃ hv' : Nat → Value, hv' = fun x => if x = n then .slice ao k cap else hv x := ⟨_, rfl⟩
  have hvn : ∀ x, x ≠ n → hv' x = hv x := fun x hx => by rw [hhv]; simp only [if_neg hx]
  have hvd : hv' n = .slice ao k cap := by rw [hhv]; simp
  have hbs : ∀ x, hb (hv' x) = hb (hv x) := fun x => by
    by_cases hx : x = n
    · subst hx; rw [hvd, e1]; cases ao <;> rfl
    · rw [hvn x hx]
  have hbk : ∀ x, blkOf (hv' x) = blkOf (hv x) := fun x => by unfold blkOf; rw [hbs]
  have hlk : ∀ {k'}, k' ≠ n → look ((n, AV.mrow e z (l.take k)) :: s) k' = look s k' := fun {k'} h1 => lN (Ne.symm h1)
  have hl : ∀ q f, Live ((n, AV.mrow e z (l.take k)) :: s) q f ↔ Live s q f := fun q f => by
    unfold Live
    by_cases e4 : q = n
    · subst e4
      rw [lS, hm]
      constructor <;> (rintro ⟨h1, _⟩; cases h1)
    · rw [hlk e4]
  have hl2 : LiveN ((n, AV.mrow e z (l.take k)) :: s) = LiveN s := by funext q; simp only [LiveN, hl]
  have hnl : ¬ LiveN s n := by
    rintro (h1 | ⟨f, h1⟩)
    · omega
    · rw [h1.1] at hm; cases hm
  have hrep : ∀ {k' av v}, look s k' = some av → AVRep (Us w0 U0 D) w hv (LiveN s) av v → AVRep (Us w0 U0 D) w hv' (LiveN s) av v := fun {k' av v} g1 g2 => by
    by_cases hc : hk av = n ∧ (av.t = 11 ∨ av.t = 12 ∨ av.t = 15 ∨ av.t = 19)
    · obtain ⟨c1, c2⟩ := hc
      have ht2 : av.t ≠ 2 := by omega
      rw [hk_eq.2 ht2] at c1
      unfold AVRep at g2 ⊢
      rw [if_neg (by omega), if_neg (by omega), if_neg (by omega), if_neg (by omega)] at g2 ⊢
      rcases c2 with c2 | c2 | c2 | c2
      · rw [if_pos c2] at g2 ⊢; rw [hbk]; exact g2
      · rw [if_neg (by omega), if_pos c2] at g2 ⊢
        obtain ⟨r1, a0, m, cp, a1, b1, b2, b3⟩ := g2
        rw [c1, e1] at b1
        injection b1 with i1 i2 i3
        subst i1; subst i3
        exact ⟨r1, ao, k, cap, a1, by rw [c1]; exact hvd, b2, b3⟩
      all_goals
        unfold noMref at hr
        rw [List.all_eq_true] at hr
        have := hr _ (look_mem g1)
        simp only [c2, c1, Nat.beq_refl] at this
        cases this
    · refine g2.move (fun _ _ _ h1 h2 => ⟨h1, h2⟩) (fun _ h1 => h1) fun hR => ?_
      by_cases e4 : hk av = n
      · exfalso
        rcases hR with ⟨r1, r2, r3⟩ | ⟨r1, r2⟩ | ⟨r1, r2⟩
        · rw [hk_eq.2 (by omega)] at e4; rw [e4] at r2; exact hnl r2
        · rw [hk_eq.1 r1] at e4; unfold BN at r2; omega
        · exact hc ⟨e4, r1⟩
      · exact hvn _ e4
  refine ⟨D, hv', h.below, h.dfr, h.size, fun d av g1 g2 => ?_, fun m o av g1 g2 g3 g4 => ?_, fun m o o' av av' g1 g2 => ?_, fun k' av g1 g2 => ?_, fun k' av g g1 g2 g3 g4 => ?_, fun k' k2 av av' g g1 g2 g3 g4 g5 g6 g7 g8 => ?_, fun k' v g1 => ?_, h.dlt⟩
  · rw [hlk (by omega)] at g1
    rw [hl2]
    obtain ⟨v, h1, h2⟩ := h.slot d av g1 g2
    exact ⟨v, h1, hrep g1 h2⟩
  · rw [hlk (by unfold fKey; omega)] at g1
    rw [hlk (by unfold BN at g4; omega)] at g3
    rw [hl2, hbk]
    obtain ⟨v, h1, h2⟩ := h.fld m o av g1 g2 g3 g4
    exact ⟨v, hrep g1 h1, h2⟩
  · rw [hlk (by unfold fKey; omega)] at g1 g2
    exact h.fdis m o o' av av' g1 g2
  · rw [hl2]
    by_cases e4 : k' = n
    · subst e4
      rw [lS] at g1
      cases g1
      rw [hvd]
      have hx : ∃ ys zs, xs = ys ++ zs ∧ Sq ((l.take k).map fun c => Rep (Us w0 U0 D) w c) ys := by
        have f4' := f4
        rw [← List.take_append_drop k l, List.map_append] at f4'
        obtain ⟨y1, r1, q1, q2, q3⟩ := sq_split f4'
        exact ⟨y1, r1, q1, q2⟩
      obtain ⟨ys, zs, q1, q2⟩ := hx
      have hyl : ys.length = k * z := by rw [sq_len (n := CV.size) (fun c _ xs h => h.len) q2, sum_const (fun c hc => f3 c (List.mem_of_mem_take hc)), List.length_take, Nat.min_eq_left hkl]
      refine ⟨ys, ⟨?_, ?_⟩, f2, fun c hc => f3 c (List.mem_of_mem_take hc), q2⟩
      · show ys.length = (l.take k).length * z
        rw [List.length_take, Nat.min_eq_left hkl]; exact hyl
      · show (Value.slice ao k cap = _ ∧ (l.take k).length = 0) ∨ _
        rw [List.length_take, Nat.min_eq_left hkl]
        rcases f1.2 with ⟨h1, h2⟩ | ⟨g, cap', cur, h1, h2, h3, h4, h6, h7, h8⟩
        · rw [e1] at h1
          injection h1 with i1 i2 i3
          subst i1; subst i3
          have : k = 0 := by omega
          subst this
          exact .inl ⟨rfl, rfl⟩
        · rw [e1] at h1
          injection h1 with i1 i2 i3
          subst i1; subst i3
          refine .inr ⟨g, cap, cur, rfl, h2, h3, by omega, h6, h7, ?_⟩
          have h8' : cur.toList.take (l.length * z) = xs := h8
          have : cur.toList.take (k * z) = xs.take (k * z) := by
            rw [← h8', List.take_take, Nat.min_eq_left (Nat.mul_le_mul_right z hkl)]
          show List.take (k * z) cur.toList = ys
          rw [this, q1, ← hyl]
          exact List.take_left' rfl
    · rw [hlk e4] at g1
      rw [hvn k' e4]
      by_cases h7 : av.t = 7
      · exact oc_no h7
      · refine (h.obj k' av g1 g2).move (fun _ _ _ h1 h2 => ⟨h1, h2⟩) (fun _ h3 => ⟨h3, ?_⟩) fun _ _ => rfl
        unfold tokv
        split
        · rfl
        · exact hvn _ fun e5 => hnl (e5 ▸ h3)
  · rw [hbs] at g4
    by_cases e4 : k' = n
    · subst e4
      rw [lS] at g1
      cases g1
      obtain ⟨h1, h2, h3⟩ := h.blk k' _ g hm g2 (by simp) g4
      exact ⟨h1, h2, fun o _ => h3 o fun e5 => by cases e5⟩
    · rw [hlk e4] at g1
      obtain ⟨h1, h2, h3⟩ := h.blk k' av g g1 g2 g3 g4
      rw [hvn k' e4]
      exact ⟨h1, h2, h3⟩
  · rw [hbs] at g8 ⊢
    have conv : ∀ {x av}, look ((n, AV.mrow e z (l.take k)) :: s) x = some av → av.t ≠ 7 → ∃ av0, look s x = some av0 ∧ av0.t ≠ 7 := fun {x av} h1 h2 => by
      by_cases e4 : x = n
      · subst e4; exact ⟨_, hm, by simp⟩
      · rw [hlk e4] at h1; exact ⟨av, h1, h2⟩
    obtain ⟨b1, c1, c2⟩ := conv g1 g5
    obtain ⟨b2, c3, c4⟩ := conv g2 g6
    exact h.disj k' k2 b1 b2 g c1 c3 g3 g4 c2 c4 g7 g8
  · have h1 := U0.hf k' v g1
    rw [hvn k' (by omega)]
    exact h.fix k' v g1
def SameS (S : Nat → Option AV) (ks : List Nat) : AS → Prop
  | [] => True
  | (k, av) :: l => (hasN ks k = true ∨ S k = some av) ∧ SameS S ks l
theorem SameS.look {ks : List Nat} : ∀ {l : AS}, SameS S ks l → ∀ {k av}, look l k = some av → hasN ks k = false → S k = some av
  | [], _, k, av, h, _ => by cases h
  | (k', av') :: l, ⟨h1, h2⟩, k, av, h, hn => by
    rw [look_cons] at h
    split at h
    · rename_i e
      subst e
      cases h
      rcases h1 with h1 | h1
      · rw [h1] at hn; cases hn
      · exact h1
    · exact SameS.look h2 h hn
theorem a_callOU (post' : AS) {f : FuncId} {xs : Array Operand} {ts : Array TypeId} {avs : List AV} {r : AV} {pre post : AS} (hg : Gd w0 U0 nt ops o gs S) (hd : o.dst = some d) (hn : Nat.blt d nt = true) (h5 : Nat.blt d 100000 = true)
    (ho : o.op = .call { callee := .value (.func f), args := xs, argTypes := ts }) (hx : evsA S xs.toList = some avs) (hc : AFunO P f pre avs r post) (hp : SubS S pre) (hl : pre.all lendB = true) (hq : post.all (leaveB (kO post)) = true) (hks : (kO pre).all (hasN (kO post)) = true) (hr : refB (kO post) r = true) (hnb : ∀ k v, U0.f k = some v → hasN (kO post) k = true → hasN (kO pre) k = true) (hsub : SubL post post') (hsame : SameS S (kO post') post) (hkp : (kO post).all (hasN (kO pre)) = true) (hlow : (kO post).all (Nat.ble 100000) = true) :
    AOp P w0 U0 nt ops o (gs ++ (rdl xs.toList ++ kO pre)) (newN (kO pre) (kO post) (kO post)) S ((d, r) :: post') := by
  have h := a_callO hg hd hn h5 ho hx hc hp hl hq hks hr hnb
  intro s hs hN a w hsim Q K hK
  refine h s hs hN a w hsim Q K fun a' w' hs' => hK a' w' (hs'.sub fun k av h1 => ?_)
  have hd5 := bL h5
  have h1 : look ((d, r) :: (post' ++ s)) k = some av := h1
  show look ((d, r) :: (post ++ s)) k = some av
  rw [look_cons] at h1 ⊢
  split
  · rename_i e; rw [if_pos e] at h1; exact h1
  · rename_i e
    rw [if_neg e, look_append] at h1
    rw [look_append]
    cases e1 : look post' k with
    | some x => rw [e1] at h1; cases h1; rw [hsub.sub k _ e1]; rfl
    | none =>
      rw [e1] at h1
      have h1 : look s k = some av := h1
      cases e2 : look post k with
      | none => exact h1
      | some y =>
        have hk2 : hasN (kO post') k = false := by
          cases e3 : hasN (kO post') k with
          | false => rfl
          | true => obtain ⟨z, hz⟩ := keys_look (hasN_mem e3); rw [e1] at hz; cases hz
        have h3 := hsame.look e2 hk2
        rw [List.all_eq_true] at hkp
        have h4 := hkp k (mem_keys e2)
        have h5 := hs k (List.mem_append_right _ (List.mem_append_right _ (hasN_mem h4)))
        rw [h5, h3] at h1
        exact h1
end
end Go.Proofs.YteegmcfobgpemaaGreat
namespace Go.Proofs.YteegmcfobgpemaaGreat
open Go.RowKit
set_option linter.unusedVariables false
set_option linter.unusedSimpArgs false
set_option maxRecDepth 100000
-- 
theorem sIsVar_abs (W : World) (t : Tm) : AFun Tryz.prog W 97 [t.cw] (.val (.b (decide (t.f < 0)))) := by
  refine afun_of (rs := [.b (decide (t.f < 0))]) Tryz.func97 Tryz.ntmps97 rfl rfl rfl rfl ?_
  intro w U hW
  refine aS (aR ?_)
  (refine nx (a_box (gN rfl) rfl rfl rfl rfl rfl) rfl ?_)
  (refine nx (aA (gN rfl) rfl rfl rfl rfl rfl) rfl ?_)
  show AWp _ _ _ _ _ _ _
  refine aS (aR ?_)
  (refine nx (aF (gN rfl) rfl rfl rfl rfl rfl rfl rfl rfl rfl) rfl ?_)
  (refine nx (aLb (gN rfl) rfl rfl rfl rfl rfl rfl rfl rfl rfl rfl rfl rfl) rfl ?_)
  (refine nx (a_lss (gN rfl) rfl rfl rfl rfl rfl rfl) rfl ?_)
  (refine nx (aA (gN rfl) rfl rfl rfl rfl rfl) rfl ?_)
  show AWp _ _ _ _ _ _ _
  exact aT ⟨.inr rfl, rfl⟩
-- 
theorem sNumber_abs (W : World) (t : Tm) (h1 : -9223372036854775808 ≤ t.f) (h2 : t.f < 0) : AFun Tryz.prog W 99 [t.cw] (.val (.i (-1 - t.f))) := by
  refine afun_of (rs := [.i (-1 - t.f)]) Tryz.func99 Tryz.ntmps99 rfl rfl rfl rfl ?_
  intro w U hW
  refine aS (aR ?_)
  (refine nx (a_box (gN rfl) rfl rfl rfl rfl rfl) rfl ?_)
  (refine nx (aA (gN rfl) rfl rfl rfl rfl rfl) rfl ?_)
  show AWp _ _ _ _ _ _ _
  refine aS (aR ?_)
  (refine nx (aF (gN rfl) rfl rfl rfl rfl rfl rfl rfl rfl rfl) rfl ?_)
  (refine nx (aLb (gN rfl) rfl rfl rfl rfl rfl rfl rfl rfl rfl rfl rfl rfl) rfl ?_)
  (refine nx (a_sub (gN rfl) rfl rfl rfl rfl rfl rfl (by first | omega | (simp only [List.length_map, List.length_append, List.length_cons, List.length_nil] <;> omega) | (simp <;> omega))) rfl ?_)
  (refine nx (aA (gN rfl) rfl rfl rfl rfl rfl) rfl ?_)
  show AWp _ _ _ _ _ _ _
  exact aT ⟨.inr rfl, rfl⟩
-- 
theorem sVariable_abs (W : World) (v : Int) (h1 : 0 ≤ v) (h2 : v ≤ 9223372036854775807) : AFun Tryz.prog W 73 [.i v] (.val (varT v).cw) := by
  refine afun_of (rs := [(varT v).cw]) Tryz.func73 Tryz.ntmps73 rfl rfl rfl rfl ?_
  intro w U hW
  refine aS (aR ?_)
  (refine nx (a_alloc (gN rfl) rfl rfl rfl rfl rfl rfl rfl rfl rfl rfl) rfl ?_)
  show AWp _ _ _ _ _ _ _
  refine aS (aR ?_)
  (refine nx (aM (gN rfl) rfl rfl rfl rfl rfl) rfl ?_)
  (refine nx (a_sub (gN rfl) rfl rfl rfl rfl rfl rfl (by first | omega | (simp only [List.length_map, List.length_append, List.length_cons, List.length_nil] <;> omega) | (simp <;> omega))) rfl ?_)
  (refine nx (a_build (gN rfl) rfl rfl rfl rfl rfl rfl rfl rfl rfl rfl rfl) rfl ?_)
  (refine nx (aSt (gN rfl) rfl rfl rfl rfl rfl rfl rfl rfl rfl rfl) rfl ?_)
  show AWp _ _ _ _ _ _ _
  exact aT ⟨.inr rfl, rfl⟩
-- 
theorem find_abs (W : World) (l : List Bd) (v : Int) (hl : l.length ≤ 90000000000) : AFun Tryz.prog W 161 [.lst (l.map Bd.cv), .i v] (.tup [((findB l v).getD ⟨0, []⟩).cw, .b (findB l v).isSome]) := by
  have hsz := Bd.size_all l
  refine afun_of (rs := [((findB l v).getD ⟨0, []⟩).cw, .b (findB l v).isSome]) Tryz.func161 Tryz.ntmps161 rfl rfl rfl rfl ?_
  intro w U hW
  refine aS (aR ?_)
  (refine nx (a_alloc (gN rfl) rfl rfl rfl rfl rfl rfl rfl rfl rfl rfl) rfl ?_)
  (refine nx (aA (gN rfl) rfl rfl rfl rfl rfl) rfl ?_)
  show AWp _ _ _ _ _ _ _
  refine aS (aS (aR ?_))
  (refine nx (aM (gN rfl) rfl rfl rfl rfl rfl) rfl ?_)
  (refine nx (a_len (gN rfl) rfl rfl rfl rfl rfl rfl rfl) rfl ?_)
  (refine nx (aM (gN rfl) rfl rfl rfl rfl rfl) rfl ?_)
  show AWp _ _ _ _ _ _ _
  refine aB (awp_countI l.length (fun k => ∀ i c, i < k → l[i]? = some c → c.v ≠ v) (fun k => [(1, .val (.i v)), (4, .bp 4 0 []), (100004, ⟨5, .row [.i 0, .lst []], 1, 0, [1]⟩), (8, .val (.lst (l.map Bd.cv))), (9, .val (.i (l.map Bd.cv).length)), (10, .val (.i k))]) (wk_sub ⟨rfl, rfl, rfl, rfl, rfl, rfl, trivial⟩) (by omega) ?_)
  intro k hk hI
  refine aS (aR ?_)
  (refine nx (a_lss (gN rfl) rfl rfl rfl rfl rfl rfl) rfl ?_)
  show AWp _ _ _ _ _ _ _
  refine aS (aC rfl (fun hc => ?_) (fun hc => ?_))
  · simp only [List.length_map, decide_eq_true_eq] at hc
    have hkl : k < l.length := by omega
    obtain ⟨b, hb⟩ : ∃ t, l[k]? = some t := ⟨l[k], List.getElem?_eq_getElem hkl⟩
    have hb' := Bd.map_at hb
    refine aK ?_
    show AWp _ _ _ _ _ _ _
    refine aS (aB (aS (aR ?_)))
    (refine nx (a_index (gN rfl) rfl rfl rfl rfl rfl rfl rfl rfl rfl (by assumption) rfl (by first | assumption | exact sZ rfl | exact Tm.size_all _ | exact Bd.size_all _ | exact ints_size _ | exact bys_size _ | exact Lt.size_all _)) rfl ?_)
    (refine nx (a_load_ad (gN rfl) rfl rfl rfl rfl rfl rfl rfl rfl rfl) rfl ?_)
    (refine nx (a_alloc (gN rfl) rfl rfl rfl rfl rfl rfl rfl rfl rfl rfl) rfl ?_)
    (refine nx (aSt (gN rfl) rfl rfl rfl rfl rfl rfl rfl rfl rfl rfl) rfl ?_)
    show AWp _ _ _ _ _ _ _
    refine aS (aR ?_)
    (refine nx (aF (gN rfl) rfl rfl rfl rfl rfl rfl rfl rfl rfl) rfl ?_)
    (refine nx (aLb (gN rfl) rfl rfl rfl rfl rfl rfl rfl rfl rfl rfl rfl rfl) rfl ?_)
    (refine nx (aM (gN rfl) rfl rfl rfl rfl rfl) rfl ?_)
    (refine nx (a_eql (gN rfl) rfl rfl rfl rfl rfl rfl) rfl ?_)
    show AWp _ _ _ _ _ _ _
    refine aC rfl (fun hc2 => ?_) (fun hc2 => ?_)
    · simp only [decide_eq_true_eq] at hc2
      have hf := findB_at hb hc2 hI
      rw [hf]
      refine aS (aR ?_)
      (refine nx (aF (gN rfl) rfl rfl rfl rfl rfl rfl rfl rfl rfl) rfl ?_)
      (refine nx (aLb (gN rfl) rfl rfl rfl rfl rfl rfl rfl rfl rfl rfl rfl rfl) rfl ?_)
      (refine nx (aSt (gN rfl) rfl rfl rfl rfl rfl rfl rfl rfl rfl rfl) rfl ?_)
      (refine nx (aA (gN rfl) rfl rfl rfl rfl rfl) rfl ?_)
      show AWp _ _ _ _ _ _ _
      exact aT (And.intro (.inr rfl) rfl)
    · simp only [decide_eq_false_iff_not] at hc2
      refine aK ?_
      show AWp _ _ _ _ _ _ _
      refine aR ?_
      (refine nx (a_add (gN rfl) rfl rfl rfl rfl rfl rfl (by first | omega | (simp only [List.length_map, List.length_append, List.length_cons, List.length_nil] <;> omega) | (simp <;> omega))) rfl ?_)
      (refine nx (aM (gN rfl) rfl rfl rfl rfl rfl) rfl ?_)
      refine ⟨hkl, fun i c hi hcc => ?_, wk_sub ⟨rfl, rfl, rfl, rfl, rfl, rfl, trivial⟩⟩
      rcases Nat.lt_or_ge i k with h | h
      · exact hI i c h hcc
      · obtain rfl : i = k := by omega
        rw [hb] at hcc
        cases hcc
        exact hc2
  · simp only [List.length_map, decide_eq_false_iff_not] at hc
    have hkl : k = l.length := by omega
    have hf : findB l v = none := findB_none fun b hb => by
      obtain ⟨i, hi, he⟩ := List.mem_iff_getElem.1 hb
      exact hI i b (by omega) (by rw [List.getElem?_eq_getElem hi, he])
    rw [hf]
    refine aE ?_
    show AWp _ _ _ _ _ _ _
    refine aS (aR ?_)
    (refine nx (a_build (gN rfl) rfl rfl rfl rfl rfl rfl rfl rfl rfl rfl rfl) rfl ?_)
    (refine nx (aSt (gN rfl) rfl rfl rfl rfl rfl rfl rfl rfl rfl rfl) rfl ?_)
    (refine nx (aA (gN rfl) rfl rfl rfl rfl rfl) rfl ?_)
    show AWp _ _ _ _ _ _ _
    exact aT (And.intro (.inr rfl) rfl)

-- 
theorem image_abs (W : World) (l : List Bd) (v : Int) (hl : l.length ≤ 90000000000) (h1 : 0 ≤ v) (h2 : v ≤ 9223372036854775807) : AFun Tryz.prog W 126 [.lst (l.map Bd.cv), .i v] (.val (imgB l v).cw) := by
  refine afun_of (rs := [(imgB l v).cw]) Tryz.func126 Tryz.ntmps126 rfl rfl rfl rfl ?_
  intro w U hW
  refine aS (aR ?_)
  (refine nx (a_alloc (gN rfl) rfl rfl rfl rfl rfl rfl rfl rfl rfl rfl) rfl ?_)
  show AWp _ _ _ _ _ _ _
  refine aS (aS (aR ?_))
  (refine nx (aM (gN rfl) rfl rfl rfl rfl rfl) rfl ?_)
  (refine nx (aM (gN rfl) rfl rfl rfl rfl rfl) rfl ?_)
  (refine nx (a_call (gN rfl) rfl rfl rfl rfl rfl (find_abs w l v hl)) rfl ?_)
  (refine nx (aM (gN rfl) rfl rfl rfl rfl rfl) rfl ?_)
  (refine nx (aX (gN rfl) rfl rfl rfl rfl rfl rfl) rfl ?_)
  (refine nx (aX (gN rfl) rfl rfl rfl rfl rfl rfl) rfl ?_)
  (refine nx (a_alloc (gN rfl) rfl rfl rfl rfl rfl rfl rfl rfl rfl rfl) rfl ?_)
  (refine nx (aSt (gN rfl) rfl rfl rfl rfl rfl rfl rfl rfl rfl rfl) rfl ?_)
  (refine nx (aA (gN rfl) rfl rfl rfl rfl rfl) rfl ?_)
  show AWp _ _ _ _ _ _ _
  refine aS (aR ?_)
  (refine nx (aM (gN rfl) rfl rfl rfl rfl rfl) rfl ?_)
  show AWp _ _ _ _ _ _ _
  unfold imgB
  refine aC rfl (fun hc => ?_) (fun hc => ?_)
  · obtain ⟨t, ht⟩ := Option.isSome_iff_exists.1 hc
    rw [ht]
    refine aS (aR ?_)
    (refine nx (aL (gN rfl) rfl rfl rfl rfl rfl rfl rfl rfl rfl rfl rfl rfl) rfl ?_)
    (refine nx (aSt (gN rfl) rfl rfl rfl rfl rfl rfl rfl rfl rfl rfl) rfl ?_)
    show AWp _ _ _ _ _ _ _
    exact aT (And.intro (.inr rfl) rfl)
  · have ht : findB l v = none := by simpa using hc
    rw [ht]
    refine aK ?_
    show AWp _ _ _ _ _ _ _
    refine aS (aR ?_)
    (refine nx (aM (gN rfl) rfl rfl rfl rfl rfl) rfl ?_)
    (refine nx (a_call (gN rfl) rfl rfl rfl rfl rfl (sVariable_abs w v h1 h2)) rfl ?_)
    (refine nx (aSt (gN rfl) rfl rfl rfl rfl rfl rfl rfl rfl rfl rfl) rfl ?_)
    show AWp _ _ _ _ _ _ _
    exact aT (And.intro (.inr rfl) rfl)

-- 
theorem images_abs (W : World) (l : List Bd) (hl : l.length ≤ 64) : AFun Tryz.prog W 93 [.lst (l.map Bd.cv)] (.val (.fn 126 1 [.lst (l.map Bd.cv)])) := by
  refine afun_of (rs := [.fn 126 1 [.lst (l.map Bd.cv)]]) Tryz.func93 Tryz.ntmps93 rfl rfl rfl rfl ?_
  intro w U hW
  refine aS (aR ?_)
  (refine nx (aA (gN rfl) rfl rfl rfl rfl rfl) rfl ?_)
  show AWp _ _ _ _ _ _ _
  refine aS (aS (aR ?_))
  (refine nx (aM (gN rfl) rfl rfl rfl rfl rfl) rfl ?_)
  (refine nx (a_len (gN rfl) rfl rfl rfl rfl rfl rfl rfl) rfl ?_)
  (refine nx (a_leq (gN rfl) rfl rfl rfl rfl rfl rfl) rfl ?_)
  show AWp _ _ _ _ _ _ _
  refine aC rfl (fun hc => ?_) (fun hc => ?_)
  · refine aS (aR ?_)
    (refine nx (aM (gN rfl) rfl rfl rfl rfl rfl) rfl ?_)
    (refine nx (a_mkfunc (gN rfl) rfl rfl rfl rfl rfl rfl) rfl ?_)
    (refine nx (aA (gN rfl) rfl rfl rfl rfl rfl) rfl ?_)
    show AWp _ _ _ _ _ _ _
    exact aT (And.intro (.inr rfl) rfl)
  · simp only [List.length_map, decide_eq_false_iff_not] at hc
    omega

-- 
theorem replace_abs (W : World) (fc : CV) (img : Int → Tm) (hI : ∀ v, 0 ≤ v → v ≤ 9223372036854775807 → AFunV Tryz.prog W fc [.i v] (.val (img v).cw) ∧ (img v).rng ∧ (img v).size ≤ 90000000000) : ∀ t : Tm, t.rng → t.ok → AFun Tryz.prog W 71 [t.cw, fc] (.val (repT img t).cw) := by
  intro t
  induction t using Tm.ind with
  | h f l ih =>
  intro hr hok
  have hok := (Tm.ok_iff _).1 hok
  have hr := (Tm.rng_iff _).1 hr
  simp only at hok hr
  have hsz := Tm.size_all l
  refine afun_of (rs := [(repT img ⟨f, l⟩).cw]) Tryz.func71 Tryz.ntmps71 rfl rfl rfl rfl ?_
  intro w U hW
  refine aS (aR ?_)
  (refine nx (a_box (gN rfl) rfl rfl rfl rfl rfl) rfl ?_)
  (refine nx (a_alloc (gN rfl) rfl rfl rfl rfl rfl rfl rfl rfl rfl rfl) rfl ?_)
  show AWp _ _ _ _ _ _ _
  refine aS (aS (aR ?_))
  (refine nx (aL (gN rfl) rfl rfl rfl rfl rfl rfl rfl rfl rfl rfl rfl rfl) rfl ?_)
  (refine nx (a_call (gN rfl) rfl rfl rfl rfl rfl (sIsVar_abs w ⟨f, l⟩)) rfl ?_)
  show AWp _ _ _ _ _ _ _
  refine aC rfl (fun hc => ?_) (fun hc => ?_)
  · have hf : f < 0 := by simpa using hc
    rw [repT_var hf]
    obtain ⟨i1, i2, i3⟩ := hI (-1 - f) (by omega) (by omega)
    refine aS (aR ?_)
    (refine nx (aM (gN rfl) rfl rfl rfl rfl rfl) rfl ?_)
    (refine nx (aL (gN rfl) rfl rfl rfl rfl rfl rfl rfl rfl rfl rfl rfl rfl) rfl ?_)
    (refine nx (a_call (gN rfl) rfl rfl rfl rfl rfl (sNumber_abs w ⟨f, l⟩ hr.1.1 hf)) rfl ?_)
    (refine nx (a_callv (gN rfl) rfl rfl rfl rfl rfl rfl (i1.up hW)) rfl ?_)
    (refine nx (a_call (gN rfl) rfl rfl rfl rfl rfl (clone_abs w i2 i3)) rfl ?_)
    (refine nx (aSt (gN rfl) rfl rfl rfl rfl rfl rfl rfl rfl rfl rfl) rfl ?_)
    show AWp _ _ _ _ _ _ _
    exact aT (And.intro (.inr rfl) rfl)
  · have hf : ¬ f < 0 := by simpa using hc
    rw [repT_sym hf]
    refine aK ?_
    show AWp _ _ _ _ _ _ _
    refine aS (aR ?_)
    (refine nx (aA (gN rfl) rfl rfl rfl rfl rfl) rfl ?_)
    show AWp _ _ _ _ _ _ _
    refine aS (aS (aR ?_))
    (refine nx (aF (gN rfl) rfl rfl rfl rfl rfl rfl rfl rfl rfl) rfl ?_)
    (refine nx (aLb (gN rfl) rfl rfl rfl rfl rfl rfl rfl rfl rfl rfl rfl rfl) rfl ?_)
    (refine nx (a_len (gN rfl) rfl rfl rfl rfl rfl rfl rfl) rfl ?_)
    (refine nx (aM (gN rfl) rfl rfl rfl rfl rfl) rfl ?_)
    show AWp _ _ _ _ _ _ _
    refine aB (awp_count l.length (fun k => [(1, .val fc), (2, .bp 2 0 []), (100002, .bx (Tm.cw ⟨f, l⟩)), (4, .bp 4 0 []), (100004, ⟨5, .row [.i 0, .lst []], 1, 0, [1]⟩), (5, .own (.lst ((l.take k).map fun t => (repT img t).cv)) 200027), (200027, .tok 41 2), (16, .val (.lst (l.map Tm.cv))), (17, .val (.i (l.map Tm.cv).length)), (18, .val (.i k))])
      ((wk_nil 5 200027 41 2 rfl rfl rfl rfl rfl rfl rfl).trans (wk_sub ⟨rfl, rfl, rfl, rfl, rfl, rfl, rfl, rfl, rfl, rfl, trivial⟩)) ?_)
    intro k hk
    refine aS (aR ?_)
    (refine nx (a_lss (gN rfl) rfl rfl rfl rfl rfl rfl) rfl ?_)
    show AWp _ _ _ _ _ _ _
    refine aS (aC rfl (fun hc => ?_) (fun hc => ?_))
    · have hkl : k < l.length := by
        simp only [List.length_map, decide_eq_true_eq] at hc
        omega
      obtain ⟨t, ht⟩ : ∃ t, l[k]? = some t := ⟨l[k], List.getElem?_eq_getElem hkl⟩
      have ht' := Tm.map_at ht
      have htm := List.mem_of_getElem? ht
      have hsz2 : ∀ c ∈ (l.take k).map fun t => (repT img t).cv, c.size = 2 := by
        intro c hc
        obtain ⟨t, _, rfl⟩ := List.mem_map.1 hc
        exact Tm.size_cv _
      refine aK ?_
      show AWp _ _ _ _ _ _ _
      refine aS (aB (aS (aR ?_)))
      (refine nx (a_index (gN rfl) rfl rfl rfl rfl rfl rfl rfl rfl rfl (by assumption) rfl (by first | assumption | exact sZ rfl | exact Tm.size_all _ | exact Bd.size_all _ | exact ints_size _ | exact bys_size _ | exact Lt.size_all _)) rfl ?_)
      (refine nx (a_load_ad (gN rfl) rfl rfl rfl rfl rfl rfl rfl rfl rfl) rfl ?_)
      (refine nx (a_alloc (gN rfl) rfl rfl rfl rfl rfl rfl rfl rfl rfl rfl) rfl ?_)
      (refine nx (aSt (gN rfl) rfl rfl rfl rfl rfl rfl rfl rfl rfl rfl) rfl ?_)
      show AWp _ _ _ _ _ _ _
      refine aR ?_
      (refine nx (aM (gN rfl) rfl rfl rfl rfl rfl) rfl ?_)
      (refine nx (aL (gN rfl) rfl rfl rfl rfl rfl rfl rfl rfl rfl rfl rfl rfl) rfl ?_)
      (refine nx (aM (gN rfl) rfl rfl rfl rfl rfl) rfl ?_)
      (refine nx (a_call (gN rfl) rfl rfl rfl rfl rfl ((ih t htm (hr.2 t htm) (hok.2 t htm)).up hW)) rfl ?_)
      (refine nx (a_bslice (gN rfl) rfl rfl rfl rfl rfl rfl rfl rfl rfl rfl rfl rfl rfl) rfl ?_)
      (refine nx (a_app (gN rfl) rfl rfl rfl rfl rfl rfl rfl rfl rfl rfl rfl rfl rfl rfl rfl (by first | assumption | exact sZ rfl | exact Tm.size_all _ | exact Bd.size_all _ | exact ints_size _ | exact bys_size _ | exact Lt.size_all _) (by first | assumption | exact sZ rfl | exact Tm.size_all _ | exact Bd.size_all _ | exact ints_size _ | exact bys_size _ | exact Lt.size_all _) (by first | omega | (simp only [List.length_map, List.length_append, List.length_cons, List.length_nil] <;> omega) | (simp <;> omega))) rfl ?_)
      (refine nx (aA (gN rfl) rfl rfl rfl rfl rfl) rfl ?_)
      show AWp _ _ _ _ _ _ _
      refine aR ?_
      (refine nx (a_add (gN rfl) rfl rfl rfl rfl rfl rfl (by first | omega | (simp only [List.length_map, List.length_append, List.length_cons, List.length_nil] <;> omega) | (simp <;> omega))) rfl ?_)
      (refine nx (aM (gN rfl) rfl rfl rfl rfl rfl) rfl ?_)
      refine ⟨hkl, Wk.trans (wk_sub (s' := [(1, .val fc), (2, .bp 2 0 []), (100002, .bx (Tm.cw ⟨f, l⟩)), (4, .bp 4 0 []), (100004, ⟨5, .row [.i 0, .lst []], 1, 0, [1]⟩), (5, .own (.lst ((l.take (k + 1)).map fun t => (repT img t).cv)) 300027), (300027, .tok 41 2), (16, .val (.lst (l.map Tm.cv))), (17, .val (.i (l.map Tm.cv).length)), (18, .val (.i ((k + 1 : Nat) : Int)))]) ⟨rfl, rfl, rfl, rfl, rfl, ?_, rfl, rfl, rfl, rfl, trivial⟩) (wk_ren 300027 200027 rfl rfl rfl rfl)⟩
      rw [List.take_add_one, ht, List.map_append]
      simp only [Option.toList_some, List.map_cons, List.map_nil, Tm.cv_eq]
      rfl
    · have hkl : k = l.length := by
        simp only [List.length_map, decide_eq_false_iff_not] at hc
        omega
      subst hkl
      rw [List.take_length]
      refine aE ?_
      show AWp _ _ _ _ _ _ _
      refine aS (aR ?_)
      (refine nx (aF (gN rfl) rfl rfl rfl rfl rfl rfl rfl rfl rfl) rfl ?_)
      (refine nx (aLb (gN rfl) rfl rfl rfl rfl rfl rfl rfl rfl rfl rfl rfl rfl) rfl ?_)
      (refine nx (aM (gN rfl) rfl rfl rfl rfl rfl) rfl ?_)
      (refine nx (a_build (gN rfl) rfl rfl rfl rfl rfl rfl rfl rfl rfl rfl rfl) rfl ?_)
      (refine nx (aSt (gN rfl) rfl rfl rfl rfl rfl rfl rfl rfl rfl rfl) rfl ?_)
      show AWp _ _ _ _ _ _ _
      refine aT (And.intro (.inr rfl) ?_)
      unfold Tm.cw
      rw [List.map_map]
      rfl
theorem varT_rng {v : Int} (h1 : 0 ≤ v) (h2 : v ≤ 9223372036854775807) : (varT v).rng := (Tm.rng_iff _).2 ⟨by show _ ≤ -1 - v ∧ -1 - v ≤ _; omega, fun s hs => by cases hs⟩
theorem varT_size (v : Int) : (varT v).size = 1 := by
  rw [Tm.size_eq]
  have : (varT v).ps = [] := by unfold Tm.ps varT; simp
  rw [this]; rfl
theorem findB_mem : ∀ {l : List Bd} {v : Int} {t : Tm}, findB l v = some t → ∃ b ∈ l, b.t = t ∧ b.v = v
  | [], v, t, h => by cases h
  | b :: l, v, t, h => by
    rw [findB] at h
    split at h
    · rename_i e; cases h; exact ⟨b, by simp, rfl, e⟩
    · obtain ⟨c, h1, h2⟩ := findB_mem h
      exact ⟨c, List.mem_cons_of_mem _ h1, h2⟩
def bdsOk (l : List Bd) : Prop := ∀ b ∈ l, b.t.rng ∧ b.t.size ≤ 90000000000
theorem imgB_ok {l : List Bd} (h : bdsOk l) {v : Int} (h1 : 0 ≤ v) (h2 : v ≤ 9223372036854775807) : (imgB l v).rng ∧ (imgB l v).size ≤ 90000000000 := by
  unfold imgB
  cases hf : findB l v with
  | none => exact ⟨varT_rng h1 h2, by show (varT v).size ≤ _; rw [varT_size]; omega⟩
  | some t =>
    obtain ⟨b, hb, e, _⟩ := findB_mem hf
    show t.rng ∧ t.size ≤ _
    rw [← e]
    exact h b hb
-- 
theorem apply_abs (W : World) (l : List Bd) (t : Tm) (hl : l.length ≤ 64) (hb : bdsOk l) (hr : t.rng) (hok : t.ok) : AFun Tryz.prog W 66 [.lst (l.map Bd.cv), t.cw] (.val (repT (imgB l) t).cw) := by
  refine afun_of (rs := [(repT (imgB l) t).cw]) Tryz.func66 Tryz.ntmps66 rfl rfl rfl rfl ?_
  intro w U hW
  refine aS (aR ?_)
  (refine nx (a_box (gN rfl) rfl rfl rfl rfl rfl) rfl ?_)
  (refine nx (a_alloc (gN rfl) rfl rfl rfl rfl rfl rfl rfl rfl rfl rfl) rfl ?_)
  show AWp _ _ _ _ _ _ _
  refine aS (aD (by kernel_rfl) (by kernel_rfl) ?_)
  (refine nx (aL (gN rfl) rfl rfl rfl rfl rfl rfl rfl rfl rfl rfl rfl rfl) rfl ?_)
  (refine nx (aM (gN rfl) rfl rfl rfl rfl rfl) rfl ?_)
  (refine nx (a_call (gN rfl) rfl rfl rfl rfl rfl (images_abs w l hl)) rfl ?_)
  (refine nx (a_call (gN rfl) rfl rfl rfl rfl rfl (replace_abs w _ (imgB l) (fun v h1 h2 => ⟨⟨_, _, _, rfl, image_abs w l v (by omega) h1 h2⟩, imgB_ok hb h1 h2⟩) t hr hok)) rfl ?_)
  (refine nx (aSt (gN rfl) rfl rfl rfl rfl rfl rfl rfl rfl rfl rfl) rfl ?_)
  refine ⟨by kernel_rfl, ?_⟩
  show AWp _ _ _ _ _ _ _
  exact aT (And.intro (.inr rfl) rfl)

def upV (by_ v : Int) : Int := v + min by_ (9223372036854775807 - v)
-- 
theorem renf_abs (W : World) (v by_ : Int) (h1 : 0 ≤ v) (h2 : v ≤ 9223372036854775807) (h3 : 0 ≤ by_) : AFun Tryz.prog W 72 [.i v, .ptr (.i by_)] (.val (varT (upV by_ v)).cw) := by
  refine afun_of (rs := [(varT (upV by_ v)).cw]) Tryz.func72 Tryz.ntmps72 rfl rfl rfl rfl ?_
  intro w U hW
  refine aS (aR ?_)
  (refine nx (a_alloc (gN rfl) rfl rfl rfl rfl rfl rfl rfl rfl rfl rfl) rfl ?_)
  show AWp _ _ _ _ _ _ _
  refine aS (aR ?_)
  (refine nx (aM (gN rfl) rfl rfl rfl rfl rfl) rfl ?_)
  (refine nx (a_load_ptr (gN rfl) rfl rfl rfl rfl rfl rfl rfl rfl rfl) rfl ?_)
  (refine nx (aM (gN rfl) rfl rfl rfl rfl rfl) rfl ?_)
  (refine nx (a_sub (gN rfl) rfl rfl rfl rfl rfl rfl (by first | omega | (simp only [List.length_map, List.length_append, List.length_cons, List.length_nil] <;> omega) | (simp <;> omega))) rfl ?_)
  (refine nx (a_min (gN rfl) rfl rfl rfl rfl rfl rfl) rfl ?_)
  (refine nx (a_add (gN rfl) rfl rfl rfl rfl rfl rfl (by first | omega | (simp only [List.length_map, List.length_append, List.length_cons, List.length_nil] <;> omega) | (simp <;> omega))) rfl ?_)
  (refine nx (a_call (gN rfl) rfl rfl rfl rfl rfl (sVariable_abs w (v + min by_ (9223372036854775807 - v)) (by omega) (by omega))) rfl ?_)
  (refine nx (aSt (gN rfl) rfl rfl rfl rfl rfl rfl rfl rfl rfl rfl) rfl ?_)
  show AWp _ _ _ _ _ _ _
  exact aT (And.intro (.inr rfl) rfl)
theorem upV_ok {by_ v : Int} (h1 : 0 ≤ v) (h2 : v ≤ 9223372036854775807) (h3 : 0 ≤ by_) : 0 ≤ upV by_ v ∧ upV by_ v ≤ 9223372036854775807 := by unfold upV; omega
-- 
theorem rename_abs (W : World) (t : Tm) (by_ : Int) (hr : t.rng) (hok : t.ok) : AFun Tryz.prog W 46 [t.cw, .i by_] (.val (repT (fun v => varT (upV (max by_ 0) v)) t).cw) := by
  refine afun_of (rs := [(repT (fun v => varT (upV (max by_ 0) v)) t).cw]) Tryz.func46 Tryz.ntmps46 rfl rfl rfl rfl ?_
  intro w U hW
  refine aS (aR ?_)
  (refine nx (a_box (gN rfl) rfl rfl rfl rfl rfl) rfl ?_)
  (refine nx (a_box (gN rfl) rfl rfl rfl rfl rfl) rfl ?_)
  (refine nx (a_alloc (gN rfl) rfl rfl rfl rfl rfl rfl rfl rfl rfl rfl) rfl ?_)
  show AWp _ _ _ _ _ _ _
  refine aS (aR ?_)
  (refine nx (aL (gN rfl) rfl rfl rfl rfl rfl rfl rfl rfl rfl rfl rfl rfl) rfl ?_)
  (refine nx (a_max (gN rfl) rfl rfl rfl rfl rfl rfl) rfl ?_)
  (refine nx (aSt (gN rfl) rfl rfl rfl rfl rfl rfl rfl rfl rfl rfl) rfl ?_)
  show AWp _ _ _ _ _ _ _
  refine AWp.wk (wk_freeze 3 rfl rfl rfl (s' := [(2, .bp 2 0 []), (100002, .bx t.cw), (4, .bp 4 0 []), (100004, ⟨5, .row [.i 0, .lst []], 1, 0, [1]⟩)]) ⟨rfl, rfl, rfl, rfl, trivial⟩ rfl rfl rfl) ?_
  refine aS (aR ?_)
  (refine nx (aL (gN rfl) rfl rfl rfl rfl rfl rfl rfl rfl rfl rfl rfl rfl) rfl ?_)
  (refine nx (a_mkfunc (gN rfl) rfl rfl rfl rfl rfl rfl) rfl ?_)
  (refine nx (a_call (gN rfl) rfl rfl rfl rfl rfl (replace_abs w _ (fun v => varT (upV (max by_ 0) v)) (fun v h1 h2 => ⟨⟨_, _, _, rfl, renf_abs w v (max by_ 0) h1 h2 (by omega)⟩, varT_rng (upV_ok h1 h2 (by omega)).1 (upV_ok h1 h2 (by omega)).2, by rw [varT_size]; omega⟩) t hr hok)) rfl ?_)
  (refine nx (aSt (gN rfl) rfl rfl rfl rfl rfl rfl rfl rfl rfl rfl) rfl ?_)
  show AWp _ _ _ _ _ _ _
  exact aT (And.intro (.inr rfl) rfl)
end Go.Proofs.YteegmcfobgpemaaGreat
namespace Go.Proofs.YteegmcfobgpemaaGreat
set_option linter.unusedVariables false
set_option linter.unusedSimpArgs false
def vsL (l : List Tm) : List Int := (l.filter fun s => decide (s.f < 0)).map fun s => -1 - s.f
def Tm.vs (t : Tm) : List Int := vsL t.flat
theorem vsL_append (l m : List Tm) : vsL (l ++ m) = vsL l ++ vsL m := by simp [vsL]
theorem vsL_flatMap (l : List Tm) : vsL (l.flatMap Tm.flat) = l.flatMap Tm.vs := by
  induction l with
  | nil => rfl
  | cons t l ih => rw [List.flatMap_cons, vsL_append, ih, List.flatMap_cons]; rfl
theorem Tm.vs_var {t : Tm} (h : t.f < 0) : t.vs = [-1 - t.f] := by
  unfold Tm.vs
  rw [Tm.flat_eq, Tm.ps_of_var h]
  simp [vsL, h]
theorem Tm.vs_sym {t : Tm} (h : ¬ t.f < 0) : t.vs = t.l.flatMap Tm.vs := by
  unfold Tm.vs
  rw [Tm.flat_eq, Tm.ps_of_sym (by omega), show t :: t.l.flatMap Tm.flat = [t] ++ t.l.flatMap Tm.flat from rfl, vsL_append, vsL_flatMap]
  simp [vsL, h]
  rfl
theorem Tm.strip_vs (t : Tm) : t.strip.vs = t.vs := by
  induction t using Tm.indp with
  | h t ih =>
    by_cases h : t.f < 0
    · rw [Tm.vs_var h, Tm.vs_var (by rw [Tm.strip_f]; exact h), Tm.strip_f]
    · rw [Tm.vs_sym h, Tm.vs_sym (by rw [Tm.strip_f]; exact h), Tm.strip_l]
      rw [Tm.ps_of_sym (by omega)] at ih ⊢
      rw [List.flatMap_def, List.flatMap_def, List.map_map]
      congr 1
      exact List.map_congr_left fun s hs => ih s hs
theorem repT_vs (img : Int → Tm) (t : Tm) : (repT img t).vs = t.vs.flatMap fun v => (img v).vs := by
  induction t using Tm.indp with
  | h t ih =>
    by_cases h : t.f < 0
    · rw [repT_var h, Tm.vs_var h, Tm.strip_vs]; simp
    · rw [repT_sym h, Tm.vs_sym h, Tm.vs_sym (t := ⟨t.f, _⟩) h]
      rw [Tm.ps_of_sym (by omega)] at ih
      simp only
      rw [List.flatMap_assoc, List.flatMap_def, List.map_map, List.flatMap_def]
      congr 1
      exact List.map_congr_left fun s hs => ih s hs
theorem Tm.size_sym {t : Tm} (h : ¬ t.f < 0) : t.size = 1 + (t.l.map Tm.size).sum := by
  rw [Tm.size_eq, Tm.ps_of_sym (by omega), List.length_flatMap]
  rfl
theorem Tm.size_var {t : Tm} (h : t.f < 0) : t.size = 1 := by
  rw [Tm.size_eq, Tm.ps_of_var h]; rfl
theorem sum_congr_int {l : List Tm} {f g : Tm → Int} (h : ∀ s ∈ l, f s = g s) : (l.map f).sum = (l.map g).sum := by
  rw [List.map_congr_left h]
theorem sum_flatMap_int (l : List Tm) (g : Int → Int) : ((l.flatMap Tm.vs).map g).sum = (l.map fun s => (s.vs.map g).sum).sum := by
  induction l with
  | nil => rfl
  | cons t l ih => rw [List.flatMap_cons, List.map_append, List.sum_append_int, ih, List.map_cons, List.sum_cons]
theorem sum_cast (l : List Nat) : ((l.sum : Nat) : Int) = (l.map fun n : Nat => (n : Int)).sum := by
  induction l with
  | nil => rfl
  | cons n l ih => rw [List.sum_cons, List.map_cons, List.sum_cons, ← ih]; omega
theorem sum_add (l : List Tm) (f g : Tm → Int) : (l.map fun s => f s + g s).sum = (l.map f).sum + (l.map g).sum := by
  induction l with
  | nil => rfl
  | cons t l ih => simp only [List.map_cons, List.sum_cons, ih]; omega
theorem repT_size (img : Int → Tm) (t : Tm) : ((repT img t).size : Int) = t.size + (t.vs.map fun v => ((img v).size : Int) - 1).sum := by
  induction t using Tm.indp with
  | h t ih =>
    by_cases h : t.f < 0
    · rw [repT_var h, Tm.vs_var h, Tm.strip_size, Tm.size_var h]; simp; omega
    · rw [repT_sym h, Tm.vs_sym h, Tm.size_sym h, Tm.size_sym (t := ⟨t.f, _⟩) h, sum_flatMap_int]
      rw [Tm.ps_of_sym (by omega)] at ih
      simp only
      rw [Int.natCast_add, Int.natCast_add, sum_cast, sum_cast, List.map_map, List.map_map, List.map_map, Int.add_assoc, ← sum_add]
      congr 1
      exact sum_congr_int fun s hs => ih s hs

def nubS (acc : List Int) (v : Int) : List Int := if v ∈ acc then acc else acc ++ [v]
def nub (l : List Int) : List Int := l.foldl nubS []
theorem nub_snoc (l : List Int) (v : Int) : nub (l ++ [v]) = if v ∈ nub l then nub l else nub l ++ [v] := by
  unfold nub
  rw [List.foldl_append]
  rfl
theorem snoc_ind {α : Type} {Q : List α → Prop} (h0 : Q []) (h1 : ∀ l x, Q l → Q (l ++ [x])) : ∀ l, Q l := by
  intro l
  have : ∀ n (l : List α), l.length = n → Q l := by
    intro n
    induction n with
    | zero => intro l hl; rw [List.eq_nil_of_length_eq_zero hl]; exact h0
    | succ n ih =>
      intro l hl
      have hne : l ≠ [] := fun e => by rw [e] at hl; simp at hl
      rw [← List.dropLast_concat_getLast hne]
      exact h1 _ _ (ih _ (by simp [hl]))
  exact this _ l rfl
theorem mem_nub (l : List Int) : ∀ v, v ∈ nub l ↔ v ∈ l := by
  induction l using snoc_ind with
  | h0 => intro v; rfl
  | h1 l x ih =>
    intro v
    rw [nub_snoc, List.mem_append, ← ih]
    split
    · rename_i hx
      simp only [List.mem_singleton]
      exact ⟨fun h => .inl h, fun h => h.elim id fun e => e ▸ hx⟩
    · rw [List.mem_append]
theorem varsF_nub (l : List Tm) : varsF l = nub (vsL l) := by
  have : ∀ (l : List Tm) (acc : List Int), l.foldl varS acc = (vsL l).foldl nubS acc := by
    intro l
    induction l with
    | nil => intro acc; rfl
    | cons t l ih =>
      intro acc
      rw [List.foldl_cons, ih]
      by_cases h : t.f < 0
      · have : vsL (t :: l) = (-1 - t.f) :: vsL l := by simp [vsL, h]
        rw [this, List.foldl_cons]
        congr 1
        unfold varS nubS
        rw [if_pos h]
      · have : vsL (t :: l) = vsL l := by simp [vsL, h]
        rw [this]
        congr 1
        unfold varS
        rw [if_neg h]
  exact this l []
theorem topF_vs (l : List Tm) : topF l = (vsL l).foldl max (-1) := by
  have : ∀ (l : List Tm) (m : Int), l.foldl (fun m s => if s.f < 0 then max m (-1 - s.f) else m) m = (vsL l).foldl max m := by
    intro l
    induction l with
    | nil => intro acc; rfl
    | cons t l ih =>
      intro m
      rw [List.foldl_cons, ih]
      by_cases h : t.f < 0
      · have : vsL (t :: l) = (-1 - t.f) :: vsL l := by simp [vsL, h]
        rw [this, List.foldl_cons, if_pos h]
      · have : vsL (t :: l) = vsL l := by simp [vsL, h]
        rw [this, if_neg h]
  exact this l (-1)
theorem vs_nonneg (t : Tm) : ∀ v ∈ t.vs, 0 ≤ v := by
  intro v hv
  obtain ⟨s, hs, rfl⟩ := List.mem_map.1 hv
  have := (List.mem_filter.1 hs).2
  simp at this
  omega
theorem vs_le {t : Tm} {B : Int} (h : ∀ s ∈ t.flat, -B ≤ s.f) : ∀ v ∈ t.vs, v < B := by
  intro v hv
  obtain ⟨s, hs, rfl⟩ := List.mem_map.1 hv
  have := h s (List.mem_filter.1 hs).1
  omega
end Go.Proofs.YteegmcfobgpemaaGreat
namespace Go.Proofs.YteegmcfobgpemaaGreat
open Go.RowKit
set_option linter.unusedVariables false
set_option linter.unusedSimpArgs false
def Tm.sm : Tm → Prop
  | ⟨f, l⟩ => (-1000 ≤ f ∧ f ≤ 1000) ∧ ∀ t ∈ l, Tm.sm t
theorem Tm.sm_iff (t : Tm) : t.sm ↔ (-1000 ≤ t.f ∧ t.f ≤ 1000) ∧ ∀ s ∈ t.l, s.sm := by cases t; rw [Tm.sm]
theorem small_sm (t : Tm) : ∀ most deep, 0 ≤ smallT t most deep → t.sm := by
  induction t using Tm.ind with
  | h f l ih =>
    intro most deep h
    rw [smallT_eq] at h
    split at h
    · omega
    · rename_i hc
      refine (Tm.sm_iff _).2 ⟨⟨by show -1000 ≤ f; omega, by show f ≤ 1000; omega⟩, ?_⟩
      have : ∀ (l : List Tm) (m d : Int), (∀ t ∈ l, ∀ most deep, 0 ≤ smallT t most deep → t.sm) → 0 ≤ smallL l m d → ∀ t ∈ l, t.sm := by
        intro l
        induction l with
        | nil => intro m d _ _ t ht; cases ht
        | cons y ys ih2 =>
          intro m d hl h t ht
          rw [smallL_cons] at h
          split at h
          · omega
          · have hy : 0 ≤ smallT y m d := by
              rcases Int.lt_or_le (smallT y m d) 0 with h1 | h1
              · rw [smallL_neg ys d h1] at h; omega
              · exact h1
            rcases List.mem_cons.1 ht with rfl | ht
            · exact hl t (by simp) m d hy
            · exact ih2 (smallT y m d) d (fun s hs => hl s (List.mem_cons_of_mem _ hs)) h t ht
      exact this l _ _ ih h
theorem Tm.sm_rng {t : Tm} (h : t.sm) : t.rng := by
  induction t using Tm.ind with
  | h f l ih =>
    obtain ⟨h1, h2⟩ := (Tm.sm_iff _).1 h
    exact (Tm.rng_iff _).2 ⟨by simp only at h1 ⊢; omega, fun s hs => ih s hs (h2 s hs)⟩
theorem Tm.wt_ok {t : Tm} (h : t.wt ≤ 1000000) : t.ok := by
  induction t using Tm.ind with
  | h f l ih =>
    rw [Tm.wt_eq] at h
    simp only at h
    have := Tm.wts_len l
    exact (Tm.ok_iff _).2 ⟨by simp only; omega, fun s hs => ih s hs (by have : s.wt ≤ Tm.wts l := Tm.wts_mem hs; omega)⟩
theorem Tm.sm_flat {t : Tm} (h : t.sm) : ∀ s ∈ t.flat, -1000 ≤ s.f ∧ s.f ≤ 1000 := by
  induction t using Tm.indp with
  | h t ih =>
    intro s hs
    rw [Tm.flat_eq] at hs
    rcases List.mem_cons.1 hs with rfl | hs
    · exact ((Tm.sm_iff _).1 h).1
    · obtain ⟨u, hu, hs⟩ := List.mem_flatMap.1 hs
      exact ih u hu (((Tm.sm_iff _).1 h).2 u (Tm.ps_mem hu).1) s hs
theorem Tm.strip_rng {t : Tm} (h : t.rng) : t.strip.rng := by
  induction t using Tm.indp with
  | h t ih =>
    obtain ⟨h1, h2⟩ := (Tm.rng_iff _).1 h
    refine (Tm.rng_iff _).2 ⟨by rw [Tm.strip_f]; exact h1, fun s hs => ?_⟩
    rw [Tm.strip_l] at hs
    obtain ⟨u, hu, rfl⟩ := List.mem_map.1 hs
    exact ih u hu (h2 u (Tm.ps_mem hu).1)
theorem Tm.strip_ok {t : Tm} (h : t.ok) : t.strip.ok := by
  induction t using Tm.indp with
  | h t ih =>
    obtain ⟨h1, h2⟩ := (Tm.ok_iff _).1 h
    refine (Tm.ok_iff _).2 ⟨?_, fun s hs => ?_⟩
    · rw [Tm.strip_l, List.length_map]
      unfold Tm.ps
      split
      · simp
      · exact h1
    · rw [Tm.strip_l] at hs
      obtain ⟨u, hu, rfl⟩ := List.mem_map.1 hs
      exact ih u hu (h2 u (Tm.ps_mem hu).1)
theorem leaf_rng {f : Int} (h1 : -9223372036854775808 ≤ f) (h2 : f ≤ 9223372036854775807) : (Tm.mk f []).rng := (Tm.rng_iff _).2 ⟨⟨h1, h2⟩, fun s hs => by cases hs⟩
theorem leaf_ok (f : Int) : (Tm.mk f []).ok := (Tm.ok_iff _).2 ⟨by show 0 ≤ _; omega, fun s hs => by cases hs⟩
end Go.Proofs.YteegmcfobgpemaaGreat
namespace Go.Proofs.YteegmcfobgpemaaGreat
open Go.RowKit
set_option linter.unusedVariables false
set_option linter.unusedSimpArgs false
set_option maxRecDepth 100000
theorem repT_rng {img : Int → Tm} {t : Tm} (h : t.rng) (hi : ∀ v, 0 ≤ v → v ≤ 9223372036854775807 → (img v).rng) : (repT img t).rng := by
  induction t using Tm.ind with
  | h f l ih =>
    obtain ⟨h1, h2⟩ := (Tm.rng_iff _).1 h
    simp only at h1 h2
    by_cases hf : f < 0
    · rw [repT_var hf]; exact Tm.strip_rng (hi _ (by simp only; omega) (by simp only; omega))
    · rw [repT_sym hf]
      refine (Tm.rng_iff _).2 ⟨h1, fun s hs => ?_⟩
      obtain ⟨u, hu, rfl⟩ := List.mem_map.1 hs
      exact ih u hu (h2 u hu)
theorem repT_ok {img : Int → Tm} {t : Tm} (h : t.ok) (hi : ∀ v, (img v).ok) : (repT img t).ok := by
  induction t using Tm.ind with
  | h f l ih =>
    obtain ⟨h1, h2⟩ := (Tm.ok_iff _).1 h
    simp only at h1 h2
    by_cases hf : f < 0
    · rw [repT_var hf]; exact Tm.strip_ok (hi _)
    · rw [repT_sym hf]
      refine (Tm.ok_iff _).2 ⟨by simpa using h1, fun s hs => ?_⟩
      obtain ⟨u, hu, rfl⟩ := List.mem_map.1 hs
      exact ih u hu (h2 u hu)
theorem varT_ok (v : Int) : (varT v).ok := (Tm.ok_iff _).2 ⟨by show 0 ≤ _; omega, fun s hs => by cases hs⟩
theorem imgB_ok2 {l : List Bd} (h : ∀ b ∈ l, b.t.ok) (v : Int) : (imgB l v).ok := by
  unfold imgB
  cases hf : findB l v with
  | none => exact varT_ok v
  | some t =>
    obtain ⟨b, hb, e, _⟩ := findB_mem hf
    show t.ok
    rw [← e]
    exact h b hb
end Go.Proofs.YteegmcfobgpemaaGreat
namespace Go.Proofs.YteegmcfobgpemaaGreat
set_option linter.unusedVariables false
set_option linter.unusedSimpArgs false
theorem cmpZ_cases (x y : Int) : (cmpZ x y = -1 ∧ x < y) ∨ (cmpZ x y = 0 ∧ x = y) ∨ (cmpZ x y = 1 ∧ y < x) := by
  unfold cmpZ
  split
  · exact .inl ⟨rfl, by assumption⟩
  · split
    · exact .inr (.inr ⟨rfl, by assumption⟩)
    · exact .inr (.inl ⟨rfl, by omega⟩)

theorem cmpH_cases (x y : Int) : (cmpH x y = -1 ∧ ((x < 0 ∧ y < 0 ∧ y < x) ∨ (¬ (x < 0 ∧ y < 0) ∧ x < y))) ∨ (cmpH x y = 0 ∧ x = y) ∨ (cmpH x y = 1 ∧ ((x < 0 ∧ y < 0 ∧ x < y) ∨ (¬ (x < 0 ∧ y < 0) ∧ y < x))) := by
  unfold cmpH
  split
  · have := cmpZ_cases (-1 - x) (-1 - y)
    omega
  · have := cmpZ_cases x y
    omega


theorem cmpT_zero (a : Tm) : ∀ b, cmpT a b = 0 ↔ a.strip = b.strip := by
  induction a using Tm.indp with
  | h a ih =>
    intro b
    rw [cmpT_eq, Tm.strip_eq a, Tm.strip_eq b]
    have hL : ∀ (l m : List Tm), (∀ s ∈ l, ∀ b, cmpT s b = 0 ↔ s.strip = b.strip) → (cmpL l m = 0 ↔ l.map Tm.strip = m.map Tm.strip) := by
      intro l
      induction l with
      | nil => intro m _; cases m <;> simp [cmpL_nil, cmpL_lt, cmpL_gt]
      | cons y ys ih2 =>
        intro m hl
        cases m with
        | nil => simp [cmpL_nil, cmpL_lt, cmpL_gt]
        | cons z zs =>
          rw [cmpL_cons, List.map_cons, List.map_cons, List.cons.injEq, ← hl y (by simp) z, ← ih2 zs (fun s hs => hl s (List.mem_cons_of_mem _ hs))]
          by_cases h : cmpT y z = 0 <;> simp [h]
    rw [Tm.mk.injEq]
    by_cases h1 : a.f = b.f
    · rw [if_neg (by simp [h1])]
      by_cases h2 : a.ps.length = b.ps.length
      · rw [if_neg (by simp [h2]), hL _ _ ih]
        simp [h1]
      · rw [if_pos h2]
        constructor
        · intro h3
          have := cmpZ_cases a.ps.length b.ps.length
          omega
        · rintro ⟨_, h3⟩
          exact absurd (by simpa using congrArg List.length h3) h2
    · rw [if_pos h1]
      constructor
      · intro h3
        have := cmpH_cases a.f b.f
        omega
      · rintro ⟨h3, _⟩
        exact absurd h3 h1


theorem sameT_iff (a b : Tm) : sameT a b = true ↔ a.strip = b.strip := by
  unfold sameT
  rw [beq_iff_eq]
  exact cmpT_zero a b
end Go.Proofs.YteegmcfobgpemaaGreat
namespace Go.Proofs.YteegmcfobgpemaaGreat
open Go.RowKit
set_option linter.unusedVariables false
set_option linter.unusedSimpArgs false
set_option maxRecDepth 100000
theorem same_f {a b : Tm} (h : sameT a b = true) : a.f = b.f := by
  have := (sameT_iff a b).1 h
  rw [← Tm.strip_f, this, Tm.strip_f]
theorem same_fne {a b : Tm} (h : a.f ≠ b.f) : sameT a b = false := by
  cases hs : sameT a b with
  | false => rfl
  | true => exact absurd (same_f hs) h
theorem same_neg {a b : Tm} (h : a.f = b.f) (hf : a.f < 0) : sameT a b = true := by
  rw [sameT_iff, Tm.strip_eq, Tm.strip_eq, Tm.ps_of_var hf, Tm.ps_of_var (by omega), h]
theorem same_sym {a b : Tm} (h : a.f = b.f) (hf : ¬ a.f < 0) : sameT a b = true ↔ a.l.map Tm.strip = b.l.map Tm.strip := by
  rw [sameT_iff, Tm.strip_eq, Tm.strip_eq, Tm.ps_of_sym (by omega), Tm.ps_of_sym (by omega), h]
  simp
theorem same_lne {a b : Tm} (hf : ¬ a.f < 0) (hl : a.l.length ≠ b.l.length) : sameT a b = false := by
  cases hs : sameT a b with
  | false => rfl
  | true =>
    have := congrArg List.length ((same_sym (same_f hs) hf).1 hs)
    simp at this
    exact absurd this hl
theorem same_at {a b : Tm} (hf : ¬ a.f < 0) {i : Nat} {x y : Tm} (hx : a.l[i]? = some x) (hy : b.l[i]? = some y) (h : sameT x y = false) : sameT a b = false := by
  cases hs : sameT a b with
  | false => rfl
  | true =>
    have := congrArg (fun l => l[i]?) ((same_sym (same_f hs) hf).1 hs)
    simp only [List.getElem?_map, hx, hy, Option.map_some, Option.some.injEq] at this
    rw [(sameT_iff x y).2 this] at h
    cases h
theorem same_all {a b : Tm} (h : a.f = b.f) (hf : ¬ a.f < 0) (hl : a.l.length = b.l.length) (hi : ∀ i x y, i < a.l.length → a.l[i]? = some x → b.l[i]? = some y → sameT x y = true) : sameT a b = true := by
  rw [same_sym h hf]
  apply List.ext_getElem?
  intro i
  rw [List.getElem?_map, List.getElem?_map]
  by_cases hil : i < a.l.length
  · have hx := List.getElem?_eq_getElem hil
    have hy := List.getElem?_eq_getElem (l := b.l) (i := i) (by omega)
    rw [hx, hy]
    exact congrArg some ((sameT_iff _ _).1 (hi i _ _ hil hx hy))
  · rw [List.getElem?_eq_none (by omega), List.getElem?_eq_none (by omega)]

-- 
set_option maxHeartbeats 1000000 in
theorem refSame_abs (W : World) : ∀ (a b : Tm), a.ok → b.ok → AFun Tryz.prog W 70 [a.cw, b.cw] (.val (.b (sameT a b))) := by
  intro a
  induction a using Tm.ind with
  | h f l ih =>
  intro b hoa hob
  obtain ⟨hla, hoa⟩ := (Tm.ok_iff _).1 hoa
  obtain ⟨hlb, hob⟩ := (Tm.ok_iff _).1 hob
  simp only at hla hoa
  have hsz := Tm.size_all l
  have hsz2 := Tm.size_all b.l
  refine afun_of (rs := [.b (sameT ⟨f, l⟩ b)]) Tryz.func70 Tryz.ntmps70 rfl rfl rfl rfl ?_
  intro w U hW
  refine aS (aR ?_)
  (refine nx (a_box (gN rfl) rfl rfl rfl rfl rfl) rfl ?_)
  (refine nx (a_box (gN rfl) rfl rfl rfl rfl rfl) rfl ?_)
  (refine nx (aA (gN rfl) rfl rfl rfl rfl rfl) rfl ?_)
  show AWp _ _ _ _ _ _ _
  refine aS (aS (aR ?_))
  (refine nx (aF (gN rfl) rfl rfl rfl rfl rfl rfl rfl rfl rfl) rfl ?_)
  (refine nx (aLb (gN rfl) rfl rfl rfl rfl rfl rfl rfl rfl rfl rfl rfl rfl) rfl ?_)
  (refine nx (aF (gN rfl) rfl rfl rfl rfl rfl rfl rfl rfl rfl) rfl ?_)
  (refine nx (aLb (gN rfl) rfl rfl rfl rfl rfl rfl rfl rfl rfl rfl rfl rfl) rfl ?_)
  (refine nx (a_neq (gN rfl) rfl rfl rfl rfl rfl rfl) rfl ?_)
  show AWp _ _ _ _ _ _ _
  refine aC rfl (fun hc => ?_) (fun hc => aK ?_)
  · have hne : f ≠ b.f := by simpa using hc
    rw [same_fne (a := ⟨f, l⟩) hne]
    refine aS (aR ?_)
    (refine nx (aA (gN rfl) rfl rfl rfl rfl rfl) rfl ?_)
    show AWp _ _ _ _ _ _ _
    exact aT (And.intro (.inr rfl) rfl)
  have hfe : f = b.f := by simpa using hc
  clear hc
  show AWp _ _ _ _ _ _ _
  refine aS (aS (aR ?_))
  (refine nx (aF (gN rfl) rfl rfl rfl rfl rfl rfl rfl rfl rfl) rfl ?_)
  (refine nx (aLb (gN rfl) rfl rfl rfl rfl rfl rfl rfl rfl rfl rfl rfl rfl) rfl ?_)
  (refine nx (a_lss (gN rfl) rfl rfl rfl rfl rfl rfl) rfl ?_)
  show AWp _ _ _ _ _ _ _
  refine aC rfl (fun hc => ?_) (fun hc => aK ?_)
  · have hneg : f < 0 := by simpa using hc
    rw [same_neg (a := ⟨f, l⟩) hfe hneg]
    refine aS (aR ?_)
    (refine nx (aA (gN rfl) rfl rfl rfl rfl rfl) rfl ?_)
    show AWp _ _ _ _ _ _ _
    exact aT (And.intro (.inr rfl) rfl)
  have hnn : ¬ f < 0 := by simpa using hc
  clear hc
  show AWp _ _ _ _ _ _ _
  refine aS (aS (aR ?_))
  (refine nx (aF (gN rfl) rfl rfl rfl rfl rfl rfl rfl rfl rfl) rfl ?_)
  (refine nx (aLb (gN rfl) rfl rfl rfl rfl rfl rfl rfl rfl rfl rfl rfl rfl) rfl ?_)
  (refine nx (a_len (gN rfl) rfl rfl rfl rfl rfl rfl rfl) rfl ?_)
  (refine nx (aF (gN rfl) rfl rfl rfl rfl rfl rfl rfl rfl rfl) rfl ?_)
  (refine nx (aLb (gN rfl) rfl rfl rfl rfl rfl rfl rfl rfl rfl rfl rfl rfl) rfl ?_)
  (refine nx (a_len (gN rfl) rfl rfl rfl rfl rfl rfl rfl) rfl ?_)
  (refine nx (a_neq (gN rfl) rfl rfl rfl rfl rfl rfl) rfl ?_)
  show AWp _ _ _ _ _ _ _
  refine aC rfl (fun hc => ?_) (fun hc => aK ?_)
  · have hne : l.length ≠ b.l.length := by
      simp only [List.length_map, decide_eq_true_eq] at hc
      omega
    rw [same_lne (a := ⟨f, l⟩) hnn hne]
    refine aS (aR ?_)
    (refine nx (aA (gN rfl) rfl rfl rfl rfl rfl) rfl ?_)
    show AWp _ _ _ _ _ _ _
    exact aT (And.intro (.inr rfl) rfl)
  have hle : l.length = b.l.length := by
    simp only [List.length_map, decide_eq_false_iff_not, ne_eq, Decidable.not_not] at hc
    omega
  clear hc
  show AWp _ _ _ _ _ _ _
  refine aS (aS (aR ?_))
  (refine nx (aA (gN rfl) rfl rfl rfl rfl rfl) rfl ?_)
  show AWp _ _ _ _ _ _ _
  refine aB (awp_countI l.length (fun k => ∀ i x y, i < k → l[i]? = some x → b.l[i]? = some y → sameT x y = true) (fun k => [(2, .bp 2 0 []), (100002, .bx (Tm.cw ⟨f, l⟩)), (3, .bp 3 0 []), (100003, .bx b.cw), (5, .val (.i k))]) (wk_sub ⟨rfl, rfl, rfl, rfl, rfl, trivial⟩) (by omega) ?_)
  intro k hk hI
  refine aS (aS (aR ?_))
  (refine nx (aM (gN rfl) rfl rfl rfl rfl rfl) rfl ?_)
  (refine nx (aF (gN rfl) rfl rfl rfl rfl rfl rfl rfl rfl rfl) rfl ?_)
  (refine nx (aLb (gN rfl) rfl rfl rfl rfl rfl rfl rfl rfl rfl rfl rfl rfl) rfl ?_)
  (refine nx (a_len (gN rfl) rfl rfl rfl rfl rfl rfl rfl) rfl ?_)
  (refine nx (a_lss (gN rfl) rfl rfl rfl rfl rfl rfl) rfl ?_)
  show AWp _ _ _ _ _ _ _
  refine aC rfl (fun hc => aK ?_) (fun hc => aE ?_)
  · have hkl : k < l.length := by
      simp only [List.length_map, decide_eq_true_eq] at hc
      omega
    clear hc
    obtain ⟨x, hx⟩ : ∃ x, l[k]? = some x := ⟨l[k], List.getElem?_eq_getElem hkl⟩
    obtain ⟨y, hy⟩ : ∃ y, b.l[k]? = some y := ⟨b.l[k]'(by omega), List.getElem?_eq_getElem (by omega)⟩
    have hx' := Tm.map_at hx
    have hy' := Tm.map_at hy
    have hxm := List.mem_of_getElem? hx
    have hym := List.mem_of_getElem? hy
    show AWp _ _ _ _ _ _ _
    refine aS (aB (aS (aD (by kernel_rfl) (by kernel_rfl) ?_)))
    (refine nx (aF (gN rfl) rfl rfl rfl rfl rfl rfl rfl rfl rfl) rfl ?_)
    (refine nx (aLb (gN rfl) rfl rfl rfl rfl rfl rfl rfl rfl rfl rfl rfl rfl) rfl ?_)
    (refine nx (aM (gN rfl) rfl rfl rfl rfl rfl) rfl ?_)
    (refine nx (a_index (gN rfl) rfl rfl rfl rfl rfl rfl rfl rfl rfl (by assumption) rfl (by first | assumption | exact sZ rfl | exact Tm.size_all _ | exact Bd.size_all _ | exact ints_size _ | exact bys_size _ | exact Lt.size_all _)) rfl ?_)
    (refine nx (a_load_ad (gN rfl) rfl rfl rfl rfl rfl rfl rfl rfl rfl) rfl ?_)
    (refine nx (aF (gN rfl) rfl rfl rfl rfl rfl rfl rfl rfl rfl) rfl ?_)
    (refine nx (aLb (gN rfl) rfl rfl rfl rfl rfl rfl rfl rfl rfl rfl rfl rfl) rfl ?_)
    (refine nx (aM (gN rfl) rfl rfl rfl rfl rfl) rfl ?_)
    (refine nx (a_index (gN rfl) rfl rfl rfl rfl rfl rfl rfl rfl rfl (by assumption) rfl (by first | assumption | exact sZ rfl | exact Tm.size_all _ | exact Bd.size_all _ | exact ints_size _ | exact bys_size _ | exact Lt.size_all _)) rfl ?_)
    (refine nx (a_load_ad (gN rfl) rfl rfl rfl rfl rfl rfl rfl rfl rfl) rfl ?_)
    (refine nx (a_call (gN rfl) rfl rfl rfl rfl rfl ((ih x hxm y (hoa x hxm) (hob y hym)).up hW)) rfl ?_)
    (refine nx (a_not (gN rfl) rfl rfl rfl rfl rfl) rfl ?_)
    refine ⟨by kernel_rfl, ?_⟩
    show AWp _ _ _ _ _ _ _
    refine aC rfl (fun hc => ?_) (fun hc => aK ?_)
    · have hs : sameT x y = false := by simpa using hc
      rw [same_at (a := ⟨f, l⟩) hnn hx hy hs]
      refine aS (aR ?_)
      (refine nx (aA (gN rfl) rfl rfl rfl rfl rfl) rfl ?_)
      show AWp _ _ _ _ _ _ _
      exact aT (And.intro (.inr rfl) rfl)
    have hs : sameT x y = true := by simpa using hc
    clear hc
    show AWp _ _ _ _ _ _ _
    refine aR ?_
    (refine nx (aM (gN rfl) rfl rfl rfl rfl rfl) rfl ?_)
    (refine nx (a_add (gN rfl) rfl rfl rfl rfl rfl rfl (by first | omega | (simp only [List.length_map, List.length_append, List.length_cons, List.length_nil] <;> omega) | (simp <;> omega))) rfl ?_)
    (refine nx (aA (gN rfl) rfl rfl rfl rfl rfl) rfl ?_)
    refine ⟨hkl, fun i x' y' hi h1 h2 => ?_, wk_sub ⟨rfl, rfl, rfl, rfl, rfl, trivial⟩⟩
    rcases Nat.lt_or_ge i k with h | h
    · exact hI i x' y' h h1 h2
    · obtain rfl : i = k := by omega
      rw [hx] at h1; rw [hy] at h2
      cases h1; cases h2
      exact hs
  · have hkl : k = l.length := by
      simp only [List.length_map, decide_eq_false_iff_not] at hc
      omega
    subst hkl
    rw [same_all (a := ⟨f, l⟩) hfe hnn hle hI]
    show AWp _ _ _ _ _ _ _
    refine aS (aR ?_)
    (refine nx (aA (gN rfl) rfl rfl rfl rfl rfl) rfl ?_)
    show AWp _ _ _ _ _ _ _
    exact aT (And.intro (.inr rfl) rfl)

-- 
set_option maxHeartbeats 1000000 in
theorem to_abs (W : World) : ∀ (t : Tm), t.ok → AFun Tryz.prog W 44 [t.cw] (.val t.strip.cw) := by
  intro t
  induction t using Tm.ind with
  | h f l ih =>
  intro hok
  obtain ⟨hl, hok⟩ := (Tm.ok_iff _).1 hok
  simp only at hl hok
  have hsz := Tm.size_all l
  refine afun_of (rs := [(Tm.strip ⟨f, l⟩).cw]) Tryz.func44 Tryz.ntmps44 rfl rfl rfl rfl ?_
  intro w U hW
  refine aS (aR ?_)
  (refine nx (a_box (gN rfl) rfl rfl rfl rfl rfl) rfl ?_)
  (refine nx (a_alloc (gN rfl) rfl rfl rfl rfl rfl rfl rfl rfl rfl rfl) rfl ?_)
  show AWp _ _ _ _ _ _ _
  refine aS (aR ?_)
  (refine nx (aF (gN rfl) rfl rfl rfl rfl rfl rfl rfl rfl rfl) rfl ?_)
  (refine nx (aLb (gN rfl) rfl rfl rfl rfl rfl rfl rfl rfl rfl rfl rfl rfl) rfl ?_)
  (refine nx (a_build (gN rfl) rfl rfl rfl rfl rfl rfl rfl rfl rfl rfl rfl) rfl ?_)
  (refine nx (a_alloc (gN rfl) rfl rfl rfl rfl rfl rfl rfl rfl rfl rfl) rfl ?_)
  (refine nx (aSt (gN rfl) rfl rfl rfl rfl rfl rfl rfl rfl rfl rfl) rfl ?_)
  show AWp _ _ _ _ _ _ _
  refine aS (aS (aR ?_))
  (refine nx (aA (gN rfl) rfl rfl rfl rfl rfl) rfl ?_)
  show AWp _ _ _ _ _ _ _
  by_cases hf : f < 0
  · have hg : decide (f ≥ 0) = false := by simpa using hf
    rw [show (Tm.strip ⟨f, l⟩) = ⟨f, []⟩ by rw [Tm.strip_eq, Tm.ps_of_var (t := ⟨f, l⟩) hf]; rfl]
    refine aB (awp_count 0 (fun k => [(1, .bp 1 0 []), (100001, .bx (Tm.cw ⟨f, l⟩)), (2, .bp 2 0 []), (100002, ⟨5, .row [.i 0, .lst []], 1, 0, [1]⟩), (3, .bp 3 0 []), (100003, ⟨5, .row [.i f, .lst []], 1, 0, [1]⟩), (4, .val (.i k))]) (wk_sub ⟨rfl, rfl, rfl, rfl, rfl, rfl, rfl, trivial⟩) ?_)
    intro k hk
    refine aS (aS (aR ?_))
    (refine nx (aF (gN rfl) rfl rfl rfl rfl rfl rfl rfl rfl rfl) rfl ?_)
    (refine nx (aLb (gN rfl) rfl rfl rfl rfl rfl rfl rfl rfl rfl rfl rfl rfl) rfl ?_)
    (refine nx (a_geq (gN rfl) rfl rfl rfl rfl rfl rfl) rfl ?_)
    (refine nx (aM (gN rfl) rfl rfl rfl rfl rfl) rfl ?_)
    (refine ⟨_, _, _, a_off (go_off rfl rfl rfl rfl (by first | rfl | assumption | (simp; done) | (simp [*]; done))) rfl rfl rfl, rfl, ?_⟩)
    (refine ⟨_, _, _, a_off (go_off rfl rfl rfl rfl (by first | rfl | assumption | (simp; done) | (simp [*]; done))) rfl rfl rfl, rfl, ?_⟩)
    (refine ⟨_, _, _, a_off (go_off rfl rfl rfl rfl (by first | rfl | assumption | (simp; done) | (simp [*]; done))) rfl rfl rfl, rfl, ?_⟩)
    (refine ⟨_, _, _, a_off (go_off rfl rfl rfl rfl (by first | rfl | assumption | (simp; done) | (simp [*]; done))) rfl rfl rfl, rfl, ?_⟩)
    (refine ⟨_, _, _, a_off (go_off rfl rfl rfl rfl (by first | rfl | assumption | (simp; done) | (simp [*]; done))) rfl rfl rfl, rfl, ?_⟩)
    (refine ⟨_, _, _, aPf (gN rfl) rfl rfl rfl rfl rfl ?hb rfl, rfl, ?_⟩; case hb => (first | rfl | assumption | (simp; done)))
    show AWp _ _ _ _ _ _ _
    refine aC rfl (fun hc => by cases hc) (fun hc => aE ?_)
    show AWp _ _ _ _ _ _ _
    refine aS (aR ?_)
    (refine nx (aL (gN rfl) rfl rfl rfl rfl rfl rfl rfl rfl rfl rfl rfl rfl) rfl ?_)
    (refine nx (aSt (gN rfl) rfl rfl rfl rfl rfl rfl rfl rfl rfl rfl) rfl ?_)
    show AWp _ _ _ _ _ _ _
    exact aT (And.intro (.inr rfl) rfl)
  have hg : decide (f ≥ 0) = true := by simp only [decide_eq_true_eq]; omega
  rw [show (Tm.strip ⟨f, l⟩) = ⟨f, l.map Tm.strip⟩ by rw [Tm.strip_eq, Tm.ps_of_sym (t := ⟨f, l⟩) (by show 0 ≤ f; omega)]]
  refine aB (awp_count l.length (fun k => [(1, .bp 1 0 []), (100001, .bx (Tm.cw ⟨f, l⟩)), (2, .bp 2 0 []), (100002, ⟨5, .row [.i 0, .lst []], 1, 0, [1]⟩), (3, .bp 3 0 []), (100003, ⟨5, .row [.i f, .lst (((l.take k).map Tm.strip).map Tm.cv)], 200029, 0, [1]⟩), (200029, .tok 50 2), (4, .val (.i k))])
    ((wk_nil 100003 200029 50 2 rfl rfl rfl rfl rfl rfl rfl).trans (wk_sub ⟨rfl, rfl, rfl, rfl, rfl, rfl, rfl, rfl, trivial⟩)) ?_)
  intro k hk
  refine aS (aS (aR ?_))
  (refine nx (aF (gN rfl) rfl rfl rfl rfl rfl rfl rfl rfl rfl) rfl ?_)
  (refine nx (aLb (gN rfl) rfl rfl rfl rfl rfl rfl rfl rfl rfl rfl rfl rfl) rfl ?_)
  (refine nx (a_geq (gN rfl) rfl rfl rfl rfl rfl rfl) rfl ?_)
  (refine nx (aM (gN rfl) rfl rfl rfl rfl rfl) rfl ?_)
  (refine nx (aM (gd_on rfl rfl rfl rfl (by first | rfl | assumption | (simp; done))) rfl rfl rfl rfl rfl) rfl ?_)
  (refine nx (aF (gd_on rfl rfl rfl rfl (by first | rfl | assumption | (simp; done))) rfl rfl rfl rfl rfl rfl rfl rfl rfl) rfl ?_)
  (refine nx (aLb (gd_on rfl rfl rfl rfl (by first | rfl | assumption | (simp; done))) rfl rfl rfl rfl rfl rfl rfl rfl rfl rfl rfl rfl) rfl ?_)
  (refine nx (a_len (gd_on rfl rfl rfl rfl (by first | rfl | assumption | (simp; done))) rfl rfl rfl rfl rfl rfl rfl) rfl ?_)
  (refine nx (a_lss (gd_on rfl rfl rfl rfl (by first | rfl | assumption | (simp; done))) rfl rfl rfl rfl rfl rfl) rfl ?_)
  (refine ⟨_, _, _, aPt (gN rfl) rfl rfl rfl rfl rfl ?hb rfl, rfl, ?_⟩; case hb => (first | rfl | assumption | (simp; done)))
  show AWp _ _ _ _ _ _ _
  refine aC rfl (fun hc => aK ?_) (fun hc => aE ?_)
  · have hkl : k < l.length := by
      simp only [List.length_map, decide_eq_true_eq] at hc
      omega
    clear hc
    obtain ⟨t, ht⟩ : ∃ t, l[k]? = some t := ⟨l[k], List.getElem?_eq_getElem hkl⟩
    have ht' := Tm.map_at ht
    have htm := List.mem_of_getElem? ht
    show AWp _ _ _ _ _ _ _
    refine aS (aB (aD (by kernel_rfl) (by kernel_rfl) ?_))
    (refine nx (aF (gN rfl) rfl rfl rfl rfl rfl rfl rfl rfl rfl) rfl ?_)
    (refine nx (a_load_tok (gN rfl) rfl rfl rfl rfl rfl rfl rfl rfl rfl rfl rfl rfl rfl) rfl ?_)
    (refine nx (aF (gN rfl) rfl rfl rfl rfl rfl rfl rfl rfl rfl) rfl ?_)
    (refine nx (aLb (gN rfl) rfl rfl rfl rfl rfl rfl rfl rfl rfl rfl rfl rfl) rfl ?_)
    (refine nx (aM (gN rfl) rfl rfl rfl rfl rfl) rfl ?_)
    (refine nx (a_index (gN rfl) rfl rfl rfl rfl rfl rfl rfl rfl rfl (by assumption) rfl (by first | assumption | exact sZ rfl | exact Tm.size_all _ | exact Bd.size_all _ | exact ints_size _ | exact bys_size _ | exact Lt.size_all _)) rfl ?_)
    (refine nx (a_load_ad (gN rfl) rfl rfl rfl rfl rfl rfl rfl rfl rfl) rfl ?_)
    (refine nx (a_call (gN rfl) rfl rfl rfl rfl rfl ((ih t htm (hok t htm)).up hW)) rfl ?_)
    (refine nx (a_bslice (gN rfl) rfl rfl rfl rfl rfl rfl rfl rfl rfl rfl rfl rfl rfl) rfl ?_)
    (refine nx (a_app (gN rfl) rfl rfl rfl rfl rfl rfl rfl rfl rfl rfl rfl rfl rfl rfl rfl (by first | assumption | exact sZ rfl | exact Tm.size_all _ | exact Bd.size_all _ | exact ints_size _ | exact bys_size _ | exact Lt.size_all _) (by first | assumption | exact sZ rfl | exact Tm.size_all _ | exact Bd.size_all _ | exact ints_size _ | exact bys_size _ | exact Lt.size_all _) (by first | omega | (simp only [List.length_map, List.length_append, List.length_cons, List.length_nil] <;> omega) | (simp <;> omega))) rfl ?_)
    (refine nx (aF (gN rfl) rfl rfl rfl rfl rfl rfl rfl rfl rfl) rfl ?_)
    (refine nx (a_store (gN rfl) rfl rfl rfl rfl rfl rfl rfl rfl rfl rfl) rfl ?_)
    refine ⟨by kernel_rfl, ?_⟩
    show AWp _ _ _ _ _ _ _
    refine aR ?_
    (refine nx (aM (gN rfl) rfl rfl rfl rfl rfl) rfl ?_)
    (refine nx (a_add (gN rfl) rfl rfl rfl rfl rfl rfl (by first | omega | (simp only [List.length_map, List.length_append, List.length_cons, List.length_nil] <;> omega) | (simp <;> omega))) rfl ?_)
    (refine nx (aA (gN rfl) rfl rfl rfl rfl rfl) rfl ?_)
    refine ⟨hkl, Wk.trans (wk_sub (s' := [(1, .bp 1 0 []), (100001, .bx (Tm.cw ⟨f, l⟩)), (2, .bp 2 0 []), (100002, ⟨5, .row [.i 0, .lst []], 1, 0, [1]⟩), (3, .bp 3 0 []), (100003, ⟨5, .row [.i f, .lst (((l.take (k + 1)).map Tm.strip).map Tm.cv)], 300029, 0, [1]⟩), (300029, .tok 50 2), (4, .val (.i ((k + 1 : Nat) : Int)))]) ⟨rfl, rfl, rfl, rfl, rfl, ?_, rfl, rfl, trivial⟩) (wk_ren 300029 200029 rfl rfl rfl rfl)⟩
    rw [List.take_add_one, ht, List.map_append, List.map_append]
    simp only [Option.toList_some, List.map_cons, List.map_nil, Tm.cv_eq]
    rfl
  · have hkl : k = l.length := by
      simp only [List.length_map, decide_eq_false_iff_not] at hc
      omega
    subst hkl
    rw [List.take_length]
    show AWp _ _ _ _ _ _ _
    refine aS (aR ?_)
    (refine nx (aL (gN rfl) rfl rfl rfl rfl rfl rfl rfl rfl rfl rfl rfl rfl) rfl ?_)
    (refine nx (aSt (gN rfl) rfl rfl rfl rfl rfl rfl rfl rfl rfl rfl) rfl ?_)
    show AWp _ _ _ _ _ _ _
    exact aT (And.intro (.inr rfl) rfl)

theorem flat_len_take (l : List Tm) (k : Nat) : ((l.take k).flatMap Tm.flat).length ≤ (l.flatMap Tm.flat).length := by
  conv => rhs; rw [← List.take_append_drop k l, List.flatMap_append, List.length_append]
  omega
-- 
set_option maxHeartbeats 1000000 in
theorem refFlat_abs (W : World) : ∀ (t : Tm), t.ok → t.size ≤ 90000000000 → AFun Tryz.prog W 31 [t.cw] (.val (.lst (t.flat.map Tm.cv))) := by
  intro t
  induction t using Tm.ind with
  | h f l ih =>
  intro hok hts
  obtain ⟨hl, hok⟩ := (Tm.ok_iff _).1 hok
  simp only at hl hok
  have hsz := Tm.size_all l
  refine afun_of (rs := [.lst ((Tm.flat ⟨f, l⟩).map Tm.cv)]) Tryz.func31 Tryz.ntmps31 rfl rfl rfl rfl ?_
  intro w U hW
  refine aS (aR ?_)
  (refine nx (a_box (gN rfl) rfl rfl rfl rfl rfl) rfl ?_)
  (refine nx (aA (gN rfl) rfl rfl rfl rfl rfl) rfl ?_)
  show AWp _ _ _ _ _ _ _
  refine aS (aR ?_)
  (refine nx (aL (gN rfl) rfl rfl rfl rfl rfl rfl rfl rfl rfl rfl rfl rfl) rfl ?_)
  (refine nx (a_bsliceT (gN rfl) rfl rfl rfl rfl rfl rfl rfl rfl rfl rfl rfl rfl rfl rfl) rfl ?_)
  (refine nx (aA (gN rfl) rfl rfl rfl rfl rfl) rfl ?_)
  show AWp _ _ _ _ _ _ _
  refine aS (aS (aR ?_))
  (refine nx (aA (gN rfl) rfl rfl rfl rfl rfl) rfl ?_)
  show AWp _ _ _ _ _ _ _
  have e0 : look [(3, AV.own (.lst [Tm.cw ⟨f, l⟩]) 300006)] 3 = some (.own (.lst ([Tm.mk f l].map Tm.cv)) 300006) := by
    simp only [List.map_cons, List.map_nil, Tm.cv_eq]
    rfl
  by_cases hf : f < 0
  · have hg : decide (f ≥ 0) = false := by simpa using hf
    rw [show Tm.flat ⟨f, l⟩ = [⟨f, l⟩] by rw [Tm.flat_eq, Tm.ps_of_var (t := ⟨f, l⟩) hf]; rfl]
    refine aB (awp_count 0 (fun k => [(1, .bp 1 0 []), (100001, .bx (Tm.cw ⟨f, l⟩)), (3, .val (.lst ([Tm.mk f l].map Tm.cv))), (4, .val (.i k))]) (Wk.trans (wk_sub (s' := [(1, .bp 1 0 []), (100001, .bx (Tm.cw ⟨f, l⟩)), (3, .own (.lst ([Tm.mk f l].map Tm.cv)) 300006), (4, .val (.i (0 : Nat)))]) ⟨rfl, rfl, e0, rfl, trivial⟩) (wk_plain 3 rfl)) ?_)
    intro k hk
    refine aS (aS (aR ?_))
    (refine nx (aF (gN rfl) rfl rfl rfl rfl rfl rfl rfl rfl rfl) rfl ?_)
    (refine nx (aLb (gN rfl) rfl rfl rfl rfl rfl rfl rfl rfl rfl rfl rfl rfl) rfl ?_)
    (refine nx (a_geq (gN rfl) rfl rfl rfl rfl rfl rfl) rfl ?_)
    (refine nx (aM (gN rfl) rfl rfl rfl rfl rfl) rfl ?_)
    (refine ⟨_, _, _, a_off (go_off rfl rfl rfl rfl (by first | rfl | assumption | (simp; done) | (simp [*]; done))) rfl rfl rfl, rfl, ?_⟩)
    (refine ⟨_, _, _, a_off (go_off rfl rfl rfl rfl (by first | rfl | assumption | (simp; done) | (simp [*]; done))) rfl rfl rfl, rfl, ?_⟩)
    (refine ⟨_, _, _, a_off (go_off rfl rfl rfl rfl (by first | rfl | assumption | (simp; done) | (simp [*]; done))) rfl rfl rfl, rfl, ?_⟩)
    (refine ⟨_, _, _, a_off (go_off rfl rfl rfl rfl (by first | rfl | assumption | (simp; done) | (simp [*]; done))) rfl rfl rfl, rfl, ?_⟩)
    (refine ⟨_, _, _, a_off (go_off rfl rfl rfl rfl (by first | rfl | assumption | (simp; done) | (simp [*]; done))) rfl rfl rfl, rfl, ?_⟩)
    (refine ⟨_, _, _, aPf (gN rfl) rfl rfl rfl rfl rfl ?hb rfl, rfl, ?_⟩; case hb => (first | rfl | assumption | (simp; done)))
    show AWp _ _ _ _ _ _ _
    refine aC rfl (fun hc => by cases hc) (fun hc => aE ?_)
    show AWp _ _ _ _ _ _ _
    refine aS (aR ?_)
    (refine nx (aM (gN rfl) rfl rfl rfl rfl rfl) rfl ?_)
    (refine nx (aA (gN rfl) rfl rfl rfl rfl rfl) rfl ?_)
    show AWp _ _ _ _ _ _ _
    exact aT (And.intro (.inr rfl) rfl)
  have hg : decide (f ≥ 0) = true := by simp only [decide_eq_true_eq]; omega
  have hfl : Tm.flat ⟨f, l⟩ = ⟨f, l⟩ :: l.flatMap Tm.flat := by rw [Tm.flat_eq, Tm.ps_of_sym (t := ⟨f, l⟩) (by show 0 ≤ f; omega)]
  unfold Tm.size at hts
  rw [hfl] at hts ⊢
  rw [List.length_cons] at hts
  refine aB (awp_count l.length (fun k => [(1, .bp 1 0 []), (100001, .bx (Tm.cw ⟨f, l⟩)), (3, .own (.lst ((Tm.mk f l :: (l.take k).flatMap Tm.flat).map Tm.cv)) 200026), (200026, .tok 50 2), (4, .val (.i k))])
    (Wk.trans (wk_sub (s' := [(1, .bp 1 0 []), (100001, .bx (Tm.cw ⟨f, l⟩)), (3, .own (.lst ([Tm.mk f l].map Tm.cv)) 300006), (300006, .tok 50 2), (4, .val (.i (0 : Nat)))]) ⟨rfl, rfl, e0, rfl, rfl, trivial⟩) (wk_ren 300006 200026 rfl rfl rfl rfl)) ?_)
  intro k hk
  refine aS (aS (aR ?_))
  (refine nx (aF (gN rfl) rfl rfl rfl rfl rfl rfl rfl rfl rfl) rfl ?_)
  (refine nx (aLb (gN rfl) rfl rfl rfl rfl rfl rfl rfl rfl rfl rfl rfl rfl) rfl ?_)
  (refine nx (a_geq (gN rfl) rfl rfl rfl rfl rfl rfl) rfl ?_)
  (refine nx (aM (gN rfl) rfl rfl rfl rfl rfl) rfl ?_)
  (refine nx (aM (gd_on rfl rfl rfl rfl (by first | rfl | assumption | (simp; done))) rfl rfl rfl rfl rfl) rfl ?_)
  (refine nx (aF (gd_on rfl rfl rfl rfl (by first | rfl | assumption | (simp; done))) rfl rfl rfl rfl rfl rfl rfl rfl rfl) rfl ?_)
  (refine nx (aLb (gd_on rfl rfl rfl rfl (by first | rfl | assumption | (simp; done))) rfl rfl rfl rfl rfl rfl rfl rfl rfl rfl rfl rfl) rfl ?_)
  (refine nx (a_len (gd_on rfl rfl rfl rfl (by first | rfl | assumption | (simp; done))) rfl rfl rfl rfl rfl rfl rfl) rfl ?_)
  (refine nx (a_lss (gd_on rfl rfl rfl rfl (by first | rfl | assumption | (simp; done))) rfl rfl rfl rfl rfl rfl) rfl ?_)
  (refine ⟨_, _, _, aPt (gN rfl) rfl rfl rfl rfl rfl ?hb rfl, rfl, ?_⟩; case hb => (first | rfl | assumption | (simp; done)))
  show AWp _ _ _ _ _ _ _
  refine aC rfl (fun hc => aK ?_) (fun hc => aE ?_)
  · have hkl : k < l.length := by
      simp only [List.length_map, decide_eq_true_eq] at hc
      omega
    clear hc
    obtain ⟨t, ht⟩ : ∃ t, l[k]? = some t := ⟨l[k], List.getElem?_eq_getElem hkl⟩
    have ht' := Tm.map_at ht
    have htm := List.mem_of_getElem? ht
    have hb1 := flat_len_take l k
    have hb2 := flatMap_len_mem Tm.flat htm
    have hb3 := flat_len_take l (k + 1)
    rw [List.take_add_one, ht, List.flatMap_append, List.length_append] at hb3
    simp only [Option.toList_some, List.flatMap_cons, List.flatMap_nil, List.append_nil] at hb3
    show AWp _ _ _ _ _ _ _
    refine aS (aB (aR ?_))
    (refine nx (aM (gN rfl) rfl rfl rfl rfl rfl) rfl ?_)
    (refine nx (aF (gN rfl) rfl rfl rfl rfl rfl rfl rfl rfl rfl) rfl ?_)
    (refine nx (aLb (gN rfl) rfl rfl rfl rfl rfl rfl rfl rfl rfl rfl rfl rfl) rfl ?_)
    (refine nx (aM (gN rfl) rfl rfl rfl rfl rfl) rfl ?_)
    (refine nx (a_index (gN rfl) rfl rfl rfl rfl rfl rfl rfl rfl rfl (by assumption) rfl (by first | assumption | exact sZ rfl | exact Tm.size_all _ | exact Bd.size_all _ | exact ints_size _ | exact bys_size _ | exact Lt.size_all _)) rfl ?_)
    (refine nx (a_load_ad (gN rfl) rfl rfl rfl rfl rfl rfl rfl rfl rfl) rfl ?_)
    (refine nx (a_call (gN rfl) rfl rfl rfl rfl rfl ((ih t htm (hok t htm) (by unfold Tm.size; omega)).up hW)) rfl ?_)
    (refine nx (a_app (gN rfl) rfl rfl rfl rfl rfl rfl rfl rfl rfl rfl rfl rfl rfl rfl rfl (by first | assumption | exact sZ rfl | exact Tm.size_all _ | exact Bd.size_all _ | exact ints_size _ | exact bys_size _ | exact Lt.size_all _) (by first | assumption | exact sZ rfl | exact Tm.size_all _ | exact Bd.size_all _ | exact ints_size _ | exact bys_size _ | exact Lt.size_all _) (by first | omega | (simp only [List.length_map, List.length_append, List.length_cons, List.length_nil] <;> omega) | (simp <;> omega))) rfl ?_)
    (refine nx (aA (gN rfl) rfl rfl rfl rfl rfl) rfl ?_)
    show AWp _ _ _ _ _ _ _
    refine aR ?_
    (refine nx (aM (gN rfl) rfl rfl rfl rfl rfl) rfl ?_)
    (refine nx (a_add (gN rfl) rfl rfl rfl rfl rfl rfl (by first | omega | (simp only [List.length_map, List.length_append, List.length_cons, List.length_nil] <;> omega) | (simp <;> omega))) rfl ?_)
    (refine nx (aA (gN rfl) rfl rfl rfl rfl rfl) rfl ?_)
    refine ⟨hkl, Wk.trans (wk_sub (s' := [(1, .bp 1 0 []), (100001, .bx (Tm.cw ⟨f, l⟩)), (3, .own (.lst ((Tm.mk f l :: (l.take (k + 1)).flatMap Tm.flat).map Tm.cv)) 300026), (300026, .tok 50 2), (4, .val (.i ((k + 1 : Nat) : Int)))]) ⟨rfl, rfl, ?_, rfl, rfl, trivial⟩) (wk_ren 300026 200026 rfl rfl rfl rfl)⟩
    rw [List.take_add_one, ht, List.flatMap_append, ← List.cons_append, List.map_append]
    simp only [Option.toList_some, List.flatMap_cons, List.flatMap_nil, List.append_nil]
    rfl
  · have hkl : k = l.length := by
      simp only [List.length_map, decide_eq_false_iff_not] at hc
      omega
    subst hkl
    rw [List.take_length]
    show AWp _ _ _ _ _ _ _
    refine aS (aR ?_)
    (refine nx (aM (gN rfl) rfl rfl rfl rfl rfl) rfl ?_)
    (refine nx (aA (gN rfl) rfl rfl rfl rfl rfl) rfl ?_)
    show AWp _ _ _ _ _ _ _
    exact aT (And.intro (.inr rfl) rfl)
end Go.Proofs.YteegmcfobgpemaaGreat
