/-
  A region, in the text's order or in whatever order: what is known behind it.
-/
import Derived.Test.YtmdhefepaolhcaaAbApp
import Derived.RegionTactic
namespace Go.Proofs.Ytmdhefepaolhcaa
open Go.RowKit
set_option linter.unusedVariables false
set_option linter.unusedSimpArgs false

/-- This row names it. -/
def namB (q : Nat × List Nat) (p : Nat × AV) : Bool := match hasN q.2 p.1 with | true => false | false => Nat.beq p.2.n q.1 || (Nat.beq (fnm p.1) q.1 || Nat.beq (fnm2 p.1) q.1)
theorem namB_no {q : Nat × List Nat} {p : Nat × AV} (h : namB q p = false) : hasN q.2 p.1 = false → p.2.n ≠ q.1 ∧ fnm p.1 ≠ q.1 ∧ fnm p.1 + 1000000 ≠ q.1 := fun h1 => by
  unfold namB at h
  rw [h1, fnm2_eq] at h
  simp only [Bool.or_eq_false_iff] at h
  exact ⟨fun e => by rw [e, Nat.beq_refl] at h; exact absurd h.1 (by simp), fun e => by rw [e, Nat.beq_refl] at h; exact absurd h.2.1 (by simp), fun e => by rw [e, Nat.beq_refl] at h; exact absurd h.2.2 (by simp)⟩
theorem namB_yes {q : Nat × List Nat} {p : Nat × AV} (h1 : hasN q.2 p.1 = false) (h : ¬ (p.2.n ≠ q.1 ∧ fnm p.1 ≠ q.1 ∧ fnm p.1 + 1000000 ≠ q.1)) : namB q p = true := by
  unfold namB
  rw [h1, fnm2_eq]
  simp only [Bool.or_eq_true]
  by_cases e : p.2.n = q.1
  · left; rw [e, Nat.beq_refl]
  · right
    by_cases e2 : fnm p.1 = q.1
    · left; rw [e2, Nat.beq_refl]
    · right
      have : fnm p.1 + 1000000 = q.1 := Decidable.byContradiction fun e3 => h ⟨e, e2, e3⟩
      rw [this, Nat.beq_refl]
def noRefB (s : AS) (N : List (Nat × List Nat)) : Bool := s.all fun p => N.all fun q => !namB q p
theorem look_mem : ∀ {s : AS} {k : Nat} {av : AV}, look s k = some av → (k, av) ∈ s
  | [], _, _, h => by simp [look] at h
  | (d, x) :: s, k, av, h => by
    rw [look_cons] at h
    split at h
    · rename_i e; subst e; cases h; simp
    · exact List.mem_cons_of_mem _ (look_mem h)
theorem noRefB_spec {s : AS} {N : List (Nat × List Nat)} (h : noRefB s N = true) : ∀ q ∈ N, NoRefE s q := by
  intro q hq k av hk he
  unfold noRefB at h
  rw [List.all_eq_true] at h
  have h1 := h _ (look_mem hk)
  rw [List.all_eq_true] at h1
  have h2 := h1 q hq
  simp only [Bool.not_eq_true'] at h2
  exact namB_no h2 he

section
variable (P : Program) (w0 : World) (U0 : UX) (nt : Nat)

/-- The steps in the text's order; what each read, named and wrote. -/
def Run (ops : Array Oper) : List Oper → AS → List (List Nat × List (Nat × List Nat) × AS) → (AS → List (List Nat × List (Nat × List Nat) × AS) → Prop) → Prop
  | [], s, acc, K => K s acc
  | o :: os, s, acc, K => ∃ (R : List Nat) (N : List (Nat × List Nat)) (e : AS), AOp P w0 U0 nt ops o R N (look s) e ∧ noRefB s N = true ∧ Run ops os (e ++ s) (acc ++ [(R, N, e)]) K

def AWp (c : Code) (Q : Exit → AS → Prop) (s : AS) : Prop :=
  ∀ a w, Sim w0 U0 nt s a w → c.wp P (fun e a' w' => ∃ s', Q e s' ∧ Sim w0 U0 nt s' a' w') a w
end

section
variable {P : Program} {w0 : World} {U0 : UX} {nt : Nat}

theorem run_list {ops : Array Oper} {Q : Exit → Act → World → Prop} : ∀ {l : List Oper} {s : AS} {acc : List (List Nat × List (Nat × List Nat) × AS)} {K : AS → List (List Nat × List (Nat × List Nat) × AS) → Prop}, Run P w0 U0 nt ops l s acc K → (∀ s' t' a w, K s' t' → Sim w0 U0 nt s' a w → Q .normal a w) → ∀ a w, Sim w0 U0 nt s a w → wpList P ops Q l a w
  | [], s, acc, K, h, hK, a, w, hs => hK s acc a w h hs
  | o :: os, s, acc, K, ⟨R, N, e, h1, h2, h3⟩, hK, a, w, hs => by
    have := h1 s (fun _ _ => rfl) (noRefB_spec h2) a w hs Q (wpList P ops Q os) (fun a' w' hs' => run_list h3 hK a' w' hs')
    unfold wpList
    split
    · rename_i hw; rw [if_pos hw] at this; exact .inl this
    · rename_i hw; rw [if_neg hw] at this; exact this

theorem awp_region {id : Nat} {l : List Oper} {Q : Exit → AS → Prop} {s : AS} (h : Run P w0 U0 nt l.toArray l s [] fun s' _ => Q .normal s') : AWp P w0 U0 nt (.region id l.toArray false) Q s :=
  fun a w hs => wp_region_lit (run_list h (fun s' t' a w h1 h2 => ⟨s', h1, h2⟩) a w hs)

/-- Behind these of the steps. -/
def accL (L : Nat → Bool) : Nat → List AS → AS → AS
  | _, [], s => s
  | i, e :: es, s => accL L (i + 1) es (bif L i then e ++ s else s)
def wr (e : AS) (k : Nat) : Prop := ∃ av, (k, av) ∈ e
theorem look_app : ∀ (e s : AS) (k : Nat), (look (e ++ s) k = look e k ∧ wr e k) ∨ (look (e ++ s) k = look s k ∧ ¬ wr e k)
  | [], s, k => .inr ⟨rfl, fun ⟨av, h⟩ => by cases h⟩
  | (d, x) :: e, s, k => by
    by_cases h : d = k
    · subst h
      exact .inl ⟨by rw [List.cons_append, look_same, look_same], x, by simp⟩
    · rw [List.cons_append, look_ne h, look_ne h]
      rcases look_app e s k with ⟨h1, av, h2⟩ | ⟨h1, h2⟩
      · exact .inl ⟨h1, av, List.mem_cons_of_mem _ h2⟩
      · refine .inr ⟨h1, fun ⟨av, h3⟩ => ?_⟩
        rcases List.mem_cons.1 h3 with h4 | h4
        · cases h4; exact h rfl
        · exact h2 ⟨av, h4⟩
theorem look_app_congr {e s s' : AS} {k : Nat} (h : look s k = look s' k) : look (e ++ s) k = look (e ++ s') k := by
  rcases look_app e s k with ⟨h1, h2⟩ | ⟨h1, h2⟩
  · rcases look_app e s' k with ⟨h3, h4⟩ | ⟨h3, h4⟩
    · rw [h1, h3]
    · exact absurd h2 h4
  · rcases look_app e s' k with ⟨h3, h4⟩ | ⟨h3, h4⟩
    · exact absurd h4 h2
    · rw [h1, h3, h]
theorem accL_congr {L L' : Nat → Bool} {k : Nat} : ∀ {es : List AS} {i : Nat} {s s' : AS}, (∀ j e, es[j]? = some e → wr e k → L (i + j) = L' (i + j)) → look s k = look s' k → look (accL L i es s) k = look (accL L' i es s') k
  | [], _, _, _, _, h => h
  | e :: es, i, s, s', h, hs => by
    refine accL_congr (es := es) (i := i + 1) (fun j e' hj hw => ?_) ?_
    · have := h (j + 1) e' (by simpa using hj) hw
      rwa [show i + (j + 1) = i + 1 + j by omega] at this
    · have h0 : wr e k → L i = L' i := fun hw => by simpa using h 0 e rfl hw
      by_cases hw : wr e k
      · rw [h0 hw]
        cases L' i with
        | true => exact look_app_congr hs
        | false => exact hs
      · have hne : ∀ s : AS, look (e ++ s) k = look s k := fun s => by
          rcases look_app e s k with ⟨_, h2⟩ | ⟨h1, _⟩
          · exact absurd h2 hw
          · exact h1
        cases L i <;> cases L' i <;> simp only [cond_true, cond_false, hne] <;> exact hs
theorem accL_mem {L : Nat → Bool} : ∀ {es : List AS} {i : Nat} {s : AS} {p : Nat × AV}, p ∈ accL L i es s → p ∈ s ∨ ∃ j e, es[j]? = some e ∧ L (i + j) = true ∧ p ∈ e
  | [], _, _, _, h => .inl h
  | e :: es, i, s, p, h => by
    rcases accL_mem (es := es) (i := i + 1) h with h1 | ⟨j, e', h1, h2, h3⟩
    · cases hL : L i with
      | true =>
        rw [hL, cond_true, List.mem_append] at h1
        rcases h1 with h1 | h1
        · exact .inr ⟨0, e, rfl, hL, h1⟩
        · exact .inl h1
      | false => rw [hL, cond_false] at h1; exact .inl h1
    · exact .inr ⟨j + 1, e', by simpa using h1, by rw [← h2]; congr 1; omega, h3⟩
theorem accL_base {L : Nat → Bool} : ∀ {es : List AS} {i : Nat} {s : AS} {p : Nat × AV}, p ∈ s → p ∈ accL L i es s
  | [], _, _, _, h => h
  | e :: es, i, s, p, h => by
    rw [accL]
    refine accL_base ?_
    cases L i with
    | true => exact List.mem_append_right _ h
    | false => exact h
theorem accL_in {L : Nat → Bool} : ∀ {es : List AS} {i j : Nat} {s e : AS} {p : Nat × AV}, es[j]? = some e → L (i + j) = true → p ∈ e → p ∈ accL L i es s
  | [], _, _, _, _, _, h, _, _ => by simp at h
  | x :: es, i, 0, s, e, p, h, hL, hp => by
    simp at h; subst h
    rw [accL]
    refine accL_base ?_
    rw [show L i = true by simpa using hL]
    exact List.mem_append_left _ hp
  | x :: es, i, j + 1, s, e, p, h, hL, hp => by
    rw [accL]
    exact accL_in (j := j) (by simpa using h) (by rw [← hL]; congr 1; omega) hp
/-- One step more. -/
theorem accL_on {L L' : Nat → Bool} {i : Nat} {e : AS} (hi : L i = false) (hi' : L' i = true) (ho : ∀ j, j ≠ i → L' j = L j) : ∀ {es : List AS} {m : Nat} {s : AS}, m ≤ i → es[i - m]? = some e → (∀ j e', es[j]? = some e' → i < m + j → L (m + j) = true → ∀ k, wr e k → ¬ wr e' k) → ∀ k, look (accL L' m es s) k = look (e ++ accL L m es s) k
  | [], m, s, _, h, _, k => by simp at h
  | e0 :: es, m, s, hm, h, hw, k => by
    by_cases hmi : m = i
    · subst hmi
      simp only [Nat.sub_self, List.getElem?_cons_zero, Option.some.injEq] at h
      subst h
      rw [accL, accL, hi, hi', cond_true, cond_false]
      have e1 : look (accL L' (m + 1) es (e0 ++ s)) k = look (accL L (m + 1) es (e0 ++ s)) k := accL_congr (fun j e' hj _ => ho _ (by omega)) rfl
      rw [e1]
      rcases look_app e0 (accL L (m + 1) es s) k with ⟨h1, h2⟩ | ⟨h1, h2⟩
      · rw [h1]
        have e2 : look (accL L (m + 1) es (e0 ++ s)) k = look (accL (fun _ => false) (m + 1) es (e0 ++ s)) k := accL_congr (fun j e' hj hwr => by
          cases hL : L (m + 1 + j) with
          | false => rfl
          | true => exact absurd hwr (hw (j + 1) e' (by simpa using hj) (by omega) (by rw [← hL]; congr 1; omega) k h2)) rfl
        rw [e2]
        have e3 : ∀ (es : List AS) (m : Nat) (s : AS), accL (fun _ => false) m es s = s := by
          intro es
          induction es with
          | nil => intro m s; rfl
          | cons e es ih => intro m s; rw [accL]; exact ih _ _
        rw [e3]
        rcases look_app e0 s k with ⟨h3, _⟩ | ⟨_, h4⟩
        · exact h3
        · exact absurd h2 h4
      · rw [h1]
        refine accL_congr (fun j e' hj _ => rfl) ?_
        rcases look_app e0 s k with ⟨_, h4⟩ | ⟨h3, _⟩
        · exact absurd h4 h2
        · exact h3
    · rw [accL, accL, ho m hmi]
      refine accL_on hi hi' ho (es := es) (m := m + 1) (by omega) ?_ (fun j e' hj h1 h2 => hw (j + 1) e' (by simpa using hj) (by omega) (by rw [← h2]; congr 1; omega)) k
      rw [show i - m = (i - (m + 1)) + 1 by omega] at h
      simpa using h

/-- What must come ahead, as bits. -/
def msk (ms : List Nat) : List Edge → Nat
  | [] => 0
  | e :: es => (bif Region.binds .any e then (2 ^ e.on) ||| ms.getD e.on 0 else 0) ||| msk ms es
def masks : List Oper → List Nat → List Nat
  | [], ms => ms
  | o :: os, ms => masks os (ms ++ [msk ms o.after.toList])

theorem msk_bit {ms : List Nat} {i : Nat} : ∀ {es : List Edge}, (msk ms es).testBit i = true → ∃ e ∈ es, Region.binds .any e = true ∧ (e.on = i ∨ (ms.getD e.on 0).testBit i = true)
  | [], h => by simp [msk] at h
  | e :: es, h => by
    rw [msk, Nat.testBit_or, Bool.or_eq_true] at h
    rcases h with h | h
    · cases hb : Region.binds .any e with
      | false => rw [hb] at h; simp at h
      | true =>
        rw [hb, cond_true, Nat.testBit_or, Bool.or_eq_true, Nat.testBit_two_pow] at h
        refine ⟨e, by simp, hb, h.imp (fun h => by simpa using h) id⟩
    · obtain ⟨e', h1, h2⟩ := msk_bit h
      exact ⟨e', List.mem_cons_of_mem _ h1, h2⟩
theorem masks_closed {L : Nat → Bool} {all : List Oper} (hL : ∀ (j : Nat) (o : Oper), all[j]? = some o → L j = true → ∀ e ∈ o.after, Region.binds .any e = true → L e.on = true) : ∀ {l : List Oper} {ms : List Nat}, (∀ j o, l[j]? = some o → all[ms.length + j]? = some o) → (∀ (j m i : Nat), ms[j]? = some m → m.testBit i = true → L j = true → L i = true) → ∀ (j m i : Nat), (masks l ms)[j]? = some m → m.testBit i = true → L j = true → L i = true
  | [], ms, _, h => h
  | o :: os, ms, ha, h => by
    refine masks_closed hL (l := os) (ms := ms ++ [msk ms o.after.toList]) (fun j o' hj => ?_) (fun j m i hj hb hl => ?_)
    · have := ha (j + 1) o' (by simpa using hj)
      simpa [Nat.add_assoc, Nat.add_comm 1 j] using this
    · rw [List.getElem?_append] at hj
      split at hj
      · exact h j m i hj hb hl
      · rename_i hlt
        have hj0 : j = ms.length := by
          rcases Nat.lt_or_ge 0 (j - ms.length) with h1 | h1
          · rw [List.getElem?_eq_none (by simp; omega)] at hj; cases hj
          · omega
        subst hj0
        simp at hj
        subst hj
        obtain ⟨e, h1, h2, h3⟩ := msk_bit hb
        have hLe := hL ms.length o (by simpa using ha 0 o rfl) hl e (by simpa using h1) h2
        rcases h3 with h3 | h3
        · rw [← h3]; exact hLe
        · cases hm : ms[e.on]? with
          | none => rw [List.getD_eq_getElem?_getD, hm] at h3; simp at h3
          | some m' =>
            rw [List.getD_eq_getElem?_getD, hm] at h3
            exact h e.on m' i hm h3 hLe

abbrev TrL := List (List Nat × List (Nat × List Nat) × AS)
def meet (l m : List Nat) : Bool := l.any fun n => hasN m n
theorem meet_of {l m : List Nat} {n : Nat} (h1 : n ∈ l) (h2 : n ∈ m) : meet l m = true := List.any_eq_true.2 ⟨n, h1, hasN_of h2⟩
def keysOf (e : AS) : List Nat := e.map (·.1)
def meetN (N : List (Nat × List Nat)) (e : AS) : Bool := N.any fun q => e.any fun p => namB q p
/-- These two may not change places. -/
def clash (a b : List Nat × List (Nat × List Nat) × AS) : Bool := meet (keysOf a.2.2) (b.1 ++ keysOf b.2.2) || meet (keysOf b.2.2) a.1 || meetN a.2.1 b.2.2
def chk1 (t : List Nat × List (Nat × List Nat) × AS) (i : Nat) : TrL → List Nat → Bool
  | [], _ => true
  | u :: us, m :: ms => (!clash t u || m.testBit i) && chk1 t i us ms
  | _ :: _, [] => false
def chk : TrL → List Nat → Nat → Bool
  | [], _, _ => true
  | t :: ts, m :: ms, i => chk1 t i ts ms && chk ts ms (i + 1)
  | _ :: _, [], _ => false
theorem chk1_spec {t : List Nat × List (Nat × List Nat) × AS} {i : Nat} : ∀ {us : TrL} {ms : List Nat}, chk1 t i us ms = true → ∀ (j : Nat) (u : List Nat × List (Nat × List Nat) × AS), us[j]? = some u → clash t u = true → ∃ m : Nat, ms[j]? = some m ∧ m.testBit i = true
  | [], _, _, j, u, hj, _ => by simp at hj
  | u :: us, [], h, _, _, _, _ => by simp [chk1] at h
  | u :: us, m :: ms, h, 0, u', hj, hc => by
    simp at hj; subst hj
    rw [chk1, Bool.and_eq_true, hc] at h
    exact ⟨m, rfl, by simpa using h.1⟩
  | u :: us, m :: ms, h, j + 1, u', hj, hc => by
    rw [chk1, Bool.and_eq_true] at h
    obtain ⟨m', h1, h2⟩ := chk1_spec h.2 j u' (by simpa using hj) hc
    exact ⟨m', by simpa using h1, h2⟩
theorem chk_spec : ∀ {tr : TrL} {ms : List Nat} {b : Nat}, chk tr ms b = true → ∀ (i j : Nat) (t u : List Nat × List (Nat × List Nat) × AS), i < j → tr[i]? = some t → tr[j]? = some u → clash t u = true → ∃ m : Nat, ms[j]? = some m ∧ m.testBit (b + i) = true
  | [], _, _, _, i, _, _, _, _, hi, _, _ => by simp at hi
  | t :: ts, [], _, h, _, _, _, _, _, _, _, _ => by simp [chk] at h
  | t :: ts, m :: ms, b, h, 0, j, t', u, hij, hi, hj, hc => by
    simp at hi; subst hi
    rw [chk, Bool.and_eq_true] at h
    obtain ⟨j, rfl⟩ : ∃ k, j = k + 1 := ⟨j - 1, by omega⟩
    obtain ⟨m', h1, h2⟩ := chk1_spec h.1 j u (by simpa using hj) hc
    exact ⟨m', by simpa using h1, h2⟩
  | t :: ts, m :: ms, b, h, i + 1, j, t', u, hij, hi, hj, hc => by
    rw [chk, Bool.and_eq_true] at h
    obtain ⟨j, rfl⟩ : ∃ k, j = k + 1 := ⟨j - 1, by omega⟩
    obtain ⟨m', h1, h2⟩ := chk_spec h.2 i j t' u (by omega) (by simpa using hi) (by simpa using hj) hc
    exact ⟨m', by simpa using h1, by rw [← h2]; congr 1; omega⟩

/-- What is known behind the first i steps. -/
def stAt (s : AS) (tr : TrL) (i : Nat) : AS := accL (fun j => decide (j < i)) 0 (tr.map (·.2.2)) s
theorem accL_all {L : Nat → Bool} : ∀ {es : List AS} {i : Nat} {s : AS} (e : AS), (∀ j, j < es.length → L (i + j) = true) → L (i + es.length) = true → accL L i (es ++ [e]) s = e ++ accL L i es s
  | [], i, s, e, _, h => by rw [List.nil_append, accL, accL, accL, show L i = true by simpa using h]; rfl
  | x :: es, i, s, e, h1, h2 => by
    rw [List.cons_append, accL, accL]
    exact accL_all e (fun j hj => by have := h1 (j + 1) (by simp; omega); rwa [show i + (j + 1) = i + 1 + j by omega] at this) (by rw [← h2]; congr 1; simp; omega)
theorem accL_ext {L L' : Nat → Bool} : ∀ {es : List AS} {i : Nat} {s : AS}, (∀ j, j < es.length → L (i + j) = L' (i + j)) → accL L i es s = accL L' i es s
  | [], _, _, _ => rfl
  | e :: es, i, s, h => by
    rw [accL, accL, show L i = L' i by simpa using h 0 (by simp)]
    exact accL_ext fun j hj => by have := h (j + 1) (by simp; omega); rwa [show i + (j + 1) = i + 1 + j by omega] at this
theorem accL_none {L : Nat → Bool} : ∀ {es : List AS} {i : Nat} {s : AS}, (∀ j, j < es.length → L (i + j) = false) → accL L i es s = s
  | [], _, _, _ => rfl
  | e :: es, i, s, h => by
    rw [accL, show L i = false by simpa using h 0 (by simp)]
    exact accL_none fun j hj => by have := h (j + 1) (by simp; omega); rwa [show i + (j + 1) = i + 1 + j by omega] at this
theorem accL_split {L : Nat → Bool} : ∀ {es fs : List AS} {i : Nat} {s : AS}, accL L i (es ++ fs) s = accL L (i + es.length) fs (accL L i es s)
  | [], _, _, _ => rfl
  | e :: es, fs, i, s => by
    rw [List.cons_append, accL, accL, accL_split]
    congr 1
    simp; omega

theorem run_trace {ops : Array Oper} : ∀ {l : List Oper} {s : AS} {acc : TrL} {K : AS → TrL → Prop}, Run P w0 U0 nt ops l s acc K → ∃ tr : TrL, tr.length = l.length ∧ K (stAt s tr tr.length) (acc ++ tr) ∧ ∀ i o t, l[i]? = some o → tr[i]? = some t → AOp P w0 U0 nt ops o t.1 t.2.1 (look (stAt s tr i)) t.2.2 ∧ noRefB (stAt s tr i) t.2.1 = true
  | [], s, acc, K, h => ⟨[], rfl, by rw [List.append_nil]; exact h, fun i o t hi => by simp at hi⟩
  | o :: os, s, acc, K, ⟨R, N, e, h1, h2, h3⟩ => by
    obtain ⟨tr, g1, g2, g3⟩ := run_trace h3
    have hst : ∀ i, stAt s ((R, N, e) :: tr) (i + 1) = stAt (e ++ s) tr i := fun i => by
      unfold stAt
      rw [List.map_cons, accL]
      simp only [Nat.zero_lt_succ, decide_true, cond_true, Nat.zero_add]
      have hsh : ∀ (es : List AS) (b : Nat) (s : AS), accL (fun j => decide (j < i + 1)) (b + 1) es s = accL (fun j => decide (j < i)) b es s := by
        intro es
        induction es with
        | nil => intro b s; rfl
        | cons e es ih =>
          intro b s
          rw [accL, accL, ih]
          congr 1
          have : decide (b + 1 < i + 1) = decide (b < i) := by simp
          rw [this]
      exact hsh _ 0 _
    refine ⟨(R, N, e) :: tr, by simp [g1], ?_, fun i o' t hi ht => ?_⟩
    · rw [List.length_cons, hst]
      rw [List.append_assoc, List.singleton_append] at g2
      exact g2
    · cases i with
      | zero =>
        simp at hi ht
        subst hi; subst ht
        have : stAt s ((R, N, e) :: tr) 0 = s := accL_none fun j _ => by simp
        rw [this]
        exact ⟨h1, h2⟩
      | succ i =>
        rw [hst]
        exact g3 i o' t (by simpa using hi) (by simpa using ht)
end

section
variable {P : Program} {ops : Array Oper} {Q : Exit → Act → World → Prop} {md : Region.Mode}

/-- How many are still to come. -/
def leftN (listed : Array Bool) : Nat := listed.toList.countP (fun b => !b)
theorem leftN_set {listed : Array Bool} {i : Nat} (h : listed.getD i true = false) : leftN (listed.setIfInBounds i true) + 1 = leftN listed := by
  have hlt : i < listed.size := by
    rcases Nat.lt_or_ge i listed.size with h1 | h1
    · exact h1
    · simp [Array.getD, Nat.not_lt.2 h1] at h
  have hi : listed.toList[i]'(by simpa using hlt) = false := by simpa [Array.getD, hlt] using h
  unfold leftN
  rw [Array.toList_setIfInBounds, List.countP_set (by simpa using hlt)]
  have hpos : 0 < listed.toList.countP (fun b => !b) := List.countP_pos_iff.2 ⟨_, List.getElem_mem (by simpa using hlt), by simp [hi]⟩
  rw [hi]
  simp only [Bool.not_false, Bool.not_true, if_true, Bool.false_eq_true, if_false]
  omega
theorem leftN_zero {listed : Array Bool} (h : leftN listed = 0) {i : Nat} (hi : i < listed.size) : listed.getD i true = true := by
  unfold leftN at h
  rw [List.countP_eq_zero] at h
  have := h (listed.toList[i]'(by simpa using hi)) (List.getElem_mem _)
  simpa [Array.getD, hi] using this

/-- What each part keeps, whatever came ahead of it, holds at the end. -/
theorem wpAny_invN (I : Array Bool → Act → World → Prop) (hord : ∀ (i : Nat) (o : Oper), ops[i]? = some o → ∀ e ∈ o.after, Region.binds md e = true → e.on < i) (hsz : ∀ listed a w, I listed a w → listed.size = ops.size)
    (hstep : ∀ (listed : Array Bool) (a : Act) (w : World) (i : Nat) (o : Oper), I listed a w → ops[i]? = some o → listed.getD i true = false → (∀ e ∈ o.after, Region.binds md e = true → listed.getD e.on false = true) → wpOp P ops Q i (I (listed.setIfInBounds i true)) a w)
    (hdone : ∀ listed a w, I listed a w → (∀ i, i < ops.size → listed.getD i true = true) → Q .normal a w) :
    ∀ (fuel : Nat) (listed : Array Bool) (a : Act) (w : World), I listed a w → leftN listed ≤ fuel → wpAny P md ops Q fuel listed a w := by
  have hready : ∀ listed a w, I listed a w → Region.ready md ops listed = [] → Q .normal a w := by
    intro listed a w hI hr
    refine hdone listed a w hI ?_
    intro i
    induction i using Nat.strongRecOn with
    | ind i ih =>
      intro hi
      rcases hb : listed.getD i true with _ | _
      · exfalso
        have hm : i ∈ Region.ready md ops listed := by
          refine mem_ready.2 ⟨hb, ops[i], Array.getElem?_eq_getElem hi, fun e he hbd => ?_⟩
          have hlt := hord i _ (Array.getElem?_eq_getElem hi) e he hbd
          have h1 := ih e.on hlt (by omega)
          have hs := hsz listed a w hI
          have h2 : e.on < listed.size := by omega
          simpa [Array.getD, h2] using h1
        rw [hr] at hm
        cases hm
      · rfl
  intro fuel
  induction fuel with
  | zero =>
    intro listed a w hI hl
    have hr : Region.ready md ops listed = [] := by
      rw [List.eq_nil_iff_forall_not_mem]
      intro i hi
      obtain ⟨h1, o, ho, _⟩ := mem_ready.1 hi
      have h2 := leftN_zero (Nat.le_zero.1 hl) (i := i) (by have := hsz listed a w hI; have := (Array.getElem?_eq_some_iff.1 ho).1; omega)
      rw [h1] at h2
      cases h2
    exact ⟨hr, hready listed a w hI hr⟩
  | succ fuel ih =>
    intro listed a w hI hl
    refine ⟨hready listed a w hI, fun i hi => ?_⟩
    obtain ⟨h1, o, ho, h2⟩ := mem_ready.1 hi
    refine wpOp_mono (fun a' w' h' => ih _ _ _ h' ?_) (hstep listed a w i o hI ho h1 h2)
    have := leftN_set h1
    omega
end
/-- Each waits for earlier ones alone. -/
def ordL : List Oper → Nat → Bool
  | [], _ => true
  | o :: os, i => (o.after.toList.all fun e => !Region.binds .any e || Nat.blt e.on i) && ordL os (i + 1)
theorem ordL_spec : ∀ {l : List Oper} {b : Nat}, ordL l b = true → ∀ i o, l[i]? = some o → ∀ e ∈ o.after, Region.binds .any e = true → e.on < b + i
  | [], _, _, i, o, hi => by simp at hi
  | x :: l, b, h, 0, o, hi => by
    simp at hi; subst hi
    rw [ordL, Bool.and_eq_true, List.all_eq_true] at h
    intro e he hb
    have h2 := h.1 e (by simpa using he)
    rw [hb, Bool.not_true, Bool.false_or] at h2
    have := blt_lt h2
    omega
  | x :: l, b, h, i + 1, o, hi => by
    rw [ordL, Bool.and_eq_true] at h
    intro e he hb
    have := ordL_spec h.2 i o (by simpa using hi) e he hb
    omega

section
variable {P : Program} {w0 : World} {U0 : UX} {nt : Nat}

theorem Sim.congr {s s' : AS} {a : Act} {w : World} (h : Sim w0 U0 nt s a w) (he : ∀ k, look s' k = look s k) : Sim w0 U0 nt s' a w := by
  obtain ⟨D, hv, h⟩ := h
  exact ⟨D, hv, h.congr he⟩

theorem getD_set {listed : Array Bool} {i j : Nat} (b : Bool) (hj : j ≠ i) : (listed.setIfInBounds i true).getD j b = listed.getD j b := by
  simp [Array.getD_eq_getD_getElem?, Array.getElem?_setIfInBounds, Ne.symm hj]
theorem getD_true_false {listed : Array Bool} {i : Nat} (hi : i < listed.size) (b c : Bool) : listed.getD i b = listed.getD i c := by
  simp [Array.getD, hi]

/-- In whatever order. -/
theorem awp_draw {id : Nat} {l : List Oper} {Q : Exit → AS → Prop} {s : AS} (hm : P.follows .mixedOrders = true) (hord : ordL l 0 = true) (h : Run P w0 U0 nt l.toArray l s [] fun s' tr => chk tr (masks l []) 0 = true ∧ Q .normal s') : AWp P w0 U0 nt (.region id l.toArray true) Q s := by
  intro a w hs
  obtain ⟨tr, hlen, ⟨hchk, hQ⟩, hop⟩ := run_trace h
  rw [List.nil_append] at hchk
  refine wp_region_any hm ?_
  obtain ⟨es, hes⟩ : ∃ es : List AS, es = tr.map (·.2.2) := ⟨_, rfl⟩
  have hel : es.length = l.length := by rw [hes, List.length_map, hlen]
  have hdrew : Sim w0 U0 nt s a { w with drawn := w.drawn + 1 } := by
    obtain ⟨D, hv, hG⟩ := hs
    exact ⟨D, hv, hG.grow' (Below.drew (Below.refl _ _))⟩
  let LL : Array Bool → Nat → Bool := fun listed i => listed.getD i false
  let Cl : Array Bool → Prop := fun listed => ∀ (j : Nat) (o : Oper), l[j]? = some o → LL listed j = true → ∀ e ∈ o.after, Region.binds .any e = true → LL listed e.on = true
  refine wpAny_invN (md := .any) (fun listed a w => listed.size = l.toArray.size ∧ Cl listed ∧ Sim w0 U0 nt (accL (LL listed) 0 es s) a w) (fun i o ho e he hb => ?_) (fun _ _ _ h => h.1) ?_ ?_ _ _ a _ ⟨by simp, ?_, ?_⟩ ?_
  · rw [List.getElem?_toArray] at ho
    have := ordL_spec hord i o ho e he hb
    omega
  · rintro listed a w i o ⟨h1, h2, h3⟩ ho hl hr
    rw [List.getElem?_toArray] at ho
    have hil : i < l.length := by
      rcases Nat.lt_or_ge i l.length with h | h
      · exact h
      · rw [List.getElem?_eq_none h] at ho; cases ho
    have hsz : listed.size = l.length := by rw [h1]; simp
    obtain ⟨t, ht⟩ : ∃ t, tr[i]? = some t := ⟨tr[i]'(by omega), List.getElem?_eq_getElem (by omega)⟩
    have hei : es[i]? = some t.2.2 := by rw [hes, List.getElem?_map, ht]; rfl
    have hLi : LL listed i = false := by show listed.getD i false = false; rw [getD_true_false (by omega) false true]; exact hl
    have hmask := masks_closed (L := LL listed) (all := l) h2 (l := l) (ms := []) (fun j o hj => by simpa using hj) (fun j m i hj => by simp at hj)
    have hcl' : Cl (listed.setIfInBounds i true) := fun j o' hj hLj e he hb => by
      have hset : ∀ q, LL listed q = true → LL (listed.setIfInBounds i true) q = true := fun q hq => by
        by_cases hqi : q = i
        · subst hqi; rw [hLi] at hq; cases hq
        · show (listed.setIfInBounds i true).getD q false = true
          rw [getD_set false hqi]; exact hq
      by_cases hji : j = i
      · subst hji
        rw [ho] at hj
        cases hj
        exact hset _ (hr e he hb)
      · refine hset _ (h2 j o' hj ?_ e he hb)
        have hLj : (listed.setIfInBounds i true).getD j false = true := hLj
        rw [getD_set false hji] at hLj
        exact hLj
    have hmask' := masks_closed (L := LL (listed.setIfInBounds i true)) (all := l) hcl' (l := l) (ms := []) (fun j o hj => by simpa using hj) (fun j m i hj => by simp at hj)
    have hon : LL (listed.setIfInBounds i true) i = true := by
      show (listed.setIfInBounds i true).getD i false = true
      simp [Array.getD_eq_getD_getElem?, hsz, hil]
    -- of two that clash the first is ahead
    have hahead : ∀ j u, tr[j]? = some u → j < i → clash u t = true → LL listed j = true := fun j u hj hji hc => by
      obtain ⟨m, g1, g2⟩ := chk_spec hchk j i u t hji hj ht hc
      have g3 : (listed.setIfInBounds i true).getD j false = true := hmask' i m j g1 (by simpa using g2) hon
      rw [getD_set false (by omega)] at g3
      exact g3
    have hbehind : ∀ j u, tr[j]? = some u → i < j → clash t u = true → LL listed j = false := fun j u hj hji hc => by
      obtain ⟨m, g1, g2⟩ := chk_spec hchk i j t u hji ht hj hc
      cases hL : LL listed j with
      | false => rfl
      | true =>
        have := hmask j m i g1 (by simpa using g2) hL
        rw [hLi] at this
        cases this
    obtain ⟨hA, hN⟩ := hop i o t ho ht
    have hstate : ∀ k ∈ t.1, look (accL (LL listed) 0 es s) k = look (stAt s tr i) k := fun k hk => by
      unfold stAt
      rw [← hes]
      refine accL_congr (fun j e' hj hw => ?_) rfl
      rw [Nat.zero_add]
      rw [hes, List.getElem?_map] at hj
      cases htj : tr[j]? with
      | none => rw [htj] at hj; cases hj
      | some u =>
        rw [htj] at hj
        cases hj
        obtain ⟨av, hav⟩ := hw
        have hkm : k ∈ keysOf u.2.2 := List.mem_map.2 ⟨(k, av), hav, rfl⟩
        by_cases hji : j < i
        · rw [hahead j u htj hji (by unfold clash; rw [meet_of hkm (List.mem_append_left _ hk)]; rfl)]
          simp [hji]
        · by_cases hji2 : j = i
          · subst hji2; rw [hLi]; simp
          · rw [hbehind j u htj (by omega) (by unfold clash; rw [meet_of hkm hk]; simp)]
            simp; omega
    have hnoref : ∀ n ∈ t.2.1, NoRefE (accL (LL listed) 0 es s) n := fun n hn k av hk hex => Decidable.byContradiction fun e => by
      have hall : ∀ p ∈ stAt s tr i, hasN n.2 p.1 = false → p.2.n ≠ n.1 ∧ fnm p.1 ≠ n.1 ∧ fnm p.1 + 1000000 ≠ n.1 := fun p hp he => by
        unfold noRefB at hN
        rw [List.all_eq_true] at hN
        have g1 := hN p hp
        rw [List.all_eq_true] at g1
        have g2 := g1 n hn
        simp only [Bool.not_eq_true'] at g2
        exact namB_no g2 he
      rcases accL_mem (look_mem hk) with g1 | ⟨j, e', g1, g2, g3⟩
      · exact e (hall _ (accL_base g1) hex)
      · rw [Nat.zero_add] at g2
        rw [hes, List.getElem?_map] at g1
        cases htj : tr[j]? with
        | none => rw [htj] at g1; cases g1
        | some u =>
          rw [htj] at g1
          cases g1
          by_cases hji : j < i
          · refine e (hall (k, av) ?_ hex)
            unfold stAt
            exact accL_in (j := j) (by rw [List.getElem?_map, htj]; rfl) (by simp [hji]) g3
          · by_cases hji2 : j = i
            · subst hji2; rw [hLi] at g2; cases g2
            · have hc : clash t u = true := by
                have hm2 : meetN t.2.1 u.2.2 = true := List.any_eq_true.2 ⟨n, hn, List.any_eq_true.2 ⟨(k, av), g3, namB_yes hex e⟩⟩
                unfold clash
                rw [hm2]
                simp
              rw [hbehind j u htj (by omega) hc] at g2
              cases g2
    have := hA _ hstate hnoref a w h3 (fun e a' w' => ∃ s', Q e s' ∧ Sim w0 U0 nt s' a' w') (fun a w => (listed.setIfInBounds i true).size = l.toArray.size ∧ Cl (listed.setIfInBounds i true) ∧ Sim w0 U0 nt (accL (LL (listed.setIfInBounds i true)) 0 es s) a w) (fun a' w' hs' => ⟨by simpa using h1, ?_, ?_⟩)
    · unfold wpOp
      rw [List.getElem?_toArray, ho]
      simp only
      split
      · rename_i hw; rw [if_pos hw] at this; exact .inl this
      · rename_i hw; rw [if_neg hw] at this; exact this
    · exact hcl'
    · refine hs'.congr fun k => ?_
      refine accL_on hLi hon (fun j hj => getD_set false hj) (Nat.zero_le _) (by simpa using hei) (fun j e' hj hlt hL k hw hw' => ?_) k
      rw [Nat.zero_add] at hlt hL
      rw [hes, List.getElem?_map] at hj
      cases htj : tr[j]? with
      | none => rw [htj] at hj; cases hj
      | some u =>
        rw [htj] at hj
        cases hj
        obtain ⟨av, hav⟩ := hw
        obtain ⟨av', hav'⟩ := hw'
        have hc : clash t u = true := by
          have hm1 : k ∈ keysOf t.2.2 := List.mem_map.2 ⟨(k, av), hav, rfl⟩
          have hm2 : k ∈ keysOf u.2.2 := List.mem_map.2 ⟨(k, av'), hav', rfl⟩
          unfold clash
          rw [meet_of hm1 (List.mem_append_right _ hm2)]
          rfl
        rw [hbehind j u htj hlt hc] at hL
        cases hL
  · rintro listed a w ⟨h1, h2, h3⟩ hall
    refine ⟨stAt s tr tr.length, hQ, ?_⟩
    have : accL (LL listed) 0 es s = stAt s tr tr.length := by
      unfold stAt
      rw [← hes]
      refine accL_ext fun j hj => ?_
      have hjl : j < l.length := by omega
      have g1 := hall j (by simpa using hjl)
      show listed.getD (0 + j) false = _
      rw [Nat.zero_add, getD_true_false (by rw [h1]; simpa using hjl) false true, g1]
      simp; omega
    rw [← this]
    exact h3
  · intro j o hj hL
    have hL : (Array.replicate l.toArray.size false).getD j false = true := hL
    simp [Array.getD_eq_getD_getElem?] at hL
    cases hx : (Array.replicate l.length false)[j]? with
    | none => rw [hx] at hL; cases hL
    | some b =>
      rw [hx] at hL
      rw [Array.getElem?_replicate] at hx
      split at hx
      · cases hx; cases hL
      · cases hx
  · have : accL (LL (Array.replicate l.toArray.size false)) 0 es s = s := accL_none fun j hj => by
      show (Array.replicate l.toArray.size false).getD (0 + j) false = false
      simp only [Array.getD_eq_getD_getElem?, Array.getElem?_replicate]
      split <;> rfl
    rw [this]
    exact hdrew
  · unfold leftN
    refine Nat.le_trans List.countP_le_length ?_
    simp
end
end Go.Proofs.Ytmdhefepaolhcaa
