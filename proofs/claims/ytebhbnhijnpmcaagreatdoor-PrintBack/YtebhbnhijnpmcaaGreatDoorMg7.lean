/-
  PrLen SbNorm AbRangeV SbQ AbBackB SbImg SbApM ClSides ClWith SrtGen ClNmM SbVnt2 ClNmN ClSort ClNmW ClNmX ClTtM ClRefN
-/
import Derived.Test.YtebhbnhijnpmcaaGreatDoorMg6
import Derived.Test.YtebhbnhijnpmcaaGreatDoorMg4
import Derived.Test.YtebhbnhijnpmcaaGreatDoorMg3
import Derived.Test.YtebhbnhijnpmcaaGreatDoorMg2
import Derived.Test.YtebhbnhijnpmcaaGreatDoorMg5
namespace Go.Proofs.YtebhbnhijnpmcaaGreatDoor
open Go.RowKit
set_option linter.unusedVariables false
set_option linter.unusedSimpArgs false
set_option maxRecDepth 10000
def tkB (T : List By) : Nat := (T.map List.length).sum
def tkM (T : List By) : Nat := (T.map fun x => x.length + 3).sum
theorem tkB_app (a b : List By) : tkB (a ++ b) = tkB a + tkB b := by unfold tkB; simp
theorem tkM_app (a b : List By) : tkM (a ++ b) = tkM a + tkM b := by unfold tkM; simp
theorem tkB_cons (x : By) (b : List By) : tkB (x :: b) = x.length + tkB b := by unfold tkB; simp
theorem tkM_cons (x : By) (b : List By) : tkM (x :: b) = x.length + 3 + tkM b := by unfold tkM; simp
theorem toks_M : ∀ (n : Nat) (s : By), s.length ≤ n → tkM (toks s) ≤ 4 * s.length := by
  intro n
  induction n with
  | zero =>
    intro s h
    have : s = [] := List.eq_nil_of_length_eq_zero (by omega)
    subst this
    rw [toks_nil]
    exact Nat.le_refl _
  | succ n ih =>
    intro s h
    rw [toks_eq]
    split
    · exact Nat.zero_le _
    · rename_i hne
      have hlt := mvT_rs hne
      have h1 := ih _ (show (mvT s).rs.length ≤ n by omega)
      have h2 := mvT_len s
      unfold Tkn.len at h2
      have h3 : 0 < (mvT s).nx.length := List.length_pos_iff.2 hne
      rw [tkM_cons]
      omega
theorem comT_B (L : List (List By)) : tkB (comT L) = (L.map tkB).sum + L.length := by
  induction L with
  | nil => rfl
  | cons x L ih =>
    have h44 : ([44] : By).length = 1 := rfl
    have hl : (x :: L).length = L.length + 1 := rfl
    rw [comT_cons, tkB_cons, tkB_app, ih, List.map_cons, List.sum_cons]
    omega
theorem comT_M (L : List (List By)) : tkM (comT L) = (L.map tkM).sum + 4 * L.length := by
  induction L with
  | nil => rfl
  | cons x L ih =>
    have h44 : ([44] : By).length = 1 := rfl
    have hl : (x :: L).length = L.length + 1 := rfl
    rw [comT_cons, tkM_cons, tkM_app, ih, List.map_cons, List.sum_cons]
    omega
theorem bodT_BM {L M : List (List By)} (hl : L.length = M.length) (hs : (L.map tkB).sum ≤ (M.map tkM).sum) : tkB (bodT L) ≤ tkM (bodT M) := by
  cases L with
  | nil => exact Nat.zero_le _
  | cons x L =>
    cases M with
    | nil => cases hl
    | cons y M =>
      have e : (L.map tkB).sum + L.length = tkB (comT L) := (comT_B L).symm
      have e2 : (M.map tkM).sum + 4 * M.length = tkM (comT M) := (comT_M M).symm
      rw [bodT, bodT, tkB_cons, tkM_cons, tkB_app, tkM_app, tkB_app, tkM_app, ← e, ← e2]
      rw [List.map_cons, List.map_cons, List.sum_cons, List.sum_cons] at hs
      have h1 : L.length = M.length := by simpa using hl
      have h41 : tkB [[41]] = 1 := rfl
      have h41' : tkM [[41]] = 4 := rfl
      have h40 : ([40] : By).length = 1 := rfl
      omega
theorem join_len_eq (l : List By) : l ≠ [] → (joinW [44] l).length + 1 = (l.map List.length).sum + l.length := by
  intro h
  cases l with
  | nil => exact absurd rfl h
  | cons x xs =>
    show (x ++ xs.flatMap ([44] ++ ·)).length + 1 = _
    rw [List.length_append, List.length_flatMap, List.map_cons, List.sum_cons, List.length_cons]
    have : ∀ xs : List By, (xs.map fun y => (([44] : By) ++ y).length).sum = (xs.map List.length).sum + xs.length := by
      intro xs
      induction xs with
      | nil => rfl
      | cons y ys ih =>
        rw [List.map_cons, List.sum_cons, List.map_cons, List.sum_cons, List.length_cons, ih]
        show (y.length + 1) + _ = _
        omega
    rw [this]
    omega
theorem txT_B (nm : List By) : ∀ t : Tm, (txT nm t).length = tkB (phT nm t).tk := by
  refine Tm.ind ?_
  intro f l ih
  rw [txT_eq, phT_eq, Ph.tk_eq]
  simp only
  by_cases hf : f < 0
  · rw [if_pos hf, if_pos hf]
    rfl
  · rw [if_neg hf, if_neg hf, tkB_cons, List.length_append]
    congr 1
    show (parX (l.map (txT nm))).length = tkB (bodT ((l.map (phT nm)).map Ph.tk))
    have hsum : ((l.map (txT nm)).map List.length).sum = (((l.map (phT nm)).map Ph.tk).map tkB).sum := by
      rw [List.map_map, List.map_map, List.map_map]
      congr 1
      exact List.map_congr_left fun t ht => ih t ht
    by_cases hl : l = []
    · subst hl; rfl
    · have hne : l.map (txT nm) ≠ [] := fun e => hl (List.map_eq_nil_iff.1 e)
      rw [parX_ne hne, List.length_cons, List.length_append]
      have hj := join_len_eq _ hne
      rw [hsum] at hj
      cases l with
      | nil => exact absurd rfl hl
      | cons x xs =>
        have hs2 : ((((x :: xs).map (phT nm)).map Ph.tk).map tkB).sum = tkB (phT nm x).tk + (((xs.map (phT nm)).map Ph.tk).map tkB).sum := by simp
        have hl2 : ((x :: xs).map (txT nm)).length = xs.length + 1 := by simp
        rw [hs2, hl2] at hj
        have e9 : bodT (((x :: xs).map (phT nm)).map Ph.tk) = [40] :: ((phT nm x).tk ++ (comT ((xs.map (phT nm)).map Ph.tk) ++ [[41]])) := rfl
        rw [e9, tkB_cons, tkB_app, tkB_app, comT_B]
        have h41 : tkB [[41]] = 1 := rfl
        have h40 : ([40] : By).length = 1 := rfl
        have h41' : ([41] : By).length = 1 := rfl
        simp only [List.length_map]
        omega
theorem dec_len {i : Nat} (h : i < 100) : (Lib.decDigits i).length ≤ 2 := by
  by_cases h1 : i < 10
  · rw [Lib.decDigits_one h1]; simp
  · rw [Lib.decDigits_two h1 h]; simp
theorem fold_len {B n : Nat} (hf : ∀ st p r, Nx B st → p.nice B → tmF n st p = some r → r.2.1 = true → ∀ nmF, r.2.2.sg.nm <+: nmF → r.2.2.vr.length ≤ 100 → tkB (phT nmF r.1).tk ≤ tkM p.tk) : ∀ (ps : List Ph) (st : Nm) (acc : List Tm) (r : List Tm × Bool × Nm) (ts : List Tm), Nx B st → (∀ p ∈ ps, p.nice B) → foldP (tmF n) st ps acc = some r → r.2.1 = true → r.1 = acc ++ ts → ∀ nmF, r.2.2.sg.nm <+: nmF → r.2.2.vr.length ≤ 100 → (((ts.map (phT nmF)).map Ph.tk).map tkB).sum ≤ ((ps.map Ph.tk).map tkM).sum
  | [], st, acc, r, ts, h, _, e, _, hts, nmF, hF, hv => by
    simp only [foldP, Option.some.injEq] at e
    subst e
    have : ts = [] := by simpa using hts
    subst this
    exact Nat.le_refl _
  | p :: ps, st, acc, r, ts, h, hp, e, hok, hts, nmF, hF, hv => by
    rw [foldP] at e
    cases hx : tmF n st p with
    | none => rw [hx] at e; cases e
    | some q =>
      rw [hx] at e
      simp only at e
      split at e
      · rename_i hq
        have h1 := tm_tw n st p q h (hp p (by simp)) hx hq
        obtain ⟨us, a1, a2, a3, a4, a5, _⟩ := fold_tw (tm_tw n) ps q.2.2 (acc ++ [q.1]) r h1.nx (fun x hm => hp x (List.mem_cons_of_mem _ hm)) e hok
        have hi := fold_len hf ps q.2.2 (acc ++ [q.1]) r us h1.nx (fun x hm => hp x (List.mem_cons_of_mem _ hm)) e hok a1 nmF hF hv
        have h2 := hf st p q h (hp p (by simp)) hx hq nmF (a4.trans hF) (by omega)
        have : ts = q.1 :: us := by
          rw [a1, List.append_assoc] at hts
          exact (List.append_cancel_left hts).symm
        subst this
        simp only [List.map_cons, List.sum_cons]
        omega
      · cases e; cases hok
theorem sym_len {B n : Nat} (hf : ∀ st p r, Nx B st → p.nice B → tmF n st p = some r → r.2.1 = true → ∀ nmF, r.2.2.sg.nm <+: nmF → r.2.2.vr.length ≤ 100 → tkB (phT nmF r.1).tk ≤ tkM p.tk) {st : Nm} {p : Ph} {pred : Bool} {r : Tm × Bool × Nm} (h : Nx B st) (hp : p.nice B) (hg : isSmL p.name = true) (e : symF (tmF n) st p pred = some r) (hok : r.2.1 = true) {nmF : List By} (hF : r.2.2.sg.nm <+: nmF) (hv : r.2.2.vr.length ≤ 100) : tkB (phT nmF r.1).tk ≤ tkM p.tk := by
  obtain ⟨⟨p1, p2, p3, p4⟩, p5⟩ := (Ph.nice_iff B p).1 hp
  obtain ⟨_, _, _, _, hpos, _, hname⟩ := sym_tw (tm_tw n) h hp hg e hok
  obtain ⟨_, hnm, _⟩ := hname nmF hF
  unfold symF at e
  split at e
  · rename_i hn
    obtain ⟨n1, n2, n3, n4, n5, n6⟩ := numF_nx h (k := ⟨p.name, p.parts.length, pred⟩) ⟨hg, p2, p3⟩ hn
    split at e
    · cases e
    · rename_i q hq
      split at e
      · rename_i hqok
        cases e
        obtain ⟨ts, a1, a2, _⟩ := fold_tw (tm_tw n) p.parts _ [] q n1 p5 hq hqok
        have hs := fold_len hf p.parts _ [] q ts n1 p5 hq hqok a1 nmF hF hv
        rw [List.nil_append] at a1
        have hparts : (phT nmF ⟨((numF st ⟨p.name, p.parts.length, pred⟩).1 : Int), q.1⟩).parts = ts.map (phT nmF) := by
          rw [phT_eq, if_neg (by show ¬ ((numF st ⟨p.name, p.parts.length, pred⟩).1 : Int) < 0; omega), a1]
        rw [Ph.tk_eq, p.tk_eq, tkB_cons, tkM_cons, hnm]
        have := bodT_BM (L := (ts.map (phT nmF)).map Ph.tk) (M := p.parts.map Ph.tk) (by simp [a2]) hs
        show _ + tkB (bodT ((phT nmF ⟨((numF st ⟨p.name, p.parts.length, pred⟩).1 : Int), q.1⟩).parts.map Ph.tk)) ≤ _
        rw [hparts]
        omega
      · cases e; cases hok
  · cases e; cases hok
theorem tm_len {B : Nat} : ∀ (n : Nat) (st : Nm) (p : Ph) (r : Tm × Bool × Nm), Nx B st → p.nice B → tmF n st p = some r → r.2.1 = true → ∀ nmF, r.2.2.sg.nm <+: nmF → r.2.2.vr.length ≤ 100 → tkB (phT nmF r.1).tk ≤ tkM p.tk
  | 0, _, _, _, _, _, e, _, _, _, _ => by cases e
  | n + 1, st, p, r, h, hp, e, hok, nmF, hF, hv => by
    obtain ⟨⟨p1, p2, p3, p4⟩, p5⟩ := (Ph.nice_iff B p).1 hp
    rw [tmF] at e
    by_cases hg : isGrL p.name = true
    · rw [if_pos hg] at e
      cases e
      obtain ⟨v1, v2, v3, _⟩ := varF_nx h p.name
      obtain ⟨i, hi⟩ : ∃ i, i = (varF st p.name).1 := ⟨_, rfl⟩
      rw [← hi] at v3 ⊢
      have hneg : (-1 - (i : Int)) < 0 := by omega
      have hph : phT nmF ⟨-1 - (i : Int), []⟩ = ⟨xN i, []⟩ := by
        rw [phT_eq, if_pos hneg]
        show (⟨xN (-1 - (-1 - (i : Int))).toNat, []⟩ : Ph) = _
        rw [show (-1 - (-1 - (i : Int))).toNat = i by omega]
      show tkB (phT nmF ⟨-1 - (i : Int), []⟩).tk ≤ _
      have hv : (varF st p.name).2.vr.length ≤ 100 := hv
      have hd := dec_len (i := i) (by omega)
      have hpl : 0 < p.name.length := by
        cases hpn : p.name with
        | nil => rw [hpn] at p1; cases p1
        | cons b l => simp
      rw [hph, Ph.tk_eq, p.tk_eq, tkB_cons, tkM_cons]
      show (Lib.decDigits i).length + 1 + tkB [] ≤ _
      have : tkB [] = 0 := rfl
      omega
    · rw [if_neg hg] at e
      have hs : isSmL p.name = true := by
        unfold isNmL at p1
        rw [Bool.and_eq_true, Bool.or_eq_true] at p1
        exact p1.2.resolve_right hg
      exact sym_len (tm_len n) h hp hs e hok hF hv
def costS (s : Se) : Nat := if s.atom then (if s.neg then 1 else 0) + tkM s.a.tk else tkM s.a.tk + ((if s.neg then 4 else 3) + tkM s.b.tk)
theorem lit_len {B n : Nat} {st : Nm} {s : Se} {r : Lt × Bool × Nm} (h : Nx B st) (hs : s.nice B) (e : litF n st s = some r) (hok : r.2.1 = true) {nmF : List By} (hF : r.2.2.sg.nm <+: nmF) (hv : r.2.2.vr.length ≤ 100) : (txL nmF r.1).length ≤ costS s := by
  unfold litF at e
  unfold costS
  split at e
  · rename_i ha
    rw [if_pos ha]
    split at e
    · cases e
    · rename_i q hq
      cases e
      have h1 := sym_len (tm_len n) h hs.a.1 (hs.atom ha).1 hq hok hF hv
      show (txL nmF ⟨s.neg, q.1, tz⟩).length ≤ _
      unfold txL
      rw [if_pos tr_tz, List.length_append, txT_B]
      show (if s.neg then ([126] : By) else []).length + tkB (phT nmF q.1).tk ≤ _
      split
      · show 1 + _ ≤ _; omega
      · show 0 + _ ≤ _; omega
  · rename_i ha
    rw [if_neg ha]
    have ha : s.atom = false := by simpa using ha
    split at e
    · cases e
    · rename_i q hq
      split at e
      · rename_i hqok
        split at e
        · cases e
        · rename_i q2 hq2
          cases e
          have h1 := tm_tw n st s.a q h hs.a.1 hq hqok
          have h2 := tm_tw n q.2.2 s.b q2 h1.nx (hs.b ha).1 hq2 hok
          have v2 := h2.vle
          have hv : q2.2.2.vr.length ≤ 100 := hv
          have l1 := tm_len n st s.a q h hs.a.1 hq hqok nmF (h2.pre.trans hF) (by omega)
          have l2 := tm_len n q.2.2 s.b q2 h1.nx (hs.b ha).1 hq2 hok nmF hF hv
          show (txL nmF ⟨s.neg, q.1, q2.1⟩).length ≤ _
          unfold txL
          have htr := tr_bd h2.bd
          simp only [htr, Bool.false_eq_true, if_false]
          rw [List.length_append, List.length_append, txT_B, txT_B]
          cases s.neg with
          | true =>
            show _ + (4 + _) ≤ _ + (4 + _)
            omega
          | false =>
            show _ + (3 + _) ≤ _ + (3 + _)
            omega
      · cases e; cases hok
theorem lits_len {B n : Nat} : ∀ (ss : List Se) (st : Nm) (acc : List Lt) (r : List Lt × Bool × Nm) (ls : List Lt), Nx B st → (∀ s ∈ ss, s.nice B) → litsF n st ss acc = some r → r.2.1 = true → r.1 = acc ++ ls → ∀ nmF, r.2.2.sg.nm <+: nmF → r.2.2.vr.length ≤ 100 → (ls.map fun l => (txL nmF l).length + 3).sum ≤ (ss.map fun s => costS s + 3).sum
  | [], st, acc, r, ls, h, _, e, _, hts, nmF, hF, hv => by
    simp only [litsF, Option.some.injEq] at e
    subst e
    have : ls = [] := by simpa using hts
    subst this
    exact Nat.le_refl _
  | s :: ss, st, acc, r, ls, h, hp, e, hok, hts, nmF, hF, hv => by
    rw [litsF] at e
    cases hx : litF n st s with
    | none => rw [hx] at e; cases e
    | some q =>
      rw [hx] at e
      simp only at e
      split at e
      · rename_i hq
        obtain ⟨b1, _⟩ := lit_tw h (hp s (by simp)) hx hq
        obtain ⟨us, a1, a2, a3, a4, a5, _⟩ := lits_tw ss q.2.2 (acc ++ [q.1]) r b1 (fun x hm => hp x (List.mem_cons_of_mem _ hm)) e hok
        have hi := lits_len ss q.2.2 (acc ++ [q.1]) r us b1 (fun x hm => hp x (List.mem_cons_of_mem _ hm)) e hok a1 nmF hF hv
        have h2 := lit_len h (hp s (by simp)) hx hq (a4.trans hF) (by omega)
        have : ls = q.1 :: us := by
          rw [a1, List.append_assoc] at hts
          exact (List.append_cancel_left hts).symm
        subst this
        rw [List.map_cons, List.sum_cons, List.map_cons, List.sum_cons]
        omega
      · cases e; cases hok
def costC (c : List Se) : Nat := if c = [] then 6 else (c.map fun s => costS s + 3).sum - 3
theorem join3 (l : List By) : (joinW [32, 124, 32] l).length ≤ (l.map fun x => x.length + 3).sum - 3 := by
  cases l with
  | nil => exact Nat.zero_le _
  | cons x xs =>
    have := (joinW_len [32, 124, 32] (x :: xs)).2 (by simp)
    have h3 : ([32, 124, 32] : By).length = 3 := rfl
    rw [h3] at this
    omega
theorem cls_len {B n : Nat} {st : Nm} {c : List Se} {r : List Lt × Bool × Nm} (h : Nx B st) (hc : ∀ s ∈ c, s.nice B) (e : clsF n st c = some r) (hok : r.2.1 = true) (hw : wtL r.1 ≤ 60) {nmF : List By} (hF : r.2.2.sg.nm <+: nmF) : (txC nmF r.1).length ≤ costC c := by
  unfold clsF at e
  obtain ⟨ls, a1, a2, a3, a4, a5, a6, a7⟩ := lits_tw c _ [] r h.clear hc e hok
  rw [List.nil_append] at a1
  have hv : r.2.2.vr.length ≤ 100 := by
    have := a5.2
    rw [← a1] at this
    simp at this
    omega
  have hl := lits_len c _ [] r ls h.clear hc e hok (by rw [a1]; rfl) nmF hF hv
  rw [a1]
  unfold txC costC
  cases c with
  | nil =>
    have : ls = [] := List.eq_nil_of_length_eq_zero a2
    rw [if_pos this, if_pos rfl]
    exact Nat.le_refl _
  | cons s ss =>
    have : ls ≠ [] := fun e => by rw [e] at a2; cases a2
    rw [if_neg this, if_neg (by simp)]
    have hj := join3 (ls.map (txL nmF))
    rw [List.map_map] at hj
    have e4 : (ls.map ((fun x => x.length + 3) ∘ txL nmF)) = ls.map fun l => (txL nmF l).length + 3 := rfl
    rw [e4] at hj
    omega
theorem mn_len {B n : Nat} : ∀ (cs : List (List Se)) (st : Nm) (acc : List (List Lt)) (q : Nm × List (List Lt) × Bool) (ds : List (List Lt)), Nx B st → (∀ c ∈ cs, ∀ s ∈ c, s.nice B) → mnF n st cs acc = some q → q.2.2 = true → q.2.1 = acc ++ ds → ∀ nmF, q.1.sg.nm <+: nmF → (txA nmF ds).length ≤ (cs.map fun c => costC c + 2).sum
  | [], st, acc, q, ds, h, _, e, _, hts, nmF, hF => by
    simp only [mnF, Option.some.injEq] at e
    subst e
    have : ds = [] := by simpa using hts
    subst this
    exact Nat.le_refl _
  | c :: cs, st, acc, q, ds, h, hp, e, hok, hts, nmF, hF => by
    rw [mnF] at e
    cases hx : clsF n st c with
    | none => rw [hx] at e; cases e
    | some r =>
      rw [hx] at e
      simp only at e
      split at e
      · rename_i hr
        rw [Bool.and_eq_true, decide_eq_true_eq] at hr
        obtain ⟨b1, b2, b3, _⟩ := cls_tw h (hp c (by simp)) hx hr.1
        obtain ⟨us, a1, a2, a3, a4, _⟩ := mn_tw cs r.2.2 (acc ++ [r.1]) q b2 (fun x hm => hp x (List.mem_cons_of_mem _ hm)) e hok
        have hi := mn_len cs r.2.2 (acc ++ [r.1]) q us b2 (fun x hm => hp x (List.mem_cons_of_mem _ hm)) e hok a1 nmF hF
        have h2 := cls_len h (hp c (by simp)) hx hr.1 hr.2 (a4.trans hF)
        have : ds = r.1 :: us := by
          rw [a1, List.append_assoc] at hts
          exact (List.append_cancel_left hts).symm
        subst this
        have e1 : txA nmF (r.1 :: us) = (txC nmF r.1 ++ [46, 10]) ++ txA nmF us := by unfold txA; rw [List.flatMap_cons]
        rw [e1, List.length_append, List.length_append, List.map_cons, List.sum_cons]
        have h2' : ([46, 10] : By).length = 2 := rfl
        omega
      · cases e; cases hok
theorem rdLL_cost {n : Nat} {t : List By} {r : Se × Bool × List By} (h : rdLL n t = some r) (hok : r.2.1 = true) : costS r.1 + tkM r.2.2 ≤ tkM t := by
  have htk : ∀ (T : List By) (s : By), s ≠ [] → (takeL T s).1 = true → tkM T = s.length + 3 + tkM (takeL T s).2 := fun T s hs h => by
    conv => lhs; rw [takeL_yes hs h]
    rw [tkM_cons]
  have hno : ∀ (T : List By) (s : By), s ≠ [] → (takeL T s).1 = false → (takeL T s).2 = T := fun T s hs h => (takeL_no hs h).1
  unfold rdLL at h
  split at h
  · cases h
  · rename_i q hq
    split at h
    · rename_i hqok
      have e1 := ((rdXL_wf n).1 1 _ q hq hqok).2.1
      have m1 : tkM (takeL t [126]).2 = tkM q.1.tk + tkM q.2.2.2 := by rw [e1, tkM_app]
      have m0 : (if (takeL t [126]).1 then 4 else 0) + tkM (takeL t [126]).2 ≤ tkM t := by
        cases hb : (takeL t [126]).1 with
        | true =>
          have := htk t [126] (by simp) hb
          have h3 : ([126] : By).length = 1 := rfl
          rw [if_pos rfl]
          omega
        | false =>
          have := hno t [126] (by simp) hb
          rw [if_neg (by simp), this]
          omega
      split at h
      · rename_i h61
        have m2 := htk _ _ (by simp) h61
        have h61l : ([61] : By).length = 1 := rfl
        split at h
        · cases h
        · rename_i q2 hq2
          cases h
          have e2 := ((rdXL_wf n).1 1 _ q2 hq2 hok).2.1
          have m3 : tkM (takeL q.2.2.2 [61]).2 = tkM q2.1.tk + tkM q2.2.2.2 := by rw [e2, tkM_app]
          unfold costS
          show (if false then _ else tkM q.1.tk + ((if (takeL t [126]).1 then 4 else 3) + tkM q2.1.tk)) + tkM q2.2.2.2 ≤ _
          cases hb : (takeL t [126]).1 with
          | true => rw [hb] at m0; simp only [if_true] at m0; simp only [Bool.false_eq_true, if_false, if_true]; omega
          | false => rw [hb] at m0; simp only [Bool.false_eq_true, if_false] at m0 ⊢; omega
      · rename_i h61
        have h61 : (takeL q.2.2.2 [61]).1 = false := by simpa using h61
        have n61 := hno _ _ (by simp) h61
        rw [n61] at h
        split at h
        · rename_i hun
          have m2 := htk _ _ (by decide) hun
          have hunl : unlB.length = 2 := rfl
          split at h
          · cases h
          · rename_i q2 hq2
            cases h
            have e2 := ((rdXL_wf n).1 1 _ q2 hq2 hok).2.1
            have m3 : tkM (takeL q.2.2.2 unlB).2 = tkM q2.1.tk + tkM q2.2.2.2 := by rw [e2, tkM_app]
            unfold costS
            show (if false then _ else tkM q.1.tk + ((if (!(takeL t [126]).1) then 4 else 3) + tkM q2.1.tk)) + tkM q2.2.2.2 ≤ _
            cases hb : (takeL t [126]).1 with
            | true => rw [hb] at m0; simp only [if_true] at m0; simp only [Bool.false_eq_true, if_false, Bool.not_true]; omega
            | false => rw [hb] at m0; simp only [Bool.false_eq_true, if_false] at m0; simp only [Bool.false_eq_true, if_false, Bool.not_false, if_true]; omega
        · rename_i hun
          have hun : (takeL q.2.2.2 unlB).1 = false := by simpa using hun
          have nun := hno _ _ (by decide) hun
          cases h
          unfold costS
          show (if true then (if (takeL t [126]).1 then 1 else 0) + tkM q.1.tk else _) + tkM (takeL q.2.2.2 unlB).2 ≤ _
          rw [nun, if_pos rfl]
          cases hb : (takeL t [126]).1 with
          | true => rw [hb] at m0; simp only [if_true] at m0 ⊢; omega
          | false => rw [hb] at m0; simp only [Bool.false_eq_true, if_false] at m0 ⊢; omega
    · cases h; cases hok
theorem rdLsL_cost {n : Nat} : ∀ {m : Nat} {t : List By} {acc : List Se} {r : List Se × Bool × List By}, rdLsL n m t acc = some r → r.2.1 = true → ∃ ss, r.1 = acc ++ ss ∧ ss ≠ [] ∧ (ss.map fun s => costS s + 3).sum + tkM r.2.2 ≤ tkM t + 3
  | 0, _, _, _, h, _ => by cases h
  | m + 1, t, acc, r, h, hok => by
    rw [rdLsL] at h
    split at h
    · cases h
    · rename_i q hq
      split at h
      · rename_i hqok
        have h1 := rdLL_cost hq hqok
        split at h
        · rename_i hb
          obtain ⟨ss, a1, a2, a3⟩ := rdLsL_cost h hok
          have : tkM q.2.2 = ([124] : By).length + 3 + tkM (takeL q.2.2 [124]).2 := by
            conv => lhs; rw [takeL_yes (by simp) hb]
            rw [tkM_cons]
          have h124 : ([124] : By).length = 1 := rfl
          refine ⟨q.1 :: ss, by rw [a1]; simp, by simp, ?_⟩
          rw [List.map_cons, List.sum_cons]
          omega
        · rename_i hb
          have hb : (takeL q.2.2 [124]).1 = false := by simpa using hb
          have hn := (takeL_no (by simp) hb).1
          cases h
          refine ⟨[q.1], rfl, by simp, ?_⟩
          show (costS q.1 + 3 + 0) + tkM (takeL q.2.2 [124]).2 ≤ _
          rw [hn]
          omega
      · cases h; cases hok
theorem rdCL_cost {n : Nat} {t : List By} {r : List Se × Bool × List By} (h : rdCL n t = some r) (hok : r.2.1 = true) : costC r.1 + tkM r.2.2 ≤ tkM t := by
  unfold rdCL at h
  split at h
  · rename_i hb
    cases h
    have : tkM t = neverB.length + 3 + tkM (takeL t neverB).2 := by
      conv => lhs; rw [takeL_yes (by decide) hb]
      rw [tkM_cons]
    have h6 : neverB.length = 6 := rfl
    show 6 + tkM (takeL t neverB).2 ≤ _
    omega
  · rename_i hb
    have hb : (takeL t neverB).1 = false := by simpa using hb
    rw [(takeL_no (by decide) hb).1] at h
    obtain ⟨ss, a1, a2, a3⟩ := rdLsL_cost h hok
    rw [List.nil_append] at a1
    unfold costC
    rw [a1, if_neg a2]
    have : 3 ≤ (ss.map fun s => costS s + 3).sum := by
      cases ss with
      | nil => exact absurd rfl a2
      | cons s ss => rw [List.map_cons, List.sum_cons]; omega
    omega
theorem rdFL_cost {n : Nat} : ∀ {m : Nat} {t : List By} {acc : List (List Se)} {r : List (List Se) × Bool}, rdFL n m t acc = some r → r.2 = true → ∃ cs, r.1 = acc ++ cs ∧ (cs.map fun c => costC c + 2).sum ≤ tkM t
  | 0, _, _, _, h, _ => by cases h
  | m + 1, t, acc, r, h, hok => by
    rw [rdFL] at h
    split at h
    · cases h
      exact ⟨[], by simp, Nat.zero_le _⟩
    · split at h
      · cases h
      · rename_i q hq
        split at h
        · rename_i hqok
          have h1 := rdCL_cost hq hqok
          split at h
          · rename_i hb
            obtain ⟨cs, a1, a2⟩ := rdFL_cost h hok
            have : tkM q.2.2 = ([46] : By).length + 3 + tkM (takeL q.2.2 [46]).2 := by
              conv => lhs; rw [takeL_yes (by simp) hb]
              rw [tkM_cons]
            have h46 : ([46] : By).length = 1 := rfl
            refine ⟨q.1 :: cs, by rw [a1]; simp, ?_⟩
            rw [List.map_cons, List.sum_cons]
            omega
          · cases h; cases hok
        · cases h; cases hok
theorem prF_back {src : By} {r : Sg × List (List Lt) × Int} (h : prF 65600 src = some r) (he : r.2.2 = 0) (hs : src.length ≤ 2000) : (txA r.1.nm r.2.1).length ≤ 8000 ∧ prF 65600 (txA r.1.nm r.2.1) = some (r.1, r.2.1, 0) := by
  have hP := prF_prs h he
  obtain ⟨h1, cs, q, h2, h3, h4, h5, h6, h7⟩ := prF_ok h he
  have hlen : (txA r.1.nm r.2.1).length ≤ 8000 := by
    obtain ⟨ds, a1, _⟩ := mn_tw cs nm0 [] q (nm0_nx src.length) (rdAll_nice h2) h4 h5
    have hm := mn_len cs nm0 [] q ds (nm0_nx src.length) (rdAll_nice h2) h4 h5 a1 q.1.sg.nm (List.prefix_refl _)
    rw [List.nil_append] at a1
    rw [rdAll_tl] at h2
    obtain ⟨cs', b1, b2⟩ := rdFL_cost h2 rfl
    rw [List.nil_append] at b1
    have b1 : cs = cs' := b1
    subst b1
    have hM := toks_M _ src (Nat.le_refl _)
    rw [h6, h7, a1]
    omega
  refine ⟨hlen, ?_⟩
  obtain ⟨s, l, e⟩ := r
  simp only at hP hlen ⊢
  obtain ⟨q', t1, t2⟩ := hP.twin
  have hrd : rdAll 65600 (txA s.nm l) = some (l.map fun d => d.map (phL s.nm), true) := by
    rw [rdAll_tl, toks_txA hP.nms fun c hc => (hP.lits c hc).2]
    have := rdFL_tk (n := 65600) hP.nms (by omega) 65600 l [] (fun c hc => ⟨hP.lits c hc, by have := (txC_len (B := src.length) hP.nms (hP.lits c hc).1 (hP.lits c hc).2).2; omega⟩) (by have := hP.len; omega)
    rw [List.nil_append] at this
    exact this
  have := prF_of (n := 65600) (src := txA s.nm l) (by omega) hrd (by rw [List.length_map]; exact hP.len) t1 rfl
  rw [this]
  show some (q'.sg, l, (0 : Int)) = _
  rw [t2]
end Go.Proofs.YtebhbnhijnpmcaaGreatDoor
namespace Go.Proofs.YtebhbnhijnpmcaaGreatDoor
open Go.RowKit
set_option linter.unusedVariables false
set_option linter.unusedSimpArgs false
set_option maxRecDepth 100000
def Bd.zero : Bd := ⟨0, ⟨0, []⟩⟩
def cptN (q : Bd → Bd → Bool) (L : List Bd) : Nat → List Bd
  | 0 => []
  | m + 1 => match L[m]?, (match m with | 0 => none | k + 1 => L[k]?) with
    | some x, some y => if q x y then cptN q L m else cptN q L m ++ [x]
    | some x, none => cptN q L m ++ [x]
    | none, _ => cptN q L m
end Go.Proofs.YtebhbnhijnpmcaaGreatDoor
namespace Go.Proofs.YtebhbnhijnpmcaaGreatDoor
open Go.RowKit Go.MapKept
set_option linter.unusedVariables false
set_option linter.unusedSimpArgs false
def HandsV {α : Type} (P : Program) (gf : Nat) (caps : List CV) (m : Nat) (encC : α → List CV) (xs : List α) : Prop :=
  ∀ (w : World) (lb : List Value) (R : Nat → Nat → Prop), VReps R w caps lb → ∃ vals : Nat → List Value, (∀ k, (vals k).length = m) ∧ (∀ k x, xs[k]? = some x → VReps R w (encC x) (vals k)) ∧
    Gives P gf lb.toArray (fun k => (vals k).toArray) (fun pre k _ => k = pre.length ∧ k < xs.length) (KpX w.heap.size fun b => ¬ ∃ o, R b o) (fun ys => ys = List.range xs.length) w
section
variable {P : Program} {w0 : World} {U0 : UX} {nt : Nat} {s : AS}
end
end Go.Proofs.YtebhbnhijnpmcaaGreatDoor
namespace Go.Proofs.YtebhbnhijnpmcaaGreatDoor
open Go.RowKit
set_option linter.unusedVariables false
set_option linter.unusedSimpArgs false
set_option maxRecDepth 100000
noncomputable def imR (b : Bd) : CV := .row [.sc (.int .i64 b.v), b.t.cw]
end Go.Proofs.YtebhbnhijnpmcaaGreatDoor
namespace Go.Proofs.YtebhbnhijnpmcaaGreatDoor
open Go.RowKit Go.MapKept Go.Shelf
set_option linter.unusedVariables false
set_option linter.unusedSimpArgs false
attribute [local go_sem] Oper.semAt_some
def putB (b : Bd) : List Bd → List Bd
  | [] => [b]
  | x :: M => if x.v = b.v then b :: M else x :: putB b M
theorem putB_row (b : Bd) : ∀ M : List Bd, putR .i64 b.v b.t.cw (M.map imR) = (putB b M).map imR
  | [] => rfl
  | x :: M => by
    rw [List.map_cons, putB]
    have h1 := putR_row (k := .i64) (i := b.v) (j := x.v) (c := b.t.cw) (c' := x.t.cw) (l := M.map imR)
    by_cases h : x.v = b.v
    · rw [if_pos h] at h1 ⊢; exact h1
    · rw [if_neg h] at h1 ⊢
      rw [putB_row b M] at h1
      exact h1
def mapB (L : List Bd) (k : Nat) : List Bd := (L.reverse.take k).foldl (fun M b => putB b M) []
theorem mapB_succ {L : List Bd} {k : Nat} {b : Bd} (h : L[L.length - 1 - k]? = some b) (hk : k < L.length) : mapB L (k + 1) = putB b (mapB L k) := by
  unfold mapB
  rw [List.take_add_one, List.getElem?_reverse hk, h, List.foldl_append]
  rfl
attribute [local go_sem] Oper.semAt_some
def ImR (w : World) (R : Nat → Nat → Prop) (b o : Nat) : Prop := (R b o ∧ b < w.heap.size) ∨ b = w.heap.size + 1 + 1
theorem imR_lt {w : World} {R : Nat → Nat → Prop} {b o : Nat} (h : ImR w R b o) : b < w.heap.size + 3 ∧ b ≠ w.heap.size := by
  rcases h with h | h
  · have := h.2; omega
  · omega
end Go.Proofs.YtebhbnhijnpmcaaGreatDoor
namespace Go.Proofs.YtebhbnhijnpmcaaGreatDoor
open Go.RowKit
set_option linter.unusedVariables false
set_option linter.unusedSimpArgs false
set_option maxRecDepth 100000
def sidL (c : List Lt) : List Tm := c.flatMap fun l => [l.a, l.b]
def Lt.rep (img : Int → Tm) (l : Lt) : Lt := ⟨l.neg, repT img l.a, repT img l.b⟩
end Go.Proofs.YtebhbnhijnpmcaaGreatDoor
namespace Go.Proofs.YtebhbnhijnpmcaaGreatDoor
open Go.RowKit
set_option linter.unusedVariables false
set_option linter.unusedSimpArgs false
section
variable {α β : Type}
def kDn (p : α → Bool) (l : List α) : Nat → Nat
  | 0 => 0
  | k + 1 => match l[k]? with
    | some y => if p y = true then kDn p l k else k + 1
    | none => k + 1
def insD (lt : α → α → Bool) (l : List α) (x : α) : List α := l.take (kDn (lt x) l l.length) ++ x :: l.drop (kDn (lt x) l l.length)
def srtD (lt : α → α → Bool) (c : List α) : List α := c.foldl (insD lt) []
def cptG (q : α → α → Bool) (L : List α) : Nat → List α
  | 0 => []
  | 1 => L.take 1
  | m + 2 => match L[m + 1]?, L[m]? with
    | some x, some y => if q x y = true then cptG q L (m + 1) else cptG q L (m + 1) ++ [x]
    | _, _ => cptG q L (m + 1)
def dedD (q : α → α → Bool) (c : List α) : List α := c.foldl (fun out x => if out.any (fun y => q y x) then out else out ++ [x]) []
end
def sgZ (b : Bool) : Int := if b then 1 else 0
def cmpLt (x y : Lt) : Int := if cmpZ (sgZ x.neg) (sgZ y.neg) ≠ 0 then cmpZ (sgZ x.neg) (sgZ y.neg) else cmpS x y
def litAt (c : List Lt) (m : Int) : Lt := (c[m.toNat]?).getD ⟨false, ⟨0, []⟩, ⟨0, []⟩⟩
def ltI (c : List Lt) (m n : Int) : Bool := decide (cmpLt (litAt c m) (litAt c n) < 0)
def sameI (c : List Lt) (m n : Int) : Bool := decide (cmpLt (litAt c m) (litAt c n) = 0)
def plc1 (c : List Lt) : List Int := srtD (ltI c) (nums c.length)
def plc2 (c : List Lt) : List Int := cptG (sameI c) (plc1 c) (plc1 c).length
def plc3 (c : List Lt) : List Int := srtD (fun m n : Int => decide (m < n)) (plc2 c)
def wdL (c : List Lt) : List Lt := (plc3 c).map (litAt c)
def RI (c : List Lt) (m n : Int) : Prop := cmpLt (litAt c m) (litAt c n) < 0 ∨ (cmpLt (litAt c m) (litAt c n) = 0 ∧ m < n)
def fstI (c : List Lt) (m : Int) : Prop := ∀ k : Int, 0 ≤ k → k < m → cmpLt (litAt c k) (litAt c m) ≠ 0
open Classical in
noncomputable def fsts (c : List Lt) (k : Nat) : List Int := (nums k).filter fun m => decide (fstI c m)
def smL (x y : Lt) : Bool := decide (cmpLt x y = 0)
end Go.Proofs.YtebhbnhijnpmcaaGreatDoor
namespace Go.Proofs.YtebhbnhijnpmcaaGreatDoor
open Go.RowKit
set_option linter.unusedVariables false
set_option linter.unusedSimpArgs false
set_option maxRecDepth 100000
theorem nv_len (t : Tm) : t.nv.length ≤ t.size := by
  have h : ∀ l : List Int, (nub l).length ≤ l.length := by
    intro l
    induction l using snoc_ind with
    | h0 => exact Nat.le_refl _
    | h1 l x ih => rw [nub_snoc]; split <;> simp <;> omega
  refine Nat.le_trans (h t.vs) ?_
  unfold Tm.vs vsL Tm.size
  rw [List.length_map]
  exact List.length_filter_le _ _
theorem zip_at {a b : List Int} {k : Nat} {v u : Int} (h1 : a[k]? = some v) (h2 : b[k]? = some u) : (zipB a b)[k]? = some ⟨v, varT u⟩ := by
  unfold zipB
  rw [List.getElem?_zipWith, h1, h2]
theorem zip_len {a b : List Int} (h : a.length = b.length) : (zipB a b).length = a.length := by
  unfold zipB
  rw [List.length_zipWith]; omega
theorem zip_mem {a b : List Int} {x : Bd} (h : x ∈ zipB a b) : ∃ u ∈ b, x.t = varT u := by
  unfold zipB at h
  obtain ⟨i, hi, e⟩ := List.mem_iff_getElem.1 h
  rw [List.getElem_zipWith] at e
  exact ⟨_, List.getElem_mem _, by rw [← e]⟩

-- 
set_option maxHeartbeats 1000000 in
theorem canon_abs (W : World) (t : Tm) (hr : t.rng) (hok : t.ok) (hts : t.size ≤ 1000) : AFun Tryz.prog W 10 [t.cw] (.val (appR (zipB t.nv (nums t.nv.length)) t).cw) := by
  refine afun_of (rs := [(appR (zipB t.nv (nums t.nv.length)) t).cw]) Tryz.func10 Tryz.ntmps10 rfl rfl rfl rfl ?_
  intro w U hW
  have hV := refVars_abs w t hr hok (by omega)
  rw [nv_vars] at hV
  have hnl := nv_len t
  refine aS (aR ?_)
  (refine nx (a_box (gN rfl) rfl rfl rfl rfl rfl) rfl ?_)
  (refine nx (a_alloc (gN rfl) rfl rfl rfl rfl rfl rfl rfl rfl rfl rfl) rfl ?_)
  show AWp _ _ _ _ _ _ _
  refine aS (aR ?_)
  (refine nx (aL (gN rfl) rfl rfl rfl rfl rfl rfl rfl rfl rfl rfl rfl rfl) rfl ?_)
  (refine nx (a_call (gN rfl) rfl rfl rfl rfl rfl (hV)) rfl ?_)
  (refine nx (aA (gN rfl) rfl rfl rfl rfl rfl) rfl ?_)
  show AWp _ _ _ _ _ _ _
  obtain ⟨l, hl⟩ : ∃ l, l = t.nv := ⟨_, rfl⟩
  rw [← hl] at hnl ⊢
  have hsz := ints_size l
  obtain ⟨z, hz⟩ : ∃ z, z = zipB l (nums l.length) := ⟨_, rfl⟩
  have hzl : z.length = l.length := by rw [hz]; exact zip_len (nums_len _).symm
  have hzz := fun k => Bd.size_all (z.take k)
  rw [← hz]
  refine aS (aR ?_)
  (refine nx (aA (gN rfl) rfl rfl rfl rfl rfl) rfl ?_)
  show AWp _ _ _ _ _ _ _
  refine aS (aS (aR ?_))
  (refine nx (aA (gN rfl) rfl rfl rfl rfl rfl) rfl ?_)
  show AWp _ _ _ _ _ _ _
  refine aB (awp_count l.length (fun k => [(1, .bp 1 0 []), (100001, .bx t.cw), (2, .bp 2 0 []), (100002, ⟨5, .row [.i 0, .lst []], 1, 0, [1]⟩), (3, .val (.lst (l.map CV.i))), (4, .own (.lst ((z.take k).map Bd.cv)) 200024), (200024, .tok 70 3), (5, .val (.i k))])
    ((wk_nil 4 200024 70 3 rfl rfl rfl rfl rfl rfl rfl).trans (wk_sub ⟨rfl, rfl, rfl, rfl, rfl, rfl, rfl, rfl, trivial⟩)) ?_)
  intro k hk
  refine aS (aS (aR ?_))
  (refine nx (aM (gN rfl) rfl rfl rfl rfl rfl) rfl ?_)
  (refine nx (aM (gN rfl) rfl rfl rfl rfl rfl) rfl ?_)
  (refine nx (a_len (gN rfl) rfl rfl rfl rfl rfl rfl rfl) rfl ?_)
  (refine nx (a_lss (gN rfl) rfl rfl rfl rfl rfl rfl) rfl ?_)
  show AWp _ _ _ _ _ _ _
  refine aC rfl (fun hc => aK ?_) (fun hc => aE ?_)
  · have hkl : k < l.length := by
      simp only [List.length_map, decide_eq_true_eq] at hc
      omega
    clear hc
    obtain ⟨v, hv⟩ : ∃ v, l[k]? = some v := ⟨l[k], List.getElem?_eq_getElem hkl⟩
    have hv' := ints_at hv
    have hzk : z[k]? = some ⟨v, varT (k : Int)⟩ := by rw [hz]; exact zip_at hv (nums_at hkl)
    show AWp _ _ _ _ _ _ _
    refine aS (aB (aR ?_))
    (refine nx (aM (gN rfl) rfl rfl rfl rfl rfl) rfl ?_)
    (refine nx (aM (gN rfl) rfl rfl rfl rfl rfl) rfl ?_)
    (refine nx (aM (gN rfl) rfl rfl rfl rfl rfl) rfl ?_)
    (refine nx (a_index (gN rfl) rfl rfl rfl rfl rfl rfl rfl rfl rfl (by assumption) rfl (by first | assumption | exact sZ rfl | exact Tm.size_all _ | exact Bd.size_all _ | exact ints_size _ | exact bys_size _ | exact Lt.size_all _)) rfl ?_)
    (refine nx (a_load_ad (gN rfl) rfl rfl rfl rfl rfl rfl rfl rfl rfl) rfl ?_)
    (refine nx (aM (gN rfl) rfl rfl rfl rfl rfl) rfl ?_)
    (refine nx (a_sub (gN rfl) rfl rfl rfl rfl rfl rfl (by first | omega | (simp only [List.length_map, List.length_append, List.length_cons, List.length_nil] <;> omega) | (simp <;> omega))) rfl ?_)
    (refine nx (a_build (gN rfl) rfl rfl rfl rfl rfl rfl rfl rfl rfl rfl rfl) rfl ?_)
    (refine nx (a_build (gN rfl) rfl rfl rfl rfl rfl rfl rfl rfl rfl rfl rfl) rfl ?_)
    (refine nx (a_bslice (gN rfl) rfl rfl rfl rfl rfl rfl rfl rfl rfl rfl rfl rfl rfl) rfl ?_)
    (refine nx (a_app (gN rfl) rfl rfl rfl rfl rfl rfl rfl rfl rfl rfl rfl rfl rfl rfl rfl (by first | assumption | exact sZ rfl | exact Tm.size_all _ | exact Bd.size_all _ | exact ints_size _ | exact bys_size _ | exact Lt.size_all _) (by first | assumption | exact sZ rfl | exact Tm.size_all _ | exact Bd.size_all _ | exact ints_size _ | exact bys_size _ | exact Lt.size_all _) (by first | omega | (simp only [List.length_map, List.length_append, List.length_cons, List.length_nil] <;> omega) | (simp <;> omega))) rfl ?_)
    (refine nx (aA (gN rfl) rfl rfl rfl rfl rfl) rfl ?_)
    show AWp _ _ _ _ _ _ _
    refine aR ?_
    (refine nx (aM (gN rfl) rfl rfl rfl rfl rfl) rfl ?_)
    (refine nx (a_add (gN rfl) rfl rfl rfl rfl rfl rfl (by first | omega | (simp only [List.length_map, List.length_append, List.length_cons, List.length_nil] <;> omega) | (simp <;> omega))) rfl ?_)
    (refine nx (aA (gN rfl) rfl rfl rfl rfl rfl) rfl ?_)
    refine ⟨hkl, Wk.trans (wk_sub (s' := [(1, .bp 1 0 []), (100001, .bx t.cw), (2, .bp 2 0 []), (100002, ⟨5, .row [.i 0, .lst []], 1, 0, [1]⟩), (3, .val (.lst (l.map CV.i))), (4, .own (.lst ((z.take (k + 1)).map Bd.cv)) 300024), (300024, .tok 70 3), (5, .val (.i ((k + 1 : Nat) : Int)))]) ⟨rfl, rfl, rfl, rfl, rfl, ?_, rfl, rfl, trivial⟩) (wk_ren 300024 200024 rfl rfl rfl rfl)⟩
    rw [List.take_add_one, hzk, List.map_append]
    rfl
  · have hkl : k = z.length := by
      simp only [List.length_map, decide_eq_false_iff_not] at hc
      omega
    subst hkl
    rw [List.take_length]
    show AWp _ _ _ _ _ _ _
    refine aS (aR ?_)
    (refine nx (aM (gN rfl) rfl rfl rfl rfl rfl) rfl ?_)
    (refine nx (aL (gN rfl) rfl rfl rfl rfl rfl rfl rfl rfl rfl rfl rfl rfl) rfl ?_)
    (refine nx (a_call (gN rfl) rfl rfl rfl rfl rfl (refApply_abs w z (by omega) t hr hok)) rfl ?_)
    (refine nx (aSt (gN rfl) rfl rfl rfl rfl rfl rfl rfl rfl rfl rfl) rfl ?_)
    show AWp _ _ _ _ _ _ _
    exact aT (And.intro (.inr rfl) rfl)

def alikeB (p q : List Bd) (l : List Int) : Bool := l.all fun v => sameT (imgB p v) (imgB q v)
end Go.Proofs.YtebhbnhijnpmcaaGreatDoor
namespace Go.Proofs.YtebhbnhijnpmcaaGreatDoor
open Go.RowKit
set_option linter.unusedVariables false
set_option linter.unusedSimpArgs false
def lkT (t : Tm) : Tm := repT (fun _ => varT 0) t
def lkL (l : Lt) : Lt := Lt.rep (fun _ => varT 0) l
structure Sn where
  lit : Lt
  look : Lt
def trnS (l k : Lt) : Sn := if 0 ≤ cmpT k.a k.b then ⟨l, k⟩ else ⟨othL l, othL k⟩
def cmpSn (x y : Sn) : Int := cmpLt x.look y.look
def ltSn (x y : Sn) : Bool := decide (cmpSn x y < 0)
def inL (c : List Lt) : List Lt := (srtD ltSn (c.map fun l => trnS l (lkL l))).map Sn.lit
def sidT (c : List Lt) : Tm := ⟨0, sidL c⟩
def numB (c : List Lt) : List Bd := zipB (sidT c).nv (nums (sidT c).nv.length)
def nmP (c : List Lt) : List Lt := wdL ((inL c).map (Lt.rep (imgB (numB (inL c)))))
def rtL (l : Lt) : Lt := if cmpT (lkT l.a) (lkT l.b) < 0 then othL l else l
def befL (x y : Lt) : Bool := decide (cmpLt (lkL x) (lkL y) < 0)
def inD (c : List Lt) : List Lt := srtD befL (c.map rtL)
def whlL (l : Lt) : Tm := ⟨sgZ l.neg, [l.a, l.b]⟩
def whlT (c : List Lt) : Tm := ⟨0, c.map whlL⟩
theorem sgZ_nn (b : Bool) : ¬ sgZ b < 0 := by cases b <;> decide
def appL (s : List Bd) (l : Lt) : Lt := ⟨l.neg, appR s l.a, appR s l.b⟩
def nmD (c : List Lt) : List Lt := dedD sameL ((inD c).map (appL (numB (inD c))))
def vntC (c d : List Lt) : Bool := decide (c.map Lt.neg = d.map Lt.neg) && vntB (sidT c) (sidT d)
end Go.Proofs.YtebhbnhijnpmcaaGreatDoor
namespace Go.Proofs.YtebhbnhijnpmcaaGreatDoor
open Go.RowKit
set_option linter.unusedVariables false
set_option linter.unusedSimpArgs false
set_option maxRecDepth 100000
noncomputable abbrev Sn.cw (s : Sn) : CV := .row [s.lit.cw, s.look.cw]
noncomputable def Sn.cv (s : Sn) : CV := s.cw
def ltG {α : Type} (cmp : α → α → Int) (x y : α) : Bool := decide (cmp x y < 0)
def ltO (x y : Int) : Bool := decide (x < y)
def eqF (p : Lt → Lt → Bool) : List Lt → List Lt → Bool
  | [], [] => true
  | x :: c, y :: d => p x y && eqF p c d
  | _, _ => false
def okCl (c : List Lt) : Prop := c.length ≤ 12 ∧ ∀ l ∈ c, (l.a.rng ∧ l.a.ok ∧ l.a.size ≤ 1000) ∧ (l.b.rng ∧ l.b.ok ∧ l.b.size ≤ 1000)
theorem okCl.ok {c : List Lt} (h : okCl c) : ∀ l ∈ c, l.a.ok ∧ l.b.ok := fun l hl => ⟨(h.2 l hl).1.2.1, (h.2 l hl).2.2.1⟩
def Lt.z : Lt := ⟨false, ⟨0, []⟩, ⟨0, []⟩⟩
noncomputable abbrev ltZ : CV := .row [.b false, .row [.i 0, .lst []], .row [.i 0, .lst []]]
def bndV (c : List Lt) (g : Int → Int) : List Bd := zipB (sidT c).nv ((nums (sidT c).nv.length).map g)
def snL (c : List Lt) : List Sn := c.map fun l => trnS l (lkL l)
end Go.Proofs.YtebhbnhijnpmcaaGreatDoor
namespace Go.Proofs.YtebhbnhijnpmcaaGreatDoor
open Go.RowKit
set_option linter.unusedVariables false
set_option linter.unusedSimpArgs false
def alk (x y : Lt) : Prop := (x.a.strip = y.a.strip ∧ x.b.strip = y.b.strip) ∨ (x.a.strip = y.b.strip ∧ x.b.strip = y.a.strip)
def TautQ (c : List Lt) : Prop := (∃ l ∈ c, l.neg = false ∧ l.a.strip = l.b.strip) ∨ ∃ x ∈ c, ∃ y ∈ c, x.neg ≠ y.neg ∧ alk x y
def ttD1 (x y : Lt) : Bool := (x.neg && !y.neg) && (sameL x ⟨true, y.a, y.b⟩ || sameL x ⟨true, y.b, y.a⟩)
def ttD (c : List Lt) : Bool := c.any fun x => (!x.neg && sameT x.a x.b) || c.any (ttD1 x)
end Go.Proofs.YtebhbnhijnpmcaaGreatDoor
namespace Go.Proofs.YtebhbnhijnpmcaaGreatDoor
open Go.RowKit
set_option linter.unusedVariables false
set_option linter.unusedSimpArgs false
set_option maxRecDepth 100000
def blkT (t : Tm) : Tm := appR (zipB t.nv ((nums t.nv.length).map fun _ => 0)) t
theorem zip_ok {a b : List Int} : ∀ x ∈ zipB a b, x.t.ok := fun x hx => by
  obtain ⟨u, _, e⟩ := zip_mem hx
  rw [e]
  exact varT_ok u
def okL (l : Lt) : Prop := (l.a.rng ∧ l.a.ok ∧ l.a.size ≤ 1000) ∧ (l.b.rng ∧ l.b.ok ∧ l.b.size ≤ 1000)
theorem whl_cv (l : Lt) : (whlL l).cv = .row [.i (sgZ l.neg), .lst [l.a.cw, l.b.cw]] := by
  rw [Tm.cv_eq]
  show CV.row [.i (sgZ l.neg), .lst ([l.a, l.b].map Tm.cv)] = _
  simp only [List.map_cons, List.map_nil, Tm.cv_eq]
-- 
set_option maxHeartbeats 1000000 in
theorem whole_abs (W : World) (c : List Lt) (hl : c.length ≤ 1000000) : AFun Tryz.prog W 11 [.lst (c.map Lt.cv)] (.val (whlT c).cw) := by
  have hsz := Lt.size_all c
  refine afun_of (rs := [(whlT c).cw]) Tryz.func11 Tryz.ntmps11 rfl rfl rfl rfl ?_
  intro w U hW
  refine aS (aR ?_)
  (refine nx (a_alloc (gN rfl) rfl rfl rfl rfl rfl rfl rfl rfl rfl rfl) rfl ?_)
  show AWp _ _ _ _ _ _ _
  refine aS (aR ?_)
  (refine nx (a_build (gN rfl) rfl rfl rfl rfl rfl rfl rfl rfl rfl rfl rfl) rfl ?_)
  (refine nx (a_alloc (gN rfl) rfl rfl rfl rfl rfl rfl rfl rfl rfl rfl) rfl ?_)
  (refine nx (aSt (gN rfl) rfl rfl rfl rfl rfl rfl rfl rfl rfl rfl) rfl ?_)
  show AWp _ _ _ _ _ _ _
  refine aS (aS (aR ?_))
  (refine nx (aA (gN rfl) rfl rfl rfl rfl rfl) rfl ?_)
  show AWp _ _ _ _ _ _ _
  refine aB (awp_count c.length (fun k => [(0, .val (.lst (c.map Lt.cv))), (2, .bp 2 0 []), (100002, ⟨5, .row [.i 0, .lst []], 1, 0, [1]⟩), (3, .bp 3 0 []), (100003, ⟨5, .row [.i 0, .lst (((c.take k).map whlL).map Tm.cv)], 200034, 0, [1]⟩), (200034, .tok 39 2), (4, .val (.i k))])
    ((wk_nil 100003 200034 39 2 rfl rfl rfl rfl rfl rfl rfl).trans (wk_sub ⟨rfl, rfl, rfl, rfl, rfl, rfl, rfl, trivial⟩)) ?_)
  intro k hk
  refine aS (aS (aR ?_))
  (refine nx (aM (gN rfl) rfl rfl rfl rfl rfl) rfl ?_)
  (refine nx (aM (gN rfl) rfl rfl rfl rfl rfl) rfl ?_)
  (refine nx (a_len (gN rfl) rfl rfl rfl rfl rfl rfl rfl) rfl ?_)
  (refine nx (a_lss (gN rfl) rfl rfl rfl rfl rfl rfl) rfl ?_)
  show AWp _ _ _ _ _ _ _
  refine aC rfl (fun hc => aK ?_) (fun hc => aE ?_)
  · have hkl : k < c.length := by
      simp only [List.length_map, decide_eq_true_eq] at hc
      omega
    clear hc
    obtain ⟨x, hx⟩ : ∃ x, c[k]? = some x := ⟨c[k], List.getElem?_eq_getElem hkl⟩
    have hx' := Lt.map_at hx
    have hsz2 : ∀ y ∈ ((c.take k).map whlL).map Tm.cv, y.size = 2 := Tm.size_all _
    have hl3 : (((c.take k).map whlL).map Tm.cv).length ≤ 1000000 := by rw [List.length_map, List.length_map, List.length_take]; omega
    have hst : ((c.take (k + 1)).map whlL).map Tm.cv = ((c.take k).map whlL).map Tm.cv ++ [.row [.i (sgZ x.neg), .lst [x.a.cw, x.b.cw]]] := by
      rw [List.take_add_one, hx, Option.toList_some, List.map_append, List.map_append, List.map_singleton, List.map_singleton, whl_cv]
    show AWp _ _ _ _ _ _ _
    refine aS (aB (aS (aR ?_)))
    (refine nx (aA (gN rfl) rfl rfl rfl rfl rfl) rfl ?_)
    show AWp _ _ _ _ _ _ _
    refine awp_mid [(0, .val (.lst (c.map Lt.cv))), (2, .bp 2 0 []), (100002, ⟨5, .row [.i 0, .lst []], 1, 0, [1]⟩), (3, .bp 3 0 []), (100003, ⟨5, .row [.i 0, .lst (((c.take k).map whlL).map Tm.cv)], 200034, 0, [1]⟩), (200034, .tok 39 2), (4, .val (.i k)), (5, .val (.i (sgZ x.neg)))] ?_ ?_
    · refine aS (aR ?_)
      (refine nx (aM (gN rfl) rfl rfl rfl rfl rfl) rfl ?_)
      (refine nx (aM (gN rfl) rfl rfl rfl rfl rfl) rfl ?_)
      (refine nx (a_index (j := k) (gN rfl) rfl rfl rfl rfl rfl rfl rfl rfl rfl (hx') rfl (hsz)) rfl ?_)
      (refine nx (a_field_ad (gN rfl) rfl rfl rfl rfl rfl rfl rfl rfl rfl rfl rfl) rfl ?_)
      (refine nx (a_load_ad (gN rfl) rfl rfl rfl rfl rfl rfl rfl rfl rfl) rfl ?_)
      show AWp _ _ _ _ _ _ _
      refine aC rfl (fun hc2 => ?_) (fun hc2 => ?_)
      · have hc2 : x.neg = true := hc2
        refine aR ?_
        (refine nx (aA (gN rfl) rfl rfl rfl rfl rfl) rfl ?_)
        rw [hc2]
        exact wk_sub ⟨rfl, rfl, rfl, rfl, rfl, rfl, rfl, rfl, trivial⟩
      · have hc2 : x.neg = false := hc2
        refine aK ?_
        rw [hc2]
        exact wk_sub ⟨rfl, rfl, rfl, rfl, rfl, rfl, rfl, rfl, trivial⟩
    refine aD (by kernel_rfl) (by kernel_rfl) ?_
    (refine nx (aF (gN rfl) rfl rfl rfl rfl rfl rfl rfl rfl rfl) rfl ?_)
    (refine nx (a_load_tok (gN rfl) rfl rfl rfl rfl rfl rfl rfl rfl rfl rfl rfl rfl rfl) rfl ?_)
    (refine nx (aM (gN rfl) rfl rfl rfl rfl rfl) rfl ?_)
    (refine nx (aM (gN rfl) rfl rfl rfl rfl rfl) rfl ?_)
    (refine nx (aM (gN rfl) rfl rfl rfl rfl rfl) rfl ?_)
    (refine nx (a_index (j := k) (gN rfl) rfl rfl rfl rfl rfl rfl rfl rfl rfl (hx') rfl (hsz)) rfl ?_)
    (refine nx (a_field_ad (gN rfl) rfl rfl rfl rfl rfl rfl rfl rfl rfl rfl rfl) rfl ?_)
    (refine nx (a_load_ad (gN rfl) rfl rfl rfl rfl rfl rfl rfl rfl rfl) rfl ?_)
    (refine nx (aM (gN rfl) rfl rfl rfl rfl rfl) rfl ?_)
    (refine nx (aM (gN rfl) rfl rfl rfl rfl rfl) rfl ?_)
    (refine nx (a_index (j := k) (gN rfl) rfl rfl rfl rfl rfl rfl rfl rfl rfl (hx') rfl (hsz)) rfl ?_)
    (refine nx (a_field_ad (gN rfl) rfl rfl rfl rfl rfl rfl rfl rfl rfl rfl rfl) rfl ?_)
    (refine nx (a_load_ad (gN rfl) rfl rfl rfl rfl rfl rfl rfl rfl rfl) rfl ?_)
    (refine nx (a_bslice (gN rfl) rfl rfl rfl rfl rfl rfl rfl rfl rfl rfl rfl rfl rfl) rfl ?_)
    (refine nx (a_build (gN rfl) rfl rfl rfl rfl rfl rfl rfl rfl rfl rfl rfl) rfl ?_)
    (refine nx (a_bslice (gN rfl) rfl rfl rfl rfl rfl rfl rfl rfl rfl rfl rfl rfl rfl) rfl ?_)
    (refine nx (a_app (gN rfl) rfl rfl rfl rfl rfl rfl rfl rfl rfl rfl rfl rfl rfl rfl rfl (by first | assumption | exact sZ rfl | exact Tm.size_all _ | exact Bd.size_all _ | exact ints_size _ | exact bys_size _ | exact Lt.size_all _) (by first | assumption | exact sZ rfl | exact Tm.size_all _ | exact Bd.size_all _ | exact ints_size _ | exact bys_size _ | exact Lt.size_all _) (by first | omega | (simp only [List.length_map, List.length_append, List.length_cons, List.length_nil] <;> omega) | (simp <;> omega))) rfl ?_)
    (refine nx (aF (gN rfl) rfl rfl rfl rfl rfl rfl rfl rfl rfl) rfl ?_)
    (refine nx (a_store (gN rfl) rfl rfl rfl rfl rfl rfl rfl rfl rfl rfl) rfl ?_)
    refine ⟨by kernel_rfl, ?_⟩
    show AWp _ _ _ _ _ _ _
    refine aR ?_
    (refine nx (aM (gN rfl) rfl rfl rfl rfl rfl) rfl ?_)
    (refine nx (a_add (gN rfl) rfl rfl rfl rfl rfl rfl (by first | omega | (simp only [List.length_map, List.length_append, List.length_cons, List.length_nil] <;> omega) | (simp <;> omega))) rfl ?_)
    (refine nx (aA (gN rfl) rfl rfl rfl rfl rfl) rfl ?_)
    refine ⟨hkl, Wk.trans (wk_sub (s' := [(0, .val (.lst (c.map Lt.cv))), (2, .bp 2 0 []), (100002, ⟨5, .row [.i 0, .lst []], 1, 0, [1]⟩), (3, .bp 3 0 []), (100003, ⟨5, .row [.i 0, .lst (((c.take (k + 1)).map whlL).map Tm.cv)], 300034, 0, [1]⟩), (300034, .tok 39 2), (4, .val (.i ((k + 1 : Nat) : Int)))]) ⟨rfl, rfl, rfl, rfl, ?_, rfl, rfl, trivial⟩) (wk_ren 300034 200034 rfl rfl rfl rfl)⟩
    rw [hst]
    rfl
  · have hkl : k = c.length := by
      simp only [List.length_map, decide_eq_false_iff_not] at hc
      omega
    subst hkl
    rw [List.take_length]
    show AWp _ _ _ _ _ _ _
    refine aS (aR ?_)
    (refine nx (aL (gN rfl) rfl rfl rfl rfl rfl rfl rfl rfl rfl rfl rfl rfl) rfl ?_)
    (refine nx (aSt (gN rfl) rfl rfl rfl rfl rfl rfl rfl rfl rfl rfl) rfl ?_)
    show AWp _ _ _ _ _ _ _
    exact aT (And.intro (.inr rfl) rfl)
end Go.Proofs.YtebhbnhijnpmcaaGreatDoor
