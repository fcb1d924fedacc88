/-
  PsSkip PsFind PsTmV PsTmS PsGr PsSkM PsDt
-/
import Derived.Test.YtglbohajmccehaaDoorMg5
import Derived.Test.YtglbohajmccehaaDoorMg4
-- @STR@
namespace Go.Proofs.YtglbohajmccehaaDoor
open Go.RowKit
set_option linter.unusedVariables false
set_option linter.unusedSimpArgs false
set_option maxRecDepth 100000

def hiB : By := [65, 66, 67, 68, 69, 70, 71, 72, 73, 74, 75, 76, 77, 78, 79, 80, 81, 82, 83, 84, 85, 86, 87, 88, 89, 90]
theorem mem_hi (c : UInt8) : decide (c ∈ hiB) = grB c := by
  have := u8_all (p := fun c => decide (c ∈ hiB) == grB c) (by kernel_rfl) c
  simpa using this
def skI (L : List By) : Nat → Nat → Nat → Option Nat → Option (Option (Nat × Nat))
  | 0, _, _, _ => none
  | n + 1, d, at_, none => match L[at_]? with
    | none => none
    | some t => if (decide (t = []) || !(isSmL t || isGrL t)) || decide (33 < d) then some none
      else if isGrL t then some (some (at_ + 1, 1))
      else match L[at_ + 1]? with
        | none => none
        | some p => if p = [40] then skI L n d (at_ + 1) (some 1) else some (some (at_ + 1, 1))
  | n + 1, d, at_, some deep => match skI L n (d + 1) (at_ + 1) none with
    | none => none
    | some none => some none
    | some (some (nxt, m)) => match L[nxt]? with
      | none => none
      | some p => if p = [41] then some (some (nxt + 1, if m + 1 > deep then m + 1 else deep))
        else if p = [44] then skI L n d nxt (some (if m + 1 > deep then m + 1 else deep)) else some none
theorem sk_deep (L : List By) : ∀ n d at_, (∀ a m, skI L n d at_ none = some (some (a, m)) → m + d ≤ 34) ∧ ∀ deep a m, deep + d ≤ 34 → skI L n d at_ (some deep) = some (some (a, m)) → m + d ≤ 34 := by
  intro n
  induction n with
  | zero => intro d at_; exact ⟨fun a m h => by simp [skI] at h, fun deep a m _ h => by simp [skI] at h⟩
  | succ n ih =>
    intro d at_
    constructor
    · intro a m h
      rw [skI] at h
      split at h
      · cases h
      · split at h
        · cases h
        · rename_i hc
          have hd : d ≤ 33 := by
            simp only [Bool.or_eq_true, decide_eq_true_eq, not_or] at hc
            omega
          split at h
          · cases h; omega
          · split at h
            · cases h
            · split at h
              · exact (ih d (at_ + 1)).2 1 a m (by omega) h
              · cases h; omega
    · intro deep a m hdd h
      rw [skI] at h
      split at h
      · cases h
      · cases h
      · rename_i nxt m1 hq
        have h1 := (ih (d + 1) (at_ + 1)).1 nxt m1 hq
        have h2 : (if m1 + 1 > deep then m1 + 1 else deep) + d ≤ 34 := by split <;> omega
        split at h
        · cases h
        · split at h
          · cases h; exact h2
          · split at h
            · exact (ih d nxt).2 _ a m h2 h
            · cases h
def skR : Option (Nat × Nat) → Int × Int
  | none => (-1, 0)
  | some (a, m) => (a, m)
-- 
set_option maxHeartbeats 4000000 in
theorem skip12_abs (L : List By) (hL : L.length ≤ 1000000) (I : Nat) (bad : Bool) (g : Sg) (vs : List By) : ∀ (n d at_ : Nat) (r : Option (Nat × Nat)), d ≤ 40 → skI L n d at_ none = some r → AFunO Tryd.prog 28 (rdS L I bad g vs) [.bp 350001 0 [], .val (.i (at_ : Int)), .val (.i (d : Int))] (.tup [.i (skR r).1, .i (skR r).2]) (rdS L I bad g vs) := by
  intro n
  induction n using Nat.strongRecOn with
  | ind n ih =>
  intro d at_ r hd hr
  have hsv := svs_size L
  obtain ⟨n, rfl⟩ : ∃ k, n = k + 1 := by
    cases n with
    | zero => simp [skI] at hr
    | succ n => exact ⟨n, rfl⟩
  rw [skI] at hr
  cases ht : L[at_]? with
  | none => rw [ht] at hr; cases hr
  | some t =>
  rw [ht] at hr
  simp only at hr
  have hatl : at_ < L.length := (List.getElem?_eq_some_iff.1 ht).1
  have ht' := sv_at ht
  refine afunO_of Tryd.func28 Tryd.ntmps28 rfl rfl rfl rfl rfl rfl ?_
  intro w U hU
  refine aS (aR ?_)
  (refine nx (aA (gN rfl) rfl rfl rfl rfl rfl) rfl ?_)
  (refine nx (aA (gN rfl) rfl rfl rfl rfl rfl) rfl ?_)
  show AWp _ _ _ _ _ _ _
  refine aS (aR ?_)
  (refine nx (aM (gN rfl) rfl rfl rfl rfl rfl) rfl ?_)
  (refine nx (aNc (gN rfl) rfl rfl rfl rfl rfl) rfl ?_)
  (refine nx (aF (gN rfl) rfl rfl rfl rfl rfl rfl rfl rfl rfl) rfl ?_)
  (refine nx (aLf (gN rfl) rfl rfl rfl rfl rfl rfl rfl rfl rfl rfl rfl rfl rfl) rfl ?_)
  (refine nx (aM (gN rfl) rfl rfl rfl rfl rfl) rfl ?_)
  (refine nx (a_index (j := at_) (gN rfl) rfl rfl rfl rfl rfl rfl rfl rfl rfl (ht') rfl (hsv)) rfl ?_)
  (refine nx (a_load_ad (gN rfl) rfl rfl rfl rfl rfl rfl rfl rfl rfl) rfl ?_)
  (refine nx (aA (gN rfl) rfl rfl rfl rfl rfl) rfl ?_)
  show AWp _ _ _ _ _ _ _
  cases t with
  | nil =>
    have hr0 : none = r := by simpa using hr
    subst hr0
    refine aS (aS (aR ?_))
    (refine nx (aM (gN rfl) rfl rfl rfl rfl rfl) rfl ?_)
    (refine nx (a_seql (gN rfl) rfl rfl rfl rfl rfl rfl rfl) rfl ?_)
    (refine nx (aM (gN rfl) rfl rfl rfl rfl rfl) rfl ?_)
    (refine ⟨_, _, _, a_off (go_off rfl rfl rfl rfl (by first | rfl | assumption | (simp; done) | (simp [*]; done))) rfl rfl rfl, rfl, ?_⟩)
    (refine ⟨_, _, _, a_off (go_off rfl rfl rfl rfl (by first | rfl | assumption | (simp; done) | (simp [*]; done))) rfl rfl rfl, rfl, ?_⟩)
    (refine ⟨_, _, _, a_off (go_off rfl rfl rfl rfl (by first | rfl | assumption | (simp; done) | (simp [*]; done))) rfl rfl rfl, rfl, ?_⟩)
    (refine ⟨_, _, _, a_off (go_off rfl rfl rfl rfl (by first | rfl | assumption | (simp; done) | (simp [*]; done))) rfl rfl rfl, rfl, ?_⟩)
    (refine ⟨_, _, _, aPt (gN rfl) rfl rfl rfl rfl rfl ?hb rfl, rfl, ?_⟩; case hb => (first | rfl | assumption | (simp; done)))
    (refine nx (aM (gN rfl) rfl rfl rfl rfl rfl) rfl ?_)
    (refine ⟨_, _, _, a_off (go_off rfl rfl rfl rfl (by first | rfl | assumption | (simp; done) | (simp [*]; done))) rfl rfl rfl, rfl, ?_⟩)
    (refine ⟨_, _, _, a_off (go_off rfl rfl rfl rfl (by first | rfl | assumption | (simp; done) | (simp [*]; done))) rfl rfl rfl, rfl, ?_⟩)
    (refine ⟨_, _, _, aPt (gN rfl) rfl rfl rfl rfl rfl ?hb rfl, rfl, ?_⟩; case hb => (first | rfl | assumption | (simp; done)))
    show AWp _ _ _ _ _ _ _
    refine aC rfl (fun _ => ?_) (fun h => by cases h)
    refine aS (aR ?_)
    (refine nx (aA (gN rfl) rfl rfl rfl rfl rfl) rfl ?_)
    (refine nx (aA (gN rfl) rfl rfl rfl rfl rfl) rfl ?_)
    show AWp _ _ _ _ _ _ _
    exact aT ⟨.inr rfl, _, Wk.refl _, rfl, rfl, rfl, rfl, rfl, rfl, rfl, rfl, rfl, rfl, rfl, rfl, rfl, trivial⟩
  | cons b t =>
  have h0 : (b :: t)[0]? = some b := rfl
  have g0 : decide (b :: t = []) = false := rfl
  have i2 := in12_abs w b lhB (by decide)
  rw [mem_lh] at i2
  have i3 := in12_abs w b hiB (by decide)
  rw [mem_hi] at i3
  rw [g0, let_cons, Bool.false_or] at hr
  cases hl : (smB b || grB b) with
  | false =>
    rw [hl] at i2 hr
    have hr0 : none = r := by simpa using hr
    subst hr0
    refine aS (aS (aR ?_))
    (refine nx (aM (gN rfl) rfl rfl rfl rfl rfl) rfl ?_)
    (refine nx (a_seql (gN rfl) rfl rfl rfl rfl rfl rfl rfl) rfl ?_)
    (refine nx (aM (gN rfl) rfl rfl rfl rfl rfl) rfl ?_)
    (refine nx (aM (gd_on rfl rfl rfl rfl (by first | rfl | assumption | (simp; done))) rfl rfl rfl rfl rfl) rfl ?_)
    (refine nx (a_sidx (0) (gd_on rfl rfl rfl rfl (by first | rfl | assumption | (simp; done))) rfl rfl rfl rfl rfl rfl rfl (by first | rfl | omega | (simp only [List.length_set, List.length_map, List.length_append, List.length_cons, List.length_nil] <;> omega) | (simp <;> omega)) (h0)) rfl ?_)
    (refine nx (a_call (gd_on rfl rfl rfl rfl (by first | rfl | assumption | (simp; done))) rfl rfl rfl rfl rfl (i2)) rfl ?_)
    (refine nx (a_not (gd_on rfl rfl rfl rfl (by first | rfl | assumption | (simp; done))) rfl rfl rfl rfl rfl) rfl ?_)
    (refine ⟨_, _, _, aPf (gN rfl) rfl rfl rfl rfl rfl ?hb rfl, rfl, ?_⟩; case hb => (first | rfl | assumption | (simp; done)))
    (refine nx (aM (gN rfl) rfl rfl rfl rfl rfl) rfl ?_)
    (refine ⟨_, _, _, a_off (go_off rfl rfl rfl rfl (by first | rfl | assumption | (simp; done) | (simp [*]; done))) rfl rfl rfl, rfl, ?_⟩)
    (refine ⟨_, _, _, a_off (go_off rfl rfl rfl rfl (by first | rfl | assumption | (simp; done) | (simp [*]; done))) rfl rfl rfl, rfl, ?_⟩)
    (refine ⟨_, _, _, aPt (gN rfl) rfl rfl rfl rfl rfl ?hb rfl, rfl, ?_⟩; case hb => (first | rfl | assumption | (simp; done)))
    show AWp _ _ _ _ _ _ _
    refine aC rfl (fun _ => ?_) (fun h => by cases h)
    refine aS (aR ?_)
    (refine nx (aA (gN rfl) rfl rfl rfl rfl rfl) rfl ?_)
    (refine nx (aA (gN rfl) rfl rfl rfl rfl rfl) rfl ?_)
    show AWp _ _ _ _ _ _ _
    exact aT ⟨.inr rfl, _, Wk.refl _, rfl, rfl, rfl, rfl, rfl, rfl, rfl, rfl, rfl, rfl, rfl, rfl, rfl, trivial⟩
  | true =>
  rw [hl] at i2 hr
  rw [show (!true || decide (33 < d)) = decide (33 < d) from rfl] at hr
  by_cases hdd : 33 < d
  · rw [if_pos (by simpa using hdd)] at hr
    cases hr
    have gd : decide ((d : Int) > 33) = true := by rw [decide_eq_true_eq]; omega
    refine aS (aS (aR ?_))
    (refine nx (aM (gN rfl) rfl rfl rfl rfl rfl) rfl ?_)
    (refine nx (a_seql (gN rfl) rfl rfl rfl rfl rfl rfl rfl) rfl ?_)
    (refine nx (aM (gN rfl) rfl rfl rfl rfl rfl) rfl ?_)
    (refine nx (aM (gd_on rfl rfl rfl rfl (by first | rfl | assumption | (simp; done))) rfl rfl rfl rfl rfl) rfl ?_)
    (refine nx (a_sidx (0) (gd_on rfl rfl rfl rfl (by first | rfl | assumption | (simp; done))) rfl rfl rfl rfl rfl rfl rfl (by first | rfl | omega | (simp only [List.length_set, List.length_map, List.length_append, List.length_cons, List.length_nil] <;> omega) | (simp <;> omega)) (h0)) rfl ?_)
    (refine nx (a_call (gd_on rfl rfl rfl rfl (by first | rfl | assumption | (simp; done))) rfl rfl rfl rfl rfl (i2)) rfl ?_)
    (refine nx (a_not (gd_on rfl rfl rfl rfl (by first | rfl | assumption | (simp; done))) rfl rfl rfl rfl rfl) rfl ?_)
    (refine ⟨_, _, _, aPf (gN rfl) rfl rfl rfl rfl rfl ?hb rfl, rfl, ?_⟩; case hb => (first | rfl | assumption | (simp; done)))
    (refine nx (aM (gN rfl) rfl rfl rfl rfl rfl) rfl ?_)
    (refine nx (aM (gd_on rfl rfl rfl rfl (by first | rfl | assumption | (simp; done))) rfl rfl rfl rfl rfl) rfl ?_)
    (refine nx (a_gtr (gd_on rfl rfl rfl rfl (by first | rfl | assumption | (simp; done))) rfl rfl rfl rfl rfl rfl) rfl ?_)
    (refine ⟨_, _, _, aPf (gN rfl) rfl rfl rfl rfl rfl ?hb rfl, rfl, ?_⟩; case hb => (first | rfl | assumption | (simp; done)))
    show AWp _ _ _ _ _ _ _
    refine aC rfl (fun _ => ?_) (fun h => by have h : decide ((d : Int) > 33) = false := h; rw [gd] at h; cases h)
    refine aS (aR ?_)
    (refine nx (aA (gN rfl) rfl rfl rfl rfl rfl) rfl ?_)
    (refine nx (aA (gN rfl) rfl rfl rfl rfl rfl) rfl ?_)
    show AWp _ _ _ _ _ _ _
    exact aT ⟨.inr rfl, _, Wk.refl _, rfl, rfl, rfl, rfl, rfl, rfl, rfl, rfl, rfl, rfl, rfl, rfl, rfl, trivial⟩
  rw [if_neg (by simpa using hdd)] at hr
  have gd : decide ((d : Int) > 33) = false := by rw [decide_eq_false_iff_not]; omega
  refine aS (aS (aR ?_))
  (refine nx (aM (gN rfl) rfl rfl rfl rfl rfl) rfl ?_)
  (refine nx (a_seql (gN rfl) rfl rfl rfl rfl rfl rfl rfl) rfl ?_)
  (refine nx (aM (gN rfl) rfl rfl rfl rfl rfl) rfl ?_)
  (refine nx (aM (gd_on rfl rfl rfl rfl (by first | rfl | assumption | (simp; done))) rfl rfl rfl rfl rfl) rfl ?_)
  (refine nx (a_sidx (0) (gd_on rfl rfl rfl rfl (by first | rfl | assumption | (simp; done))) rfl rfl rfl rfl rfl rfl rfl (by first | rfl | omega | (simp only [List.length_set, List.length_map, List.length_append, List.length_cons, List.length_nil] <;> omega) | (simp <;> omega)) (h0)) rfl ?_)
  (refine nx (a_call (gd_on rfl rfl rfl rfl (by first | rfl | assumption | (simp; done))) rfl rfl rfl rfl rfl (i2)) rfl ?_)
  (refine nx (a_not (gd_on rfl rfl rfl rfl (by first | rfl | assumption | (simp; done))) rfl rfl rfl rfl rfl) rfl ?_)
  (refine ⟨_, _, _, aPf (gN rfl) rfl rfl rfl rfl rfl ?hb rfl, rfl, ?_⟩; case hb => (first | rfl | assumption | (simp; done)))
  (refine nx (aM (gN rfl) rfl rfl rfl rfl rfl) rfl ?_)
  (refine nx (aM (gd_on rfl rfl rfl rfl (by first | rfl | assumption | (simp; done))) rfl rfl rfl rfl rfl) rfl ?_)
  (refine nx (a_gtr (gd_on rfl rfl rfl rfl (by first | rfl | assumption | (simp; done))) rfl rfl rfl rfl rfl rfl) rfl ?_)
  (refine ⟨_, _, _, aPf (gN rfl) rfl rfl rfl rfl rfl ?hb rfl, rfl, ?_⟩; case hb => (first | rfl | assumption | (simp; done)))
  show AWp _ _ _ _ _ _ _
  refine aC rfl (fun h => by have h : decide ((d : Int) > 33) = true := h; rw [gd] at h; cases h) (fun _ => aK ?_)
  show AWp _ _ _ _ _ _ _
  refine aS (aR ?_)
  (refine nx (aM (gN rfl) rfl rfl rfl rfl rfl) rfl ?_)
  (refine nx (a_add (gN rfl) rfl rfl rfl rfl rfl rfl (by first | omega | (simp only [List.length_map, List.length_append, List.length_cons, List.length_nil] <;> omega) | (simp <;> omega))) rfl ?_)
  (refine nx (aA (gN rfl) rfl rfl rfl rfl rfl) rfl ?_)
  show AWp _ _ _ _ _ _ _
  refine aS (aR ?_)
  (refine nx (aA (gN rfl) rfl rfl rfl rfl rfl) rfl ?_)
  show AWp _ _ _ _ _ _ _
  refine AWp.wk (wk_sub (s' := (0, .bp 350001 0 []) :: (1, .val (.i ((at_ + 1 : Nat) : Int))) :: (2, .val (.i (d : Int))) :: (8, .val (sv (b :: t))) :: (9, .val (.i 1)) :: rdS L I bad g vs) ⟨rfl, rfl, rfl, rfl, rfl, rfl, rfl, rfl, rfl, rfl, rfl, rfl, rfl, rfl, rfl, rfl, rfl, trivial⟩) ?_
  have hgr : isGrL (b :: t) = grB b := rfl
  rw [hgr] at hr
  cases hg : grB b with
  | true =>
    rw [hg] at i3 hr
    rw [if_pos rfl] at hr
    cases hr
    refine aS (aS (aR ?_))
    (refine nx (aM (gN rfl) rfl rfl rfl rfl rfl) rfl ?_)
    (refine nx (a_sidx (0) (gN rfl) rfl rfl rfl rfl rfl rfl rfl (by first | rfl | omega | (simp only [List.length_set, List.length_map, List.length_append, List.length_cons, List.length_nil] <;> omega) | (simp <;> omega)) (h0)) rfl ?_)
    (refine nx (a_call (gN rfl) rfl rfl rfl rfl rfl (i3)) rfl ?_)
    (refine nx (aM (gN rfl) rfl rfl rfl rfl rfl) rfl ?_)
    (refine ⟨_, _, _, a_off (go_off rfl rfl rfl rfl (by first | rfl | assumption | (simp; done) | (simp [*]; done))) rfl rfl rfl, rfl, ?_⟩)
    (refine ⟨_, _, _, a_off (go_off rfl rfl rfl rfl (by first | rfl | assumption | (simp; done) | (simp [*]; done))) rfl rfl rfl, rfl, ?_⟩)
    (refine ⟨_, _, _, a_off (go_off rfl rfl rfl rfl (by first | rfl | assumption | (simp; done) | (simp [*]; done))) rfl rfl rfl, rfl, ?_⟩)
    (refine ⟨_, _, _, a_off (go_off rfl rfl rfl rfl (by first | rfl | assumption | (simp; done) | (simp [*]; done))) rfl rfl rfl, rfl, ?_⟩)
    (refine ⟨_, _, _, a_off (go_off rfl rfl rfl rfl (by first | rfl | assumption | (simp; done) | (simp [*]; done))) rfl rfl rfl, rfl, ?_⟩)
    (refine ⟨_, _, _, a_off (go_off rfl rfl rfl rfl (by first | rfl | assumption | (simp; done) | (simp [*]; done))) rfl rfl rfl, rfl, ?_⟩)
    (refine ⟨_, _, _, a_off (go_off rfl rfl rfl rfl (by first | rfl | assumption | (simp; done) | (simp [*]; done))) rfl rfl rfl, rfl, ?_⟩)
    (refine ⟨_, _, _, a_off (go_off rfl rfl rfl rfl (by first | rfl | assumption | (simp; done) | (simp [*]; done))) rfl rfl rfl, rfl, ?_⟩)
    (refine ⟨_, _, _, aPt (gN rfl) rfl rfl rfl rfl rfl ?hb rfl, rfl, ?_⟩; case hb => (first | rfl | assumption | (simp; done)))
    show AWp _ _ _ _ _ _ _
    refine aC rfl (fun _ => ?_) (fun h => by cases h)
    refine aS (aR ?_)
    (refine nx (aM (gN rfl) rfl rfl rfl rfl rfl) rfl ?_)
    (refine nx (aM (gN rfl) rfl rfl rfl rfl rfl) rfl ?_)
    (refine nx (aA (gN rfl) rfl rfl rfl rfl rfl) rfl ?_)
    (refine nx (aA (gN rfl) rfl rfl rfl rfl rfl) rfl ?_)
    show AWp _ _ _ _ _ _ _
    exact aT ⟨.inr rfl, _, Wk.refl _, rfl, rfl, rfl, rfl, rfl, rfl, rfl, rfl, rfl, rfl, rfl, rfl, rfl, trivial⟩
  | false =>
  rw [hg] at i3 hr
  rw [if_neg (by simp)] at hr
  cases hp : L[at_ + 1]? with
  | none => rw [hp] at hr; cases hr
  | some p =>
  rw [hp] at hr
  simp only at hr
  have hp' := sv_at hp
  by_cases hpp : p = [40]
  · rw [if_pos hpp] at hr
    have gp : (!decide (p = [40])) = false := by rw [decide_eq_true hpp]; rfl
    refine aS (aS (aR ?_))
    (refine nx (aM (gN rfl) rfl rfl rfl rfl rfl) rfl ?_)
    (refine nx (a_sidx (0) (gN rfl) rfl rfl rfl rfl rfl rfl rfl (by first | rfl | omega | (simp only [List.length_set, List.length_map, List.length_append, List.length_cons, List.length_nil] <;> omega) | (simp <;> omega)) (h0)) rfl ?_)
    (refine nx (a_call (gN rfl) rfl rfl rfl rfl rfl (i3)) rfl ?_)
    (refine nx (aM (gN rfl) rfl rfl rfl rfl rfl) rfl ?_)
    (refine nx (aM (gd_on rfl rfl rfl rfl (by first | rfl | assumption | (simp; done))) rfl rfl rfl rfl rfl) rfl ?_)
    (refine nx (aNc (gd_on rfl rfl rfl rfl (by first | rfl | assumption | (simp; done))) rfl rfl rfl rfl rfl) rfl ?_)
    (refine nx (aF (gd_on rfl rfl rfl rfl (by first | rfl | assumption | (simp; done))) rfl rfl rfl rfl rfl rfl rfl rfl rfl) rfl ?_)
    (refine nx (aLf (gd_on rfl rfl rfl rfl (by first | rfl | assumption | (simp; done))) rfl rfl rfl rfl rfl rfl rfl rfl rfl rfl rfl rfl rfl) rfl ?_)
    (refine nx (aM (gd_on rfl rfl rfl rfl (by first | rfl | assumption | (simp; done))) rfl rfl rfl rfl rfl) rfl ?_)
    (refine nx (a_index (j := at_ + 1) (gd_on rfl rfl rfl rfl (by first | rfl | assumption | (simp; done))) rfl rfl rfl rfl rfl rfl rfl rfl rfl (hp') rfl (hsv)) rfl ?_)
    (refine nx (a_load_ad (gd_on rfl rfl rfl rfl (by first | rfl | assumption | (simp; done))) rfl rfl rfl rfl rfl rfl rfl rfl rfl) rfl ?_)
    (refine nx (a_sneq (gd_on rfl rfl rfl rfl (by first | rfl | assumption | (simp; done))) rfl rfl rfl rfl rfl rfl rfl) rfl ?_)
    (refine ⟨_, _, _, aPf (gN rfl) rfl rfl rfl rfl rfl ?hb rfl, rfl, ?_⟩; case hb => (first | rfl | assumption | (simp; done)))
    show AWp _ _ _ _ _ _ _
    refine aC rfl (fun h => by have h : (!decide (p = [40])) = true := h; rw [gp] at h; cases h) (fun _ => aK ?_)
    show AWp _ _ _ _ _ _ _
    let st : Nat → Nat → AS := fun a deep => (0, .bp 350001 0 []) :: (1, .val (.i (a : Int))) :: (2, .val (.i (d : Int))) :: (9, .val (.i (deep : Int))) :: rdS L I bad g vs
    refine aB (awp_loop (fun m s => ∃ a deep, m ≤ n ∧ a ≤ L.length ∧ deep + d ≤ 34 ∧ skI L m d a (some deep) = some r ∧ s = st a deep) (n := n) (s' := st (at_ + 1) 1) (wk_sub ⟨rfl, rfl, rfl, rfl, rfl, rfl, rfl, rfl, rfl, rfl, rfl, rfl, rfl, rfl, rfl, rfl, trivial⟩) ⟨at_ + 1, 1, Nat.le_refl _, by omega, by omega, hr, rfl⟩ ?_)
    rintro m s ⟨a, deep, hmn, hal, hdp, hm, rfl⟩
    obtain ⟨m, rfl⟩ : ∃ k, m = k + 1 := by
      cases m with
      | zero => simp [skI] at hm
      | succ m => exact ⟨m, rfl⟩
    rw [skI] at hm
    cases hq : skI L m (d + 1) (a + 1) none with
    | none => rw [hq] at hm; cases hm
    | some q =>
    rw [hq] at hm
    cases q with
    | none =>
      simp only at hm
      cases hm
      have hc : AFunO Tryd.prog 28 (rdS L I bad g vs) [.bp 350001 0 [], .val (.i ((a + 1 : Nat) : Int)), .val (.i ((d + 1 : Nat) : Int))] (.tup [.i (-1), .i 0]) (rdS L I bad g vs) := ih m (by omega) (d + 1) (a + 1) none (by omega) hq
      refine aB (aS (aR ?_))
      (refine nx (aM (gN rfl) rfl rfl rfl rfl rfl) rfl ?_)
      (refine nx (aM (gN rfl) rfl rfl rfl rfl rfl) rfl ?_)
      (refine nx (a_add (gN rfl) rfl rfl rfl rfl rfl rfl (by first | omega | (simp only [List.length_map, List.length_append, List.length_cons, List.length_nil] <;> omega) | (simp <;> omega))) rfl ?_)
      (refine nx (aM (gN rfl) rfl rfl rfl rfl rfl) rfl ?_)
      (refine nx (a_add (gN rfl) rfl rfl rfl rfl rfl rfl (by first | omega | (simp only [List.length_map, List.length_append, List.length_cons, List.length_nil] <;> omega) | (simp <;> omega))) rfl ?_)
      (refine nx (a_callO (gN rfl) rfl rfl rfl rfl rfl (hc) (by repeat (first | exact trivial | refine ⟨rfl, ?_⟩)) (by first | rfl | kernel_rfl) (by first | rfl | kernel_rfl) (by first | rfl | kernel_rfl) (by first | rfl | kernel_rfl) (hnb_of (by first | rfl | kernel_rfl))) rfl ?_)
      (refine nx (aM (gN rfl) rfl rfl rfl rfl rfl) rfl ?_)
      (refine nx (aX (gN rfl) rfl rfl rfl rfl rfl rfl) rfl ?_)
      (refine nx (aX (gN rfl) rfl rfl rfl rfl rfl rfl) rfl ?_)
      (refine nx (aA (gN rfl) rfl rfl rfl rfl rfl) rfl ?_)
      (refine nx (aA (gN rfl) rfl rfl rfl rfl rfl) rfl ?_)
      show AWp _ _ _ _ _ _ _
      refine aS (aS (aR ?_))
      (refine nx (aM (gN rfl) rfl rfl rfl rfl rfl) rfl ?_)
      (refine nx (a_lss (gN rfl) rfl rfl rfl rfl rfl rfl) rfl ?_)
      show AWp _ _ _ _ _ _ _
      refine aC rfl (fun _ => ?_) (fun h => by cases h)
      refine aS (aR ?_)
      (refine nx (aA (gN rfl) rfl rfl rfl rfl rfl) rfl ?_)
      (refine nx (aA (gN rfl) rfl rfl rfl rfl rfl) rfl ?_)
      show AWp _ _ _ _ _ _ _
      exact aT ⟨.inr rfl, _, Wk.refl _, rfl, rfl, rfl, rfl, rfl, rfl, rfl, rfl, rfl, rfl, rfl, rfl, rfl, trivial⟩
    | some q =>
    obtain ⟨nxt, m1⟩ := q
    simp only at hm
    have hc : AFunO Tryd.prog 28 (rdS L I bad g vs) [.bp 350001 0 [], .val (.i ((a + 1 : Nat) : Int)), .val (.i ((d + 1 : Nat) : Int))] (.tup [.i (nxt : Int), .i (m1 : Int)]) (rdS L I bad g vs) := ih m (by omega) (d + 1) (a + 1) (some (nxt, m1)) (by omega) hq
    have hm1 := (sk_deep L m (d + 1) (a + 1)).1 nxt m1 hq
    refine aB (aS (aR ?_))
    (refine nx (aM (gN rfl) rfl rfl rfl rfl rfl) rfl ?_)
    (refine nx (aM (gN rfl) rfl rfl rfl rfl rfl) rfl ?_)
    (refine nx (a_add (gN rfl) rfl rfl rfl rfl rfl rfl (by first | omega | (simp only [List.length_map, List.length_append, List.length_cons, List.length_nil] <;> omega) | (simp <;> omega))) rfl ?_)
    (refine nx (aM (gN rfl) rfl rfl rfl rfl rfl) rfl ?_)
    (refine nx (a_add (gN rfl) rfl rfl rfl rfl rfl rfl (by first | omega | (simp only [List.length_map, List.length_append, List.length_cons, List.length_nil] <;> omega) | (simp <;> omega))) rfl ?_)
    (refine nx (a_callO (gN rfl) rfl rfl rfl rfl rfl (hc) (by repeat (first | exact trivial | refine ⟨rfl, ?_⟩)) (by first | rfl | kernel_rfl) (by first | rfl | kernel_rfl) (by first | rfl | kernel_rfl) (by first | rfl | kernel_rfl) (hnb_of (by first | rfl | kernel_rfl))) rfl ?_)
    (refine nx (aM (gN rfl) rfl rfl rfl rfl rfl) rfl ?_)
    (refine nx (aX (gN rfl) rfl rfl rfl rfl rfl rfl) rfl ?_)
    (refine nx (aX (gN rfl) rfl rfl rfl rfl rfl rfl) rfl ?_)
    (refine nx (aA (gN rfl) rfl rfl rfl rfl rfl) rfl ?_)
    (refine nx (aA (gN rfl) rfl rfl rfl rfl rfl) rfl ?_)
    show AWp _ _ _ _ _ _ _
    refine aS (aS (aR ?_))
    (refine nx (aM (gN rfl) rfl rfl rfl rfl rfl) rfl ?_)
    (refine nx (a_lss (gN rfl) rfl rfl rfl rfl rfl rfl) rfl ?_)
    show AWp _ _ _ _ _ _ _
    refine aC rfl (fun h => by have h : decide ((nxt : Int) < 0) = true := h; have := of_decide_eq_true h; omega) (fun _ => aK ?_)
    show AWp _ _ _ _ _ _ _
    obtain ⟨e, he⟩ : ∃ e, e = if m1 + 1 > deep then m1 + 1 else deep := ⟨_, rfl⟩
    rw [← he] at hm
    have hel : e + d ≤ 34 := by rw [he]; split <;> omega
    refine awp_mid ((0, .bp 350001 0 []) :: (1, .val (.i (a : Int))) :: (2, .val (.i (d : Int))) :: (9, .val (.i (e : Int))) :: (10, .val (.i (nxt : Int))) :: rdS L I bad g vs) ?_ ?_
    · by_cases hgt : m1 + 1 > deep
      · rw [if_pos hgt] at he
        refine aS (aR ?_)
        (refine nx (aM (gN rfl) rfl rfl rfl rfl rfl) rfl ?_)
        (refine nx (a_add (gN rfl) rfl rfl rfl rfl rfl rfl (by first | omega | (simp only [List.length_map, List.length_append, List.length_cons, List.length_nil] <;> omega) | (simp <;> omega))) rfl ?_)
        (refine nx (aM (gN rfl) rfl rfl rfl rfl rfl) rfl ?_)
        (refine nx (a_gtr (gN rfl) rfl rfl rfl rfl rfl rfl) rfl ?_)
        show AWp _ _ _ _ _ _ _
        refine aC rfl (fun _ => ?_) (fun h => by have h : decide ((m1 : Int) + 1 > (deep : Int)) = false := h; have := of_decide_eq_false h; omega)
        refine aR ?_
        (refine nx (aM (gN rfl) rfl rfl rfl rfl rfl) rfl ?_)
        (refine nx (a_add (gN rfl) rfl rfl rfl rfl rfl rfl (by first | omega | (simp only [List.length_map, List.length_append, List.length_cons, List.length_nil] <;> omega) | (simp <;> omega))) rfl ?_)
        (refine nx (aA (gN rfl) rfl rfl rfl rfl rfl) rfl ?_)
        exact wk_sub ⟨rfl, rfl, rfl, by rw [he]; rfl, rfl, rfl, rfl, rfl, rfl, rfl, rfl, rfl, rfl, rfl, rfl, rfl, rfl, trivial⟩
      · rw [if_neg hgt] at he
        refine aS (aR ?_)
        (refine nx (aM (gN rfl) rfl rfl rfl rfl rfl) rfl ?_)
        (refine nx (a_add (gN rfl) rfl rfl rfl rfl rfl rfl (by first | omega | (simp only [List.length_map, List.length_append, List.length_cons, List.length_nil] <;> omega) | (simp <;> omega))) rfl ?_)
        (refine nx (aM (gN rfl) rfl rfl rfl rfl rfl) rfl ?_)
        (refine nx (a_gtr (gN rfl) rfl rfl rfl rfl rfl rfl) rfl ?_)
        show AWp _ _ _ _ _ _ _
        refine aC rfl (fun h => by have h : decide ((m1 : Int) + 1 > (deep : Int)) = true := h; have := of_decide_eq_true h; omega) (fun _ => aK ?_)
        exact wk_sub ⟨rfl, rfl, rfl, by rw [he]; rfl, rfl, rfl, rfl, rfl, rfl, rfl, rfl, rfl, rfl, rfl, rfl, rfl, rfl, trivial⟩
    refine aS (aR ?_)
    (refine nx (aM (gN rfl) rfl rfl rfl rfl rfl) rfl ?_)
    (refine nx (aA (gN rfl) rfl rfl rfl rfl rfl) rfl ?_)
    show AWp _ _ _ _ _ _ _
    cases hy : L[nxt]? with
    | none => rw [hy] at hm; cases hm
    | some y =>
    rw [hy] at hm
    simp only at hm
    have hy' := sv_at hy
    have hyl : nxt < L.length := (List.getElem?_eq_some_iff.1 hy).1
    by_cases h41 : y = [41]
    · rw [if_pos h41] at hm
      cases hm
      have gy : decide (y = [41]) = true := decide_eq_true h41
      refine aS (aS (aR ?_))
      (refine nx (aM (gN rfl) rfl rfl rfl rfl rfl) (by first | rfl | kernel_rfl) ?_)
      (refine nx (aNc (gN rfl) rfl rfl rfl rfl rfl) (by first | rfl | kernel_rfl) ?_)
      (first | (refine nx (aF (gN rfl) rfl rfl rfl rfl rfl rfl rfl rfl rfl) (by first | rfl | kernel_rfl) ?_) | (refine nx (a_field_ad (gN rfl) rfl rfl rfl rfl rfl rfl rfl rfl rfl rfl rfl) (by first | rfl | kernel_rfl) ?_) | (refine nx (a_fieldM (gN rfl) rfl rfl rfl rfl rfl rfl rfl rfl rfl) (by first | rfl | kernel_rfl) ?_))
      (first | (refine nx (aL (gN rfl) rfl rfl rfl rfl rfl rfl rfl rfl rfl rfl rfl rfl) (by first | rfl | kernel_rfl) ?_) | (refine nx (a_load_tok (gN rfl) rfl rfl rfl rfl rfl rfl rfl rfl rfl rfl rfl rfl rfl) (by first | rfl | kernel_rfl) ?_) | (refine nx (aLb (gN rfl) rfl rfl rfl rfl rfl rfl rfl rfl rfl rfl rfl rfl) (by first | rfl | kernel_rfl) ?_) | (refine nx (a_load_ad (gN rfl) rfl rfl rfl rfl rfl rfl rfl rfl rfl) (by first | rfl | kernel_rfl) ?_) | (refine nx (a_load_ptr (gN rfl) rfl rfl rfl rfl rfl rfl rfl rfl rfl) (by first | rfl | kernel_rfl) ?_) | (refine nx (aLf (gN rfl) rfl rfl rfl rfl rfl rfl rfl rfl rfl rfl rfl rfl rfl) (by first | rfl | kernel_rfl) ?_) | (refine nx (a_load_fullv (gN rfl) rfl rfl rfl rfl rfl rfl rfl rfl rfl) (by first | rfl | kernel_rfl) ?_))
      (refine nx (aM (gN rfl) rfl rfl rfl rfl rfl) (by first | rfl | kernel_rfl) ?_)
      (refine nx (a_index (j := nxt) (gN rfl) rfl rfl rfl rfl rfl rfl rfl rfl rfl (hy') rfl (hsv)) (by first | rfl | kernel_rfl) ?_)
      (first | (refine nx (aL (gN rfl) rfl rfl rfl rfl rfl rfl rfl rfl rfl rfl rfl rfl) (by first | rfl | kernel_rfl) ?_) | (refine nx (a_load_tok (gN rfl) rfl rfl rfl rfl rfl rfl rfl rfl rfl rfl rfl rfl rfl) (by first | rfl | kernel_rfl) ?_) | (refine nx (aLb (gN rfl) rfl rfl rfl rfl rfl rfl rfl rfl rfl rfl rfl rfl) (by first | rfl | kernel_rfl) ?_) | (refine nx (a_load_ad (gN rfl) rfl rfl rfl rfl rfl rfl rfl rfl rfl) (by first | rfl | kernel_rfl) ?_) | (refine nx (a_load_ptr (gN rfl) rfl rfl rfl rfl rfl rfl rfl rfl rfl) (by first | rfl | kernel_rfl) ?_) | (refine nx (aLf (gN rfl) rfl rfl rfl rfl rfl rfl rfl rfl rfl rfl rfl rfl rfl) (by first | rfl | kernel_rfl) ?_) | (refine nx (a_load_fullv (gN rfl) rfl rfl rfl rfl rfl rfl rfl rfl rfl) (by first | rfl | kernel_rfl) ?_))
      (first | (refine nx (a_eql (gN rfl) rfl rfl rfl rfl rfl rfl) (by first | rfl | kernel_rfl) ?_) | (refine nx (a_beq (gN rfl) rfl rfl rfl rfl rfl rfl rfl) (by first | rfl | kernel_rfl) ?_) | (refine nx (a_seql (gN rfl) rfl rfl rfl rfl rfl rfl rfl) (by first | rfl | kernel_rfl) ?_))
      show AWp _ _ _ _ _ _ _
      refine aC rfl (fun _ => ?_) (fun h => by have h : decide (y = [41]) = false := h; rw [gy] at h; cases h)
      refine aS (aR ?_)
      (refine nx (aM (gN rfl) rfl rfl rfl rfl rfl) rfl ?_)
      (refine nx (a_add (gN rfl) rfl rfl rfl rfl rfl rfl (by first | omega | (simp only [List.length_map, List.length_append, List.length_cons, List.length_nil] <;> omega) | (simp <;> omega))) rfl ?_)
      (refine nx (aM (gN rfl) rfl rfl rfl rfl rfl) rfl ?_)
      (refine nx (aA (gN rfl) rfl rfl rfl rfl rfl) rfl ?_)
      (refine nx (aA (gN rfl) rfl rfl rfl rfl rfl) rfl ?_)
      show AWp _ _ _ _ _ _ _
      exact aT ⟨.inr rfl, _, Wk.refl _, rfl, rfl, rfl, rfl, rfl, rfl, rfl, rfl, rfl, rfl, rfl, rfl, rfl, trivial⟩
    rw [if_neg h41] at hm
    have gy : decide (y = [41]) = false := decide_eq_false h41
    refine aS (aS (aR ?_))
    (refine nx (aM (gN rfl) rfl rfl rfl rfl rfl) (by first | rfl | kernel_rfl) ?_)
    (refine nx (aNc (gN rfl) rfl rfl rfl rfl rfl) (by first | rfl | kernel_rfl) ?_)
    (first | (refine nx (aF (gN rfl) rfl rfl rfl rfl rfl rfl rfl rfl rfl) (by first | rfl | kernel_rfl) ?_) | (refine nx (a_field_ad (gN rfl) rfl rfl rfl rfl rfl rfl rfl rfl rfl rfl rfl) (by first | rfl | kernel_rfl) ?_) | (refine nx (a_fieldM (gN rfl) rfl rfl rfl rfl rfl rfl rfl rfl rfl) (by first | rfl | kernel_rfl) ?_))
    (first | (refine nx (aL (gN rfl) rfl rfl rfl rfl rfl rfl rfl rfl rfl rfl rfl rfl) (by first | rfl | kernel_rfl) ?_) | (refine nx (a_load_tok (gN rfl) rfl rfl rfl rfl rfl rfl rfl rfl rfl rfl rfl rfl rfl) (by first | rfl | kernel_rfl) ?_) | (refine nx (aLb (gN rfl) rfl rfl rfl rfl rfl rfl rfl rfl rfl rfl rfl rfl) (by first | rfl | kernel_rfl) ?_) | (refine nx (a_load_ad (gN rfl) rfl rfl rfl rfl rfl rfl rfl rfl rfl) (by first | rfl | kernel_rfl) ?_) | (refine nx (a_load_ptr (gN rfl) rfl rfl rfl rfl rfl rfl rfl rfl rfl) (by first | rfl | kernel_rfl) ?_) | (refine nx (aLf (gN rfl) rfl rfl rfl rfl rfl rfl rfl rfl rfl rfl rfl rfl rfl) (by first | rfl | kernel_rfl) ?_) | (refine nx (a_load_fullv (gN rfl) rfl rfl rfl rfl rfl rfl rfl rfl rfl) (by first | rfl | kernel_rfl) ?_))
    (refine nx (aM (gN rfl) rfl rfl rfl rfl rfl) (by first | rfl | kernel_rfl) ?_)
    (refine nx (a_index (j := nxt) (gN rfl) rfl rfl rfl rfl rfl rfl rfl rfl rfl (hy') rfl (hsv)) (by first | rfl | kernel_rfl) ?_)
    (first | (refine nx (aL (gN rfl) rfl rfl rfl rfl rfl rfl rfl rfl rfl rfl rfl rfl) (by first | rfl | kernel_rfl) ?_) | (refine nx (a_load_tok (gN rfl) rfl rfl rfl rfl rfl rfl rfl rfl rfl rfl rfl rfl rfl) (by first | rfl | kernel_rfl) ?_) | (refine nx (aLb (gN rfl) rfl rfl rfl rfl rfl rfl rfl rfl rfl rfl rfl rfl) (by first | rfl | kernel_rfl) ?_) | (refine nx (a_load_ad (gN rfl) rfl rfl rfl rfl rfl rfl rfl rfl rfl) (by first | rfl | kernel_rfl) ?_) | (refine nx (a_load_ptr (gN rfl) rfl rfl rfl rfl rfl rfl rfl rfl rfl) (by first | rfl | kernel_rfl) ?_) | (refine nx (aLf (gN rfl) rfl rfl rfl rfl rfl rfl rfl rfl rfl rfl rfl rfl rfl) (by first | rfl | kernel_rfl) ?_) | (refine nx (a_load_fullv (gN rfl) rfl rfl rfl rfl rfl rfl rfl rfl rfl) (by first | rfl | kernel_rfl) ?_))
    (first | (refine nx (a_eql (gN rfl) rfl rfl rfl rfl rfl rfl) (by first | rfl | kernel_rfl) ?_) | (refine nx (a_beq (gN rfl) rfl rfl rfl rfl rfl rfl rfl) (by first | rfl | kernel_rfl) ?_) | (refine nx (a_seql (gN rfl) rfl rfl rfl rfl rfl rfl rfl) (by first | rfl | kernel_rfl) ?_))
    show AWp _ _ _ _ _ _ _
    refine aC rfl (fun h => by have h : decide (y = [41]) = true := h; rw [gy] at h; cases h) (fun _ => aK ?_)
    show AWp _ _ _ _ _ _ _
    by_cases h44 : y = [44]
    · rw [if_pos h44] at hm
      have gz : (!decide (y = [44])) = false := by rw [decide_eq_true h44]; rfl
      refine aS (aR ?_)
      (refine nx (aM (gN rfl) rfl rfl rfl rfl rfl) (by first | rfl | kernel_rfl) ?_)
      (refine nx (aNc (gN rfl) rfl rfl rfl rfl rfl) (by first | rfl | kernel_rfl) ?_)
      (first | (refine nx (aF (gN rfl) rfl rfl rfl rfl rfl rfl rfl rfl rfl) (by first | rfl | kernel_rfl) ?_) | (refine nx (a_field_ad (gN rfl) rfl rfl rfl rfl rfl rfl rfl rfl rfl rfl rfl) (by first | rfl | kernel_rfl) ?_) | (refine nx (a_fieldM (gN rfl) rfl rfl rfl rfl rfl rfl rfl rfl rfl) (by first | rfl | kernel_rfl) ?_))
      (first | (refine nx (aL (gN rfl) rfl rfl rfl rfl rfl rfl rfl rfl rfl rfl rfl rfl) (by first | rfl | kernel_rfl) ?_) | (refine nx (a_load_tok (gN rfl) rfl rfl rfl rfl rfl rfl rfl rfl rfl rfl rfl rfl rfl) (by first | rfl | kernel_rfl) ?_) | (refine nx (aLb (gN rfl) rfl rfl rfl rfl rfl rfl rfl rfl rfl rfl rfl rfl) (by first | rfl | kernel_rfl) ?_) | (refine nx (a_load_ad (gN rfl) rfl rfl rfl rfl rfl rfl rfl rfl rfl) (by first | rfl | kernel_rfl) ?_) | (refine nx (a_load_ptr (gN rfl) rfl rfl rfl rfl rfl rfl rfl rfl rfl) (by first | rfl | kernel_rfl) ?_) | (refine nx (aLf (gN rfl) rfl rfl rfl rfl rfl rfl rfl rfl rfl rfl rfl rfl rfl) (by first | rfl | kernel_rfl) ?_) | (refine nx (a_load_fullv (gN rfl) rfl rfl rfl rfl rfl rfl rfl rfl rfl) (by first | rfl | kernel_rfl) ?_))
      (refine nx (aM (gN rfl) rfl rfl rfl rfl rfl) (by first | rfl | kernel_rfl) ?_)
      (refine nx (a_index (j := nxt) (gN rfl) rfl rfl rfl rfl rfl rfl rfl rfl rfl (hy') rfl (hsv)) (by first | rfl | kernel_rfl) ?_)
      (first | (refine nx (aL (gN rfl) rfl rfl rfl rfl rfl rfl rfl rfl rfl rfl rfl rfl) (by first | rfl | kernel_rfl) ?_) | (refine nx (a_load_tok (gN rfl) rfl rfl rfl rfl rfl rfl rfl rfl rfl rfl rfl rfl rfl) (by first | rfl | kernel_rfl) ?_) | (refine nx (aLb (gN rfl) rfl rfl rfl rfl rfl rfl rfl rfl rfl rfl rfl rfl) (by first | rfl | kernel_rfl) ?_) | (refine nx (a_load_ad (gN rfl) rfl rfl rfl rfl rfl rfl rfl rfl rfl) (by first | rfl | kernel_rfl) ?_) | (refine nx (a_load_ptr (gN rfl) rfl rfl rfl rfl rfl rfl rfl rfl rfl) (by first | rfl | kernel_rfl) ?_) | (refine nx (aLf (gN rfl) rfl rfl rfl rfl rfl rfl rfl rfl rfl rfl rfl rfl rfl) (by first | rfl | kernel_rfl) ?_) | (refine nx (a_load_fullv (gN rfl) rfl rfl rfl rfl rfl rfl rfl rfl rfl) (by first | rfl | kernel_rfl) ?_))
      (first | (refine nx (a_neq (gN rfl) rfl rfl rfl rfl rfl rfl) (by first | rfl | kernel_rfl) ?_) | (refine nx (a_bne (gN rfl) rfl rfl rfl rfl rfl rfl rfl) (by first | rfl | kernel_rfl) ?_) | (refine nx (a_sneq (gN rfl) rfl rfl rfl rfl rfl rfl rfl) (by first | rfl | kernel_rfl) ?_))
      show AWp _ _ _ _ _ _ _
      refine aC rfl (fun h => by have h : (!decide (y = [44])) = true := h; rw [gz] at h; cases h) (fun _ => aK ?_)
      exact ⟨m, st nxt e, by omega, ⟨nxt, e, by omega, by omega, hel, hm, rfl⟩, wk_sub ⟨rfl, rfl, rfl, rfl, rfl, rfl, rfl, rfl, rfl, rfl, rfl, rfl, rfl, rfl, rfl, rfl, trivial⟩⟩
    · rw [if_neg h44] at hm
      cases hm
      have gz : (!decide (y = [44])) = true := by rw [decide_eq_false h44]; rfl
      refine aS (aR ?_)
      (refine nx (aM (gN rfl) rfl rfl rfl rfl rfl) (by first | rfl | kernel_rfl) ?_)
      (refine nx (aNc (gN rfl) rfl rfl rfl rfl rfl) (by first | rfl | kernel_rfl) ?_)
      (first | (refine nx (aF (gN rfl) rfl rfl rfl rfl rfl rfl rfl rfl rfl) (by first | rfl | kernel_rfl) ?_) | (refine nx (a_field_ad (gN rfl) rfl rfl rfl rfl rfl rfl rfl rfl rfl rfl rfl) (by first | rfl | kernel_rfl) ?_) | (refine nx (a_fieldM (gN rfl) rfl rfl rfl rfl rfl rfl rfl rfl rfl) (by first | rfl | kernel_rfl) ?_))
      (first | (refine nx (aL (gN rfl) rfl rfl rfl rfl rfl rfl rfl rfl rfl rfl rfl rfl) (by first | rfl | kernel_rfl) ?_) | (refine nx (a_load_tok (gN rfl) rfl rfl rfl rfl rfl rfl rfl rfl rfl rfl rfl rfl rfl) (by first | rfl | kernel_rfl) ?_) | (refine nx (aLb (gN rfl) rfl rfl rfl rfl rfl rfl rfl rfl rfl rfl rfl rfl) (by first | rfl | kernel_rfl) ?_) | (refine nx (a_load_ad (gN rfl) rfl rfl rfl rfl rfl rfl rfl rfl rfl) (by first | rfl | kernel_rfl) ?_) | (refine nx (a_load_ptr (gN rfl) rfl rfl rfl rfl rfl rfl rfl rfl rfl) (by first | rfl | kernel_rfl) ?_) | (refine nx (aLf (gN rfl) rfl rfl rfl rfl rfl rfl rfl rfl rfl rfl rfl rfl rfl) (by first | rfl | kernel_rfl) ?_) | (refine nx (a_load_fullv (gN rfl) rfl rfl rfl rfl rfl rfl rfl rfl rfl) (by first | rfl | kernel_rfl) ?_))
      (refine nx (aM (gN rfl) rfl rfl rfl rfl rfl) (by first | rfl | kernel_rfl) ?_)
      (refine nx (a_index (j := nxt) (gN rfl) rfl rfl rfl rfl rfl rfl rfl rfl rfl (hy') rfl (hsv)) (by first | rfl | kernel_rfl) ?_)
      (first | (refine nx (aL (gN rfl) rfl rfl rfl rfl rfl rfl rfl rfl rfl rfl rfl rfl) (by first | rfl | kernel_rfl) ?_) | (refine nx (a_load_tok (gN rfl) rfl rfl rfl rfl rfl rfl rfl rfl rfl rfl rfl rfl rfl) (by first | rfl | kernel_rfl) ?_) | (refine nx (aLb (gN rfl) rfl rfl rfl rfl rfl rfl rfl rfl rfl rfl rfl rfl) (by first | rfl | kernel_rfl) ?_) | (refine nx (a_load_ad (gN rfl) rfl rfl rfl rfl rfl rfl rfl rfl rfl) (by first | rfl | kernel_rfl) ?_) | (refine nx (a_load_ptr (gN rfl) rfl rfl rfl rfl rfl rfl rfl rfl rfl) (by first | rfl | kernel_rfl) ?_) | (refine nx (aLf (gN rfl) rfl rfl rfl rfl rfl rfl rfl rfl rfl rfl rfl rfl rfl) (by first | rfl | kernel_rfl) ?_) | (refine nx (a_load_fullv (gN rfl) rfl rfl rfl rfl rfl rfl rfl rfl rfl) (by first | rfl | kernel_rfl) ?_))
      (first | (refine nx (a_neq (gN rfl) rfl rfl rfl rfl rfl rfl) (by first | rfl | kernel_rfl) ?_) | (refine nx (a_bne (gN rfl) rfl rfl rfl rfl rfl rfl rfl) (by first | rfl | kernel_rfl) ?_) | (refine nx (a_sneq (gN rfl) rfl rfl rfl rfl rfl rfl rfl) (by first | rfl | kernel_rfl) ?_))
      show AWp _ _ _ _ _ _ _
      refine aC rfl (fun _ => ?_) (fun h => by have h : (!decide (y = [44])) = false := h; rw [gz] at h; cases h)
      refine aS (aR ?_)
      (refine nx (aA (gN rfl) rfl rfl rfl rfl rfl) rfl ?_)
      (refine nx (aA (gN rfl) rfl rfl rfl rfl rfl) rfl ?_)
      show AWp _ _ _ _ _ _ _
      exact aT ⟨.inr rfl, _, Wk.refl _, rfl, rfl, rfl, rfl, rfl, rfl, rfl, rfl, rfl, rfl, rfl, rfl, rfl, trivial⟩
  · rw [if_neg hpp] at hr
    cases hr
    have gp : (!decide (p = [40])) = true := by rw [decide_eq_false hpp]; rfl
    refine aS (aS (aR ?_))
    (refine nx (aM (gN rfl) rfl rfl rfl rfl rfl) rfl ?_)
    (refine nx (a_sidx (0) (gN rfl) rfl rfl rfl rfl rfl rfl rfl (by first | rfl | omega | (simp only [List.length_set, List.length_map, List.length_append, List.length_cons, List.length_nil] <;> omega) | (simp <;> omega)) (h0)) rfl ?_)
    (refine nx (a_call (gN rfl) rfl rfl rfl rfl rfl (i3)) rfl ?_)
    (refine nx (aM (gN rfl) rfl rfl rfl rfl rfl) rfl ?_)
    (refine nx (aM (gd_on rfl rfl rfl rfl (by first | rfl | assumption | (simp; done))) rfl rfl rfl rfl rfl) rfl ?_)
    (refine nx (aNc (gd_on rfl rfl rfl rfl (by first | rfl | assumption | (simp; done))) rfl rfl rfl rfl rfl) rfl ?_)
    (refine nx (aF (gd_on rfl rfl rfl rfl (by first | rfl | assumption | (simp; done))) rfl rfl rfl rfl rfl rfl rfl rfl rfl) rfl ?_)
    (refine nx (aLf (gd_on rfl rfl rfl rfl (by first | rfl | assumption | (simp; done))) rfl rfl rfl rfl rfl rfl rfl rfl rfl rfl rfl rfl rfl) rfl ?_)
    (refine nx (aM (gd_on rfl rfl rfl rfl (by first | rfl | assumption | (simp; done))) rfl rfl rfl rfl rfl) rfl ?_)
    (refine nx (a_index (j := at_ + 1) (gd_on rfl rfl rfl rfl (by first | rfl | assumption | (simp; done))) rfl rfl rfl rfl rfl rfl rfl rfl rfl (hp') rfl (hsv)) rfl ?_)
    (refine nx (a_load_ad (gd_on rfl rfl rfl rfl (by first | rfl | assumption | (simp; done))) rfl rfl rfl rfl rfl rfl rfl rfl rfl) rfl ?_)
    (refine nx (a_sneq (gd_on rfl rfl rfl rfl (by first | rfl | assumption | (simp; done))) rfl rfl rfl rfl rfl rfl rfl) rfl ?_)
    (refine ⟨_, _, _, aPf (gN rfl) rfl rfl rfl rfl rfl ?hb rfl, rfl, ?_⟩; case hb => (first | rfl | assumption | (simp; done)))
    show AWp _ _ _ _ _ _ _
    refine aC rfl (fun _ => ?_) (fun h => by have h : (!decide (p = [40])) = false := h; rw [gp] at h; cases h)
    refine aS (aR ?_)
    (refine nx (aM (gN rfl) rfl rfl rfl rfl rfl) rfl ?_)
    (refine nx (aM (gN rfl) rfl rfl rfl rfl rfl) rfl ?_)
    (refine nx (aA (gN rfl) rfl rfl rfl rfl rfl) rfl ?_)
    (refine nx (aA (gN rfl) rfl rfl rfl rfl rfl) rfl ?_)
    show AWp _ _ _ _ _ _ _
    exact aT ⟨.inr rfl, _, Wk.refl _, rfl, rfl, rfl, rfl, rfl, rfl, rfl, rfl, rfl, rfl, rfl, rfl, rfl, trivial⟩
end Go.Proofs.YtglbohajmccehaaDoor

-- @STR@
namespace Go.Proofs.YtglbohajmccehaaDoor
open Go.RowKit
set_option linter.unusedVariables false
set_option linter.unusedSimpArgs false
set_option maxRecDepth 100000

-- 
set_option maxHeartbeats 2000000 in
theorem findO_abs (l : List By) (s : By) (hl : l.length ≤ 1000000) : AFunO Tryd.prog 36 [(400000, .mrow 9 1 (l.map sv))] [.sl 400000 0 l.length 1, .val (sv s)] (.val (.i (fndB l s))) [(400000, .mrow 9 1 (l.map sv))] := by
  have hln : (l.map sv).length = l.length := List.length_map ..
  refine afunO_of Tryd.func36 Tryd.ntmps36 rfl rfl rfl rfl rfl rfl ?_
  intro w U hU
  refine aS (aR ?_)
  (refine nx (aA (gN rfl) rfl rfl rfl rfl rfl) rfl ?_)
  show AWp _ _ _ _ _ _ _
  refine aS (aS (aR ?_))
  (refine nx (aA (gN rfl) rfl rfl rfl rfl rfl) rfl ?_)
  show AWp _ _ _ _ _ _ _
  refine aB (awp_countI l.length (fun k => ∀ x ∈ l.take k, x ≠ s) (fun k => [(0, .sl 400000 0 l.length 1), (1, .val (sv s)), (5, .val (.i (k : Int))), (400000, .mrow 9 1 (l.map sv))]) (wk_sub ⟨rfl, rfl, rfl, rfl, trivial⟩) (by simp) ?_)
  intro k hk hI
  refine aS (aS (aR ?_))
  (refine nx (aM (gN rfl) rfl rfl rfl rfl rfl) rfl ?_)
  (refine nx (aM (gN rfl) rfl rfl rfl rfl rfl) rfl ?_)
  (refine nx (a_lenM (gN rfl) rfl rfl rfl rfl rfl rfl rfl) rfl ?_)
  (refine nx (a_lss (gN rfl) rfl rfl rfl rfl rfl rfl) rfl ?_)
  show AWp _ _ _ _ _ _ _
  refine aC rfl (fun hlt => ?_) (fun hlt => ?_)
  · have hkl : k < l.length := by
      have hlt : decide ((k : Int) < (l.length : Int)) = true := hlt
      simpa using hlt
    obtain ⟨x, hx⟩ : ∃ x, l[k]? = some x := ⟨l[k], List.getElem?_eq_getElem hkl⟩
    have hx' := sv_at hx
    refine aK ?_
    show AWp _ _ _ _ _ _ _
    refine aS (aB (aS (aR ?_)))
    (refine nx (aM (gN rfl) rfl rfl rfl rfl rfl) rfl ?_)
    (refine nx (aM (gN rfl) rfl rfl rfl rfl rfl) rfl ?_)
    (refine nx (aIm (k := k) (gN rfl) rfl rfl rfl rfl rfl rfl rfl rfl rfl (by first | rfl | omega | (simp only [List.length_set, List.length_map, List.length_append, List.length_cons, List.length_nil] <;> omega) | (simp <;> omega))) rfl ?_)
    (refine nx (a_loadM (gN rfl) rfl rfl rfl rfl rfl rfl rfl rfl (hx') rfl (by first | rfl | omega | (simp only [List.length_set, List.length_map, List.length_append, List.length_cons, List.length_nil] <;> omega) | (simp <;> omega)) rfl rfl) rfl ?_)
    (refine nx (aM (gN rfl) rfl rfl rfl rfl rfl) rfl ?_)
    (refine nx (a_seql (gN rfl) rfl rfl rfl rfl rfl rfl rfl) rfl ?_)
    show AWp _ _ _ _ _ _ _
    refine aC rfl (fun hc => ?_) (fun hc => aK ?_)
    · have hc : x = s := by
        have hc : decide (x = s) = true := hc
        simpa using hc
      refine aS (aR ?_)
      (refine nx (aM (gN rfl) rfl rfl rfl rfl rfl) rfl ?_)
      (refine nx (aA (gN rfl) rfl rfl rfl rfl rfl) rfl ?_)
      show AWp _ _ _ _ _ _ _
      have : fndB l s = (k : Int) := by
        unfold fndB
        rw [List.findIdx?_eq_some_iff_getElem.2 ⟨hkl, by have := (List.getElem?_eq_some_iff.1 hx).2; simp [this, hc], fun j hj => by
          have hjl : j < l.length := by omega
          have : l[j] ∈ l.take k := by
            rw [List.mem_take_iff_getElem]
            exact ⟨j, by omega, rfl⟩
          simp [hI _ this]⟩]
      rw [this]
      exact aT ⟨.inr rfl, _, Wk.refl _, rfl, rfl, trivial⟩
    · have hc : x ≠ s := by
        have hc : decide (x = s) = false := hc
        simpa using hc
      show AWp _ _ _ _ _ _ _
      refine aR ?_
      (refine nx (aM (gN rfl) rfl rfl rfl rfl rfl) rfl ?_)
      (refine nx (a_add (gN rfl) rfl rfl rfl rfl rfl rfl (by first | omega | (simp only [List.length_map, List.length_append, List.length_cons, List.length_nil] <;> omega) | (simp <;> omega))) rfl ?_)
      (refine nx (aA (gN rfl) rfl rfl rfl rfl rfl) rfl ?_)
      refine ⟨hkl, ?_, wk_sub ⟨rfl, rfl, rfl, rfl, trivial⟩⟩
      show ∀ y ∈ l.take (k + 1), y ≠ s
      rw [List.take_add_one, hx]
      intro y hm
      rcases List.mem_append.1 hm with hm | hm
      · exact hI y hm
      · have : y = x := by simpa using hm
        rw [this]; exact hc
  · have hkl : k = l.length := by
      have hlt : decide ((k : Int) < (l.length : Int)) = false := hlt
      have : ¬ k < l.length := by simpa using hlt
      omega
    subst hkl
    rw [List.take_length] at hI
    refine aE ?_
    show AWp _ _ _ _ _ _ _
    refine aS (aR ?_)
    (refine nx (aA (gN rfl) rfl rfl rfl rfl rfl) rfl ?_)
    show AWp _ _ _ _ _ _ _
    have : fndB l s = -1 := by
      unfold fndB
      rw [List.findIdx?_eq_none_iff.2 (fun x hx => by simp [hI x hx])]
    rw [this]
    exact aT ⟨.inr rfl, _, Wk.refl _, rfl, rfl, trivial⟩
end Go.Proofs.YtglbohajmccehaaDoor

-- @STR@
namespace Go.Proofs.YtglbohajmccehaaDoor
open Go.RowKit
set_option linter.unusedVariables false
set_option linter.unusedSimpArgs false
set_option maxRecDepth 100000

def vrD (vs : List By) (t : By) : Nat × List By := if fndB vs t < 0 then (vs.length, vs ++ [t]) else ((fndB vs t).toNat, vs)
theorem fndB_lt (l : List By) (s : By) : fndB l s < (l.length : Int) ∧ -1 ≤ fndB l s := by
  unfold fndB
  split
  · rename_i i hi
    have := (List.findIdx?_eq_some_iff_getElem.1 hi).1
    omega
  · omega
-- 
set_option maxHeartbeats 4000000 in
theorem termV_abs (L : List By) (I : Nat) (bad pred : Bool) (g : Sg) (vs : List By) (b : UInt8) (t : By) (hx : L[I]? = some (b :: t)) (hb : grB b = true) (hI : I ≤ 1000000) (hv : vs.length ≤ 1000000) : AFunO Tryd.prog 29 (rdS L I bad g vs) [.bp 350001 0 [], .val (.b pred)] (.val (.row [.i (-1 - ((vrD vs (b :: t)).1 : Int)), .lst []])) (rdS L (I + 1) (bad || pred) g (vrD vs (b :: t)).2) := by
  have hx' := sv_at hx
  have hsv := svs_size L
  have h0 : (b :: t)[0]? = some b := rfl
  have z4 := svs_size vs
  have m4 : (vs.map sv).length = vs.length := List.length_map ..
  obtain ⟨f1, f2⟩ := fndB_lt vs (b :: t)
  have fo := findO_abs vs (b :: t) hv
  obtain ⟨K, hK⟩ : ∃ K, K = fndB vs (b :: t) := ⟨_, rfl⟩
  rw [← hK] at f1 f2 fo
  obtain ⟨nm, hnm⟩ : ∃ nm, nm = b :: t := ⟨_, rfl⟩
  rw [← hnm] at hx' h0 fo hK ⊢
  refine afunO_of Tryd.func29 Tryd.ntmps29 rfl rfl rfl rfl rfl rfl ?_
  intro w U hU
  have hUf : U.f 400000 = none := by
    cases hh : U.f 400000 with
    | none => rfl
    | some x => have := hU _ _ hh; cases this
  have hUb : U.f 300004 = none := by
    cases hh : U.f 300004 with
    | none => rfl
    | some x => have := (U.hf _ _ hh).1; omega
  have i3 := in12_abs w b hiB (by decide)
  rw [mem_hi, hb] at i3
  refine aS (aR ?_)
  (refine nx (a_alloc (gN rfl) rfl rfl rfl rfl rfl rfl rfl rfl rfl rfl) (by kernel_rfl) ?_)
  show AWp _ _ _ _ _ _ _
  refine aS (aD (by kernel_rfl) (by kernel_rfl) ?_)
  (refine nx (aM (gN rfl) rfl rfl rfl rfl rfl) rfl ?_)
  (refine nx (aNc (gN rfl) rfl rfl rfl rfl rfl) rfl ?_)
  (refine nx (aF (gN rfl) rfl rfl rfl rfl rfl rfl rfl rfl rfl) rfl ?_)
  (refine nx (aLf (gN rfl) rfl rfl rfl rfl rfl rfl rfl rfl rfl rfl rfl rfl rfl) rfl ?_)
  (refine nx (aM (gN rfl) rfl rfl rfl rfl rfl) rfl ?_)
  (refine nx (aNc (gN rfl) rfl rfl rfl rfl rfl) rfl ?_)
  (refine nx (aF (gN rfl) rfl rfl rfl rfl rfl rfl rfl rfl rfl) rfl ?_)
  (refine nx (aLf (gN rfl) rfl rfl rfl rfl rfl rfl rfl rfl rfl rfl rfl rfl rfl) rfl ?_)
  (refine nx (a_index (j := I) (gN rfl) rfl rfl rfl rfl rfl rfl rfl rfl rfl (hx') rfl (hsv)) rfl ?_)
  (refine nx (a_load_ad (gN rfl) rfl rfl rfl rfl rfl rfl rfl rfl rfl) rfl ?_)
  (refine nx (aA (gN rfl) rfl rfl rfl rfl rfl) rfl ?_)
  refine ⟨by kernel_rfl, ?_⟩
  show AWp _ _ _ _ _ _ _
  refine aS (aR ?_)
  (refine nx (aM (gN rfl) rfl rfl rfl rfl rfl) rfl ?_)
  (refine nx (aNc (gN rfl) rfl rfl rfl rfl rfl) rfl ?_)
  (refine nx (aF (gN rfl) rfl rfl rfl rfl rfl rfl rfl rfl rfl) rfl ?_)
  (refine nx (aLf (gN rfl) rfl rfl rfl rfl rfl rfl rfl rfl rfl rfl rfl rfl rfl) rfl ?_)
  (refine nx (a_add (gN rfl) rfl rfl rfl rfl rfl rfl (by first | omega | (simp only [List.length_map, List.length_append, List.length_cons, List.length_nil] <;> omega) | (simp <;> omega))) rfl ?_)
  (refine nx (aNc (gN rfl) rfl rfl rfl rfl rfl) rfl ?_)
  (refine nx (aF (gN rfl) rfl rfl rfl rfl rfl rfl rfl rfl rfl) rfl ?_)
  (refine nx (a_store_fld (gN rfl) rfl rfl rfl rfl rfl rfl rfl rfl rfl rfl rfl rfl) rfl ?_)
  show AWp _ _ _ _ _ _ _
  refine aS (aS (aR ?_))
  (refine nx (aM (gN rfl) rfl rfl rfl rfl rfl) rfl ?_)
  (refine nx (a_sidx (0) (gN rfl) rfl rfl rfl rfl rfl rfl rfl (by first | rfl | omega | (simp only [List.length_set, List.length_map, List.length_append, List.length_cons, List.length_nil] <;> omega) | (simp <;> omega)) (h0)) rfl ?_)
  (refine nx (a_call (gN rfl) rfl rfl rfl rfl rfl (i3)) rfl ?_)
  show AWp _ _ _ _ _ _ _
  refine aC rfl (fun _ => ?_) (fun h => by cases h)
  refine awp_mid ((0, .bp 350001 0 []) :: (4, .bp 4 0 []) :: (100004, ⟨5, .row [.i 0, .lst []], 1, 0, [1]⟩) :: (5, .val (sv nm)) :: rdS L (I + 1) (bad || pred) g vs) ?_ ?_
  · cases bad with
    | true =>
      refine aR ?_
      (refine nx (aM (gN rfl) rfl rfl rfl rfl rfl) rfl ?_)
      (refine nx (aM (gN rfl) rfl rfl rfl rfl rfl) rfl ?_)
      (refine nx (aNc (gN rfl) rfl rfl rfl rfl rfl) rfl ?_)
      (refine nx (aF (gN rfl) rfl rfl rfl rfl rfl rfl rfl rfl rfl) rfl ?_)
      (refine nx (aLf (gN rfl) rfl rfl rfl rfl rfl rfl rfl rfl rfl rfl rfl rfl rfl) rfl ?_)
      (refine nx (aM (gN rfl) rfl rfl rfl rfl rfl) rfl ?_)
      (refine ⟨_, _, _, a_off (go_off rfl rfl rfl rfl (by first | rfl | assumption | (simp; done) | (simp [*]; done))) rfl rfl rfl, rfl, ?_⟩)
      (refine ⟨_, _, _, aPt (gN rfl) rfl rfl rfl rfl rfl ?hb rfl, rfl, ?_⟩; case hb => (first | rfl | assumption | (simp; done)))
      (refine nx (aNc (gN rfl) rfl rfl rfl rfl rfl) rfl ?_)
      (refine nx (aF (gN rfl) rfl rfl rfl rfl rfl rfl rfl rfl rfl) rfl ?_)
      (refine nx (a_store_fld (gN rfl) rfl rfl rfl rfl rfl rfl rfl rfl rfl rfl rfl rfl) rfl ?_)
      exact wk_sub ⟨rfl, rfl, rfl, rfl, rfl, rfl, rfl, rfl, rfl, rfl, rfl, rfl, rfl, rfl, rfl, rfl, trivial⟩
    | false =>
      refine aR ?_
      (refine nx (aM (gN rfl) rfl rfl rfl rfl rfl) rfl ?_)
      (refine nx (aM (gN rfl) rfl rfl rfl rfl rfl) rfl ?_)
      (refine nx (aNc (gN rfl) rfl rfl rfl rfl rfl) rfl ?_)
      (refine nx (aF (gN rfl) rfl rfl rfl rfl rfl rfl rfl rfl rfl) rfl ?_)
      (refine nx (aLf (gN rfl) rfl rfl rfl rfl rfl rfl rfl rfl rfl rfl rfl rfl rfl) rfl ?_)
      (refine nx (aM (gN rfl) rfl rfl rfl rfl rfl) rfl ?_)
      (refine nx (aM (gd_on rfl rfl rfl rfl (by first | rfl | assumption | (simp; done))) rfl rfl rfl rfl rfl) rfl ?_)
      (refine ⟨_, _, _, aPf (gN rfl) rfl rfl rfl rfl rfl ?hb rfl, rfl, ?_⟩; case hb => (first | rfl | assumption | (simp; done)))
      (refine nx (aNc (gN rfl) rfl rfl rfl rfl rfl) rfl ?_)
      (refine nx (aF (gN rfl) rfl rfl rfl rfl rfl rfl rfl rfl rfl) rfl ?_)
      (refine nx (a_store_fld (gN rfl) rfl rfl rfl rfl rfl rfl rfl rfl rfl rfl rfl rfl) rfl ?_)
      exact wk_sub ⟨rfl, rfl, rfl, rfl, rfl, rfl, rfl, rfl, rfl, rfl, rfl, rfl, rfl, rfl, rfl, rfl, trivial⟩
  refine AWp.wk (wk_renF 300004 400000 rfl rfl hUf (by kernel_rfl) (by kernel_rfl) (by kernel_rfl)) ?_
  refine aS (aR ?_)
  (refine nx (aM (gN rfl) rfl rfl rfl rfl rfl) rfl ?_)
  (refine nx (aNc (gN rfl) rfl rfl rfl rfl rfl) rfl ?_)
  (refine nx (aF (gN rfl) rfl rfl rfl rfl rfl rfl rfl rfl rfl) rfl ?_)
  (refine nx (aLf (gN rfl) rfl rfl rfl rfl rfl rfl rfl rfl rfl rfl rfl rfl rfl) rfl ?_)
  (refine nx (aM (gN rfl) rfl rfl rfl rfl rfl) rfl ?_)
  (refine nx (a_callO (gN rfl) rfl rfl rfl rfl rfl (fo) (by repeat (first | exact trivial | refine ⟨rfl, ?_⟩)) (by first | rfl | kernel_rfl) (by first | rfl | kernel_rfl) (by first | rfl | kernel_rfl) (by first | rfl | kernel_rfl) (hnb_of (by first | rfl | kernel_rfl))) rfl ?_)
  (refine nx (aA (gN rfl) rfl rfl rfl rfl rfl) rfl ?_)
  show AWp _ _ _ _ _ _ _
  refine AWp.wk ((wk_sub (s' := [(0, .bp 350001 0 []), (4, .bp 4 0 []), (100004, ⟨5, .row [.i 0, .lst []], 1, 0, [1]⟩), (5, .val (sv nm)), (6, .val (.i K)), (450001, .obj), (35500100, .val (.lst (L.map sv))), (35500101, .val (.i ((I + 1 : Nat) : Int))), (35500102, .val (.b (bad || pred))), (35500103, .sl 300001 0 g.nm.length 1), (35500104, .sl 300002 0 g.ar.length 1), (35500105, .sl 300003 0 g.pr.length 1), (35500106, .sl 400000 0 vs.length 1), (300001, .mrow 9 1 (g.nm.map sv)), (300002, .mrow 3 1 (g.ar.map iv)), (300003, .mrow 4 1 (g.pr.map bv)), (400000, .mrow 9 1 (vs.map sv))]) ⟨rfl, rfl, rfl, rfl, rfl, rfl, rfl, rfl, rfl, rfl, rfl, rfl, rfl, rfl, rfl, rfl, rfl, trivial⟩).trans (wk_renF 400000 300004 rfl rfl hUb (by kernel_rfl) (by kernel_rfl) (by kernel_rfl))) ?_
  by_cases hK0 : K < 0
  · have hvr : vrD vs nm = (vs.length, vs ++ [nm]) := by unfold vrD; rw [← hK, if_pos hK0]
    rw [hvr]
    refine aS (aS (aR ?_))
    (refine nx (aM (gN rfl) rfl rfl rfl rfl rfl) rfl ?_)
    (refine nx (a_lss (gN rfl) rfl rfl rfl rfl rfl rfl) rfl ?_)
    show AWp _ _ _ _ _ _ _
    refine aC rfl (fun _ => ?_) (fun h => by have h : decide (K < 0) = false := h; have := of_decide_eq_false h; omega)
    refine aS (aR ?_)
    (refine nx (aM (gN rfl) rfl rfl rfl rfl rfl) rfl ?_)
    (refine nx (aNc (gN rfl) rfl rfl rfl rfl rfl) rfl ?_)
    (refine nx (aF (gN rfl) rfl rfl rfl rfl rfl rfl rfl rfl rfl) rfl ?_)
    (refine nx (aLf (gN rfl) rfl rfl rfl rfl rfl rfl rfl rfl rfl rfl rfl rfl rfl) rfl ?_)
    (refine nx (a_lenM (gN rfl) rfl rfl rfl rfl rfl rfl rfl) rfl ?_)
    (refine nx (aA (gN rfl) rfl rfl rfl rfl rfl) rfl ?_)
    show AWp _ _ _ _ _ _ _
    refine aR ?_
    (refine nx (aM (gN rfl) rfl rfl rfl rfl rfl) rfl ?_)
    (refine nx (aM (gN rfl) rfl rfl rfl rfl rfl) rfl ?_)
    (refine nx (aNc (gN rfl) rfl rfl rfl rfl rfl) rfl ?_)
    (refine nx (aF (gN rfl) rfl rfl rfl rfl rfl rfl rfl rfl rfl) rfl ?_)
    (refine nx (aLf (gN rfl) rfl rfl rfl rfl rfl rfl rfl rfl rfl rfl rfl rfl rfl) rfl ?_)
    (refine nx (aM (gN rfl) rfl rfl rfl rfl rfl) rfl ?_)
    (refine nx (a_bslice (gN rfl) rfl rfl rfl rfl rfl rfl rfl rfl rfl rfl rfl rfl rfl) rfl ?_)
    (refine nx (a_appM 300064 (gN rfl) rfl rfl rfl rfl rfl rfl rfl rfl rfl rfl rfl rfl rfl (by first | rfl | omega | (simp only [List.length_set, List.length_map, List.length_append, List.length_cons, List.length_nil] <;> omega) | (simp <;> omega)) (by first | assumption | exact sZ rfl | exact Tm.size_all _ | exact Bd.size_all _ | exact ints_size _ | exact bys_size _ | exact Lt.size_all _) (by first | omega | (simp only [List.length_map, List.length_append, List.length_cons, List.length_nil] <;> omega) | (simp <;> omega))) (by kernel_rfl) ?_)
    (refine nx (aNc (gN rfl) rfl rfl rfl rfl rfl) rfl ?_)
    (refine nx (aF (gN rfl) rfl rfl rfl rfl rfl rfl rfl rfl rfl) rfl ?_)
    (refine nx (a_store_fld (gN rfl) rfl rfl rfl rfl rfl rfl rfl rfl rfl rfl rfl rfl) rfl ?_)
    show AWp _ _ _ _ _ _ _
    refine aS (aR ?_)
    (refine nx (aM (gN rfl) rfl rfl rfl rfl rfl) rfl ?_)
    (refine nx (a_sub (gN rfl) rfl rfl rfl rfl rfl rfl (by first | omega | (simp only [List.length_map, List.length_append, List.length_cons, List.length_nil] <;> omega) | (simp <;> omega))) rfl ?_)
    (refine nx (a_buildP (gN rfl) rfl rfl rfl rfl rfl rfl rfl rfl rfl rfl rfl) rfl ?_)
    (refine nx (aSt (gN rfl) rfl rfl rfl rfl rfl rfl rfl rfl rfl rfl) rfl ?_)
    show AWp _ _ _ _ _ _ _
    exact aT ⟨.inr rfl, _, (wk_sub (s' := [(4, .bp 4 0 []), (100004, .bx (.row [.i (-1 - (vs.length : Int)), .lst []])), (450001, .obj), (35500100, .val (.lst (L.map sv))), (35500101, .val (.i ((I + 1 : Nat) : Int))), (35500102, .val (.b (bad || pred))), (35500103, .sl 300001 0 g.nm.length 1), (35500104, .sl 300002 0 g.ar.length 1), (35500105, .sl 300003 0 g.pr.length 1), (35500106, .sl 300064 0 (vs ++ [nm]).length 1), (300001, .mrow 9 1 (g.nm.map sv)), (300002, .mrow 3 1 (g.ar.map iv)), (300003, .mrow 4 1 (g.pr.map bv)), (300064, .mrow 9 1 ((vs ++ [nm]).map sv))]) ⟨rfl, rfl, rfl, rfl, rfl, rfl, rfl, rfl, rfl, by rw [List.length_append, ← m4]; rfl, rfl, rfl, rfl, by rw [List.map_append]; rfl, trivial⟩).trans (wk_ren 300064 300004 rfl rfl (by kernel_rfl) (by kernel_rfl)), rfl, rfl, rfl, rfl, rfl, rfl, rfl, rfl, rfl, rfl, rfl, rfl, rfl, trivial⟩
  · have hvr : vrD vs nm = (K.toNat, vs) := by unfold vrD; rw [← hK, if_neg hK0]
    rw [hvr]
    have hKn : ((K.toNat : Nat) : Int) = K := by omega
    simp only [hKn]
    refine aS (aS (aR ?_))
    (refine nx (aM (gN rfl) rfl rfl rfl rfl rfl) rfl ?_)
    (refine nx (a_lss (gN rfl) rfl rfl rfl rfl rfl rfl) rfl ?_)
    show AWp _ _ _ _ _ _ _
    refine aC rfl (fun h => by have h : decide (K < 0) = true := h; have := of_decide_eq_true h; omega) (fun _ => aK ?_)
    show AWp _ _ _ _ _ _ _
    refine aS (aR ?_)
    (refine nx (aM (gN rfl) rfl rfl rfl rfl rfl) rfl ?_)
    (refine nx (a_sub (gN rfl) rfl rfl rfl rfl rfl rfl (by first | omega | (simp only [List.length_map, List.length_append, List.length_cons, List.length_nil] <;> omega) | (simp <;> omega))) rfl ?_)
    (refine nx (a_buildP (gN rfl) rfl rfl rfl rfl rfl rfl rfl rfl rfl rfl rfl) rfl ?_)
    (refine nx (aSt (gN rfl) rfl rfl rfl rfl rfl rfl rfl rfl rfl rfl) rfl ?_)
    show AWp _ _ _ _ _ _ _
    exact aT ⟨.inr rfl, _, Wk.refl _, rfl, rfl, rfl, rfl, rfl, rfl, rfl, rfl, rfl, rfl, rfl, rfl, rfl, trivial⟩
end Go.Proofs.YtglbohajmccehaaDoor

-- @STR@
namespace Go.Proofs.YtglbohajmccehaaDoor
open Go.RowKit
set_option linter.unusedVariables false
set_option linter.unusedSimpArgs false
set_option maxRecDepth 100000

def smD (g : Sg) (s : By) (n : Nat) (pred : Bool) : Nat × Sg := if fndB g.nm s < 0 then (g.nm.length, ⟨g.nm ++ [s], g.ar ++ [n], g.pr ++ [pred]⟩) else ((fndB g.nm s).toNat, g)
structure Pos (L : List By) (I n : Nat) (pos : Nat → Nat) : Prop where
  zero : pos 0 = I + 1
  first : ∃ y, L[I + 1]? = some y ∧ (y = [40] ↔ 0 < n) ∧ (0 < n → y ≠ [41])
  skip : ∀ j, j < n → ∃ fu m, skI L fu 1 (pos j + 1) none = some (some (pos (j + 1), m))
  sep : ∀ j, 0 < j → j ≤ n → ∃ y, L[pos j]? = some y ∧ (y = [41] ↔ j = n)
-- 
set_option maxHeartbeats 8000000 in
theorem termS_abs (L : List By) (hL : L.length ≤ 1000000) (I n : Nat) (pos : Nat → Nat) (hpos : Pos L I n pos) (bad pred : Bool) (g : Sg) (vs : List By) (b : UInt8) (t : By) (hx : L[I]? = some (b :: t)) (hb : grB b = false) (hg1 : g.ar.length = g.nm.length) (hg2 : g.pr.length = g.nm.length) (hg3 : g.nm.length ≤ 100000) (hn : n ≤ 100000)
    (k : Nat) (g1 : Sg) (hk : smD g (b :: t) n pred = (k, g1)) (ak : Nat) (pk0 : Bool) (ha : g1.ar[k]? = some ak) (hp : g1.pr[k]? = some pk0)
    (tms : List Tm) (htl : tms.length = n) (B : Nat → Bool) (G : Nat → Sg) (V : Nat → List By) (hB : B 0 = (bad || ((!decide (ak = n) || (pk0 != pred)) || decide (200 < k)))) (hG : G 0 = g1) (hV : V 0 = vs)
    (hparts : ∀ j (u : Tm), tms[j]? = some u → AFunO Tryd.prog 29 (rdS L (pos j + 1) (B j) (G j) (V j)) [.bp 350001 0 [], .val (.b false)] (.val u.cw) (rdS L (pos (j + 1)) (B (j + 1)) (G (j + 1)) (V (j + 1)))) :
    AFunO Tryd.prog 29 (rdS L I bad g vs) [.bp 350001 0 [], .val (.b pred)] (.val (.row [.i (k : Int), .lst (tms.map Tm.cv)])) (rdS L (if 0 < n then pos n + 1 else I + 1) (B n) (G n) (V n)) := by
  have hx' := sv_at hx
  have hsv := svs_size L
  have h0 : (b :: t)[0]? = some b := rfl
  have hIl : I < L.length := (List.getElem?_eq_some_iff.1 hx).1
  have fo := findO_abs g.nm (b :: t) (by omega)
  obtain ⟨f1, f2⟩ := fndB_lt g.nm (b :: t)
  obtain ⟨K, hK⟩ : ∃ K, K = fndB g.nm (b :: t) := ⟨_, rfl⟩
  unfold smD at hk
  rw [← hK] at f1 f2 fo hk
  obtain ⟨nm, hnm⟩ : ∃ nm, nm = b :: t := ⟨_, rfl⟩
  rw [← hnm] at hx' h0 fo hk
  obtain ⟨y0, hy0, hy40, hy41⟩ := hpos.first
  have hy0' := sv_at hy0
  refine afunO_of Tryd.func29 Tryd.ntmps29 rfl rfl rfl rfl rfl rfl ?_
  intro w U hU
  have hUf : U.f 400000 = none := by
    cases hh : U.f 400000 with
    | none => rfl
    | some x => have := hU _ _ hh; cases this
  have hUb : U.f 300001 = none := by
    cases hh : U.f 300001 with
    | none => rfl
    | some x => have := (U.hf _ _ hh).1; omega
  have i3 := in12_abs w b hiB (by decide)
  rw [mem_hi, hb] at i3
  refine aS (aR ?_)
  (refine nx (a_alloc (gN rfl) rfl rfl rfl rfl rfl rfl rfl rfl rfl rfl) (by kernel_rfl) ?_)
  show AWp _ _ _ _ _ _ _
  refine aS (aD (by kernel_rfl) (by kernel_rfl) ?_)
  (refine nx (aM (gN rfl) rfl rfl rfl rfl rfl) rfl ?_)
  (refine nx (aNc (gN rfl) rfl rfl rfl rfl rfl) rfl ?_)
  (refine nx (aF (gN rfl) rfl rfl rfl rfl rfl rfl rfl rfl rfl) rfl ?_)
  (refine nx (aLf (gN rfl) rfl rfl rfl rfl rfl rfl rfl rfl rfl rfl rfl rfl rfl) rfl ?_)
  (refine nx (aM (gN rfl) rfl rfl rfl rfl rfl) rfl ?_)
  (refine nx (aNc (gN rfl) rfl rfl rfl rfl rfl) rfl ?_)
  (refine nx (aF (gN rfl) rfl rfl rfl rfl rfl rfl rfl rfl rfl) rfl ?_)
  (refine nx (aLf (gN rfl) rfl rfl rfl rfl rfl rfl rfl rfl rfl rfl rfl rfl rfl) rfl ?_)
  (refine nx (a_index (j := I) (gN rfl) rfl rfl rfl rfl rfl rfl rfl rfl rfl (hx') rfl (hsv)) rfl ?_)
  (refine nx (a_load_ad (gN rfl) rfl rfl rfl rfl rfl rfl rfl rfl rfl) rfl ?_)
  (refine nx (aA (gN rfl) rfl rfl rfl rfl rfl) rfl ?_)
  refine ⟨by kernel_rfl, ?_⟩
  show AWp _ _ _ _ _ _ _
  refine aS (aR ?_)
  (refine nx (aM (gN rfl) rfl rfl rfl rfl rfl) rfl ?_)
  (refine nx (aNc (gN rfl) rfl rfl rfl rfl rfl) rfl ?_)
  (refine nx (aF (gN rfl) rfl rfl rfl rfl rfl rfl rfl rfl rfl) rfl ?_)
  (refine nx (aLf (gN rfl) rfl rfl rfl rfl rfl rfl rfl rfl rfl rfl rfl rfl rfl) rfl ?_)
  (refine nx (a_add (gN rfl) rfl rfl rfl rfl rfl rfl (by first | omega | (simp only [List.length_map, List.length_append, List.length_cons, List.length_nil] <;> omega) | (simp <;> omega))) rfl ?_)
  (refine nx (aNc (gN rfl) rfl rfl rfl rfl rfl) rfl ?_)
  (refine nx (aF (gN rfl) rfl rfl rfl rfl rfl rfl rfl rfl rfl) rfl ?_)
  (refine nx (a_store_fld (gN rfl) rfl rfl rfl rfl rfl rfl rfl rfl rfl rfl rfl rfl) rfl ?_)
  show AWp _ _ _ _ _ _ _
  refine aS (aS (aR ?_))
  (refine nx (aM (gN rfl) rfl rfl rfl rfl rfl) rfl ?_)
  (refine nx (a_sidx (0) (gN rfl) rfl rfl rfl rfl rfl rfl rfl (by first | rfl | omega | (simp only [List.length_set, List.length_map, List.length_append, List.length_cons, List.length_nil] <;> omega) | (simp <;> omega)) (h0)) rfl ?_)
  (refine nx (a_call (gN rfl) rfl rfl rfl rfl rfl (i3)) rfl ?_)
  show AWp _ _ _ _ _ _ _
  refine aC rfl (fun h => by cases h) (fun _ => aK ?_)
  show AWp _ _ _ _ _ _ _
  refine aS (aR ?_)
  (refine nx (aA (gN rfl) rfl rfl rfl rfl rfl) rfl ?_)
  show AWp _ _ _ _ _ _ _
  refine AWp.wk (wk_sub (s' := (0, .bp 350001 0 []) :: (1, .val (.b pred)) :: (4, .bp 4 0 []) :: (100004, ⟨5, .row [.i 0, .lst []], 1, 0, [1]⟩) :: (5, .val (sv nm)) :: (7, .val (.i 0)) :: rdS L (I + 1) bad g vs) ⟨rfl, rfl, rfl, rfl, rfl, rfl, rfl, rfl, rfl, rfl, rfl, rfl, rfl, rfl, rfl, rfl, rfl, rfl, trivial⟩) ?_
  refine awp_mid ((0, .bp 350001 0 []) :: (1, .val (.b pred)) :: (4, .bp 4 0 []) :: (100004, ⟨5, .row [.i 0, .lst []], 1, 0, [1]⟩) :: (5, .val (sv nm)) :: (7, .val (.i (n : Int))) :: rdS L (I + 1) bad g vs) ?_ ?_
  · by_cases hn0 : 0 < n
    · have gy : decide (y0 = [40]) = true := decide_eq_true (hy40.2 hn0)
      refine aS (aD (by kernel_rfl) (by kernel_rfl) ?_)
      (refine nx (aM (gN rfl) rfl rfl rfl rfl rfl) rfl ?_)
      (refine nx (aNc (gN rfl) rfl rfl rfl rfl rfl) rfl ?_)
      (refine nx (aF (gN rfl) rfl rfl rfl rfl rfl rfl rfl rfl rfl) rfl ?_)
      (refine nx (aLf (gN rfl) rfl rfl rfl rfl rfl rfl rfl rfl rfl rfl rfl rfl rfl) rfl ?_)
      (refine nx (aM (gN rfl) rfl rfl rfl rfl rfl) rfl ?_)
      (refine nx (aNc (gN rfl) rfl rfl rfl rfl rfl) rfl ?_)
      (refine nx (aF (gN rfl) rfl rfl rfl rfl rfl rfl rfl rfl rfl) rfl ?_)
      (refine nx (aLf (gN rfl) rfl rfl rfl rfl rfl rfl rfl rfl rfl rfl rfl rfl rfl) rfl ?_)
      (refine nx (a_index (j := I + 1) (gN rfl) rfl rfl rfl rfl rfl rfl rfl rfl rfl (hy0') rfl (hsv)) rfl ?_)
      (refine nx (a_load_ad (gN rfl) rfl rfl rfl rfl rfl rfl rfl rfl rfl) rfl ?_)
      (refine nx (a_seql (gN rfl) rfl rfl rfl rfl rfl rfl rfl) rfl ?_)
      refine ⟨by kernel_rfl, ?_⟩
      show AWp _ _ _ _ _ _ _
      refine aC rfl (fun _ => ?_) (fun h => by have h : decide (y0 = [40]) = false := h; rw [gy] at h; cases h)
      refine aS (aR ?_)
      (refine nx (aM (gN rfl) rfl rfl rfl rfl rfl) rfl ?_)
      (refine nx (aNc (gN rfl) rfl rfl rfl rfl rfl) rfl ?_)
      (refine nx (aF (gN rfl) rfl rfl rfl rfl rfl rfl rfl rfl rfl) rfl ?_)
      (refine nx (aLf (gN rfl) rfl rfl rfl rfl rfl rfl rfl rfl rfl rfl rfl rfl rfl) rfl ?_)
      (refine nx (aA (gN rfl) rfl rfl rfl rfl rfl) rfl ?_)
      show AWp _ _ _ _ _ _ _
      refine aB (awp_count n (fun j => (0, .bp 350001 0 []) :: (1, .val (.b pred)) :: (4, .bp 4 0 []) :: (100004, ⟨5, .row [.i 0, .lst []], 1, 0, [1]⟩) :: (5, .val (sv nm)) :: (7, .val (.i (j : Int))) :: (8, .val (.i (pos j : Int))) :: rdS L (I + 1) bad g vs) (wk_sub ⟨rfl, rfl, rfl, rfl, rfl, rfl, by rw [hpos.zero]; rfl, rfl, rfl, rfl, rfl, rfl, rfl, rfl, rfl, rfl, rfl, rfl, rfl, trivial⟩) ?_)
      intro j hj
      by_cases hj0 : j = 0
      · subst hj0
        obtain ⟨fu, m, hsk⟩ := hpos.skip 0 hn0
        have hc : AFunO Tryd.prog 28 (rdS L (I + 1) bad g vs) [.bp 350001 0 [], .val (.i ((pos 0 + 1 : Nat) : Int)), .val (.i ((1 : Nat) : Int))] (.tup [.i (pos 1 : Int), .i (m : Int)]) (rdS L (I + 1) bad g vs) := skip12_abs L hL (I + 1) bad g vs fu 1 (pos 0 + 1) (some (pos 1, m)) (by decide) hsk
        have hz : L[pos 0]? = some y0 := by rw [hpos.zero]; exact hy0
        have hz' := sv_at hz
        have hzl : pos 0 < L.length := (List.getElem?_eq_some_iff.1 hz).1
        have gz : (!decide (y0 = [41])) = true := by rw [decide_eq_false (hy41 hn0)]; rfl
        refine aS (aS (aR ?_))
        (refine nx (aM (gN rfl) rfl rfl rfl rfl rfl) rfl ?_)
        (refine nx (aNc (gN rfl) rfl rfl rfl rfl rfl) rfl ?_)
        (refine nx (aF (gN rfl) rfl rfl rfl rfl rfl rfl rfl rfl rfl) rfl ?_)
        (refine nx (aLf (gN rfl) rfl rfl rfl rfl rfl rfl rfl rfl rfl rfl rfl rfl rfl) rfl ?_)
        (refine nx (aM (gN rfl) rfl rfl rfl rfl rfl) rfl ?_)
        (refine nx (a_index (j := pos 0) (gN rfl) rfl rfl rfl rfl rfl rfl rfl rfl rfl (hz') rfl (hsv)) rfl ?_)
        (refine nx (a_load_ad (gN rfl) rfl rfl rfl rfl rfl rfl rfl rfl rfl) rfl ?_)
        (refine nx (a_sneq (gN rfl) rfl rfl rfl rfl rfl rfl rfl) rfl ?_)
        (refine nx (aM (gN rfl) rfl rfl rfl rfl rfl) rfl ?_)
        (refine ⟨_, _, _, a_off (go_off rfl rfl rfl rfl (by first | rfl | assumption | (simp; done) | (simp [*]; done))) rfl rfl rfl, rfl, ?_⟩)
        (refine ⟨_, _, _, a_off (go_off rfl rfl rfl rfl (by first | rfl | assumption | (simp; done) | (simp [*]; done))) rfl rfl rfl, rfl, ?_⟩)
        (refine ⟨_, _, _, aPt (gN rfl) rfl rfl rfl rfl rfl ?hb rfl, rfl, ?_⟩; case hb => (first | rfl | assumption | (simp; done)))
        show AWp _ _ _ _ _ _ _
        refine aC rfl (fun _ => aK ?_) (fun h => by cases h)
        show AWp _ _ _ _ _ _ _
        refine aB (aS (aR ?_))
        (refine nx (aM (gN rfl) rfl rfl rfl rfl rfl) rfl ?_)
        (refine nx (aM (gN rfl) rfl rfl rfl rfl rfl) rfl ?_)
        (refine nx (a_add (gN rfl) rfl rfl rfl rfl rfl rfl (by first | omega | (simp only [List.length_map, List.length_append, List.length_cons, List.length_nil] <;> omega) | (simp <;> omega))) rfl ?_)
        (refine nx (a_callO (gN rfl) rfl rfl rfl rfl rfl (hc) (by repeat (first | exact trivial | refine ⟨rfl, ?_⟩)) (by first | rfl | kernel_rfl) (by first | rfl | kernel_rfl) (by first | rfl | kernel_rfl) (by first | rfl | kernel_rfl) (hnb_of (by first | rfl | kernel_rfl))) rfl ?_)
        (refine nx (aM (gN rfl) rfl rfl rfl rfl rfl) rfl ?_)
        (refine nx (aX (gN rfl) rfl rfl rfl rfl rfl rfl) rfl ?_)
        (refine nx (aX (gN rfl) rfl rfl rfl rfl rfl rfl) rfl ?_)
        (refine nx (aA (gN rfl) rfl rfl rfl rfl rfl) rfl ?_)
        (refine nx (aA (gN rfl) rfl rfl rfl rfl rfl) rfl ?_)
        show AWp _ _ _ _ _ _ _
        refine aS (aR ?_)
        (refine nx (aM (gN rfl) rfl rfl rfl rfl rfl) rfl ?_)
        (refine nx (a_add (gN rfl) rfl rfl rfl rfl rfl rfl (by first | omega | (simp only [List.length_map, List.length_append, List.length_cons, List.length_nil] <;> omega) | (simp <;> omega))) rfl ?_)
        (refine nx (aA (gN rfl) rfl rfl rfl rfl rfl) rfl ?_)
        show AWp _ _ _ _ _ _ _
        refine aR ?_
        (refine nx (aM (gN rfl) rfl rfl rfl rfl rfl) rfl ?_)
        (refine nx (aA (gN rfl) rfl rfl rfl rfl rfl) rfl ?_)
        exact ⟨hn0, wk_sub ⟨rfl, rfl, rfl, rfl, rfl, rfl, rfl, rfl, rfl, rfl, rfl, rfl, rfl, rfl, rfl, rfl, rfl, rfl, rfl, trivial⟩⟩
      obtain ⟨y, hy, hye⟩ := hpos.sep j (by omega) hj
      have hy' := sv_at hy
      have hyl : pos j < L.length := (List.getElem?_eq_some_iff.1 hy).1
      by_cases hjn : j = n
      · have gz : (!decide (y = [41])) = false := by rw [decide_eq_true (hye.2 hjn)]; rfl
        have gj : decide ((j : Int) = 0) = false := by rw [decide_eq_false_iff_not]; omega
        refine aS (aS (aR ?_))
        (refine nx (aM (gN rfl) rfl rfl rfl rfl rfl) rfl ?_)
        (refine nx (aNc (gN rfl) rfl rfl rfl rfl rfl) rfl ?_)
        (refine nx (aF (gN rfl) rfl rfl rfl rfl rfl rfl rfl rfl rfl) rfl ?_)
        (refine nx (aLf (gN rfl) rfl rfl rfl rfl rfl rfl rfl rfl rfl rfl rfl rfl rfl) rfl ?_)
        (refine nx (aM (gN rfl) rfl rfl rfl rfl rfl) rfl ?_)
        (refine nx (a_index (j := pos j) (gN rfl) rfl rfl rfl rfl rfl rfl rfl rfl rfl (hy') rfl (hsv)) rfl ?_)
        (refine nx (a_load_ad (gN rfl) rfl rfl rfl rfl rfl rfl rfl rfl rfl) rfl ?_)
        (refine nx (a_sneq (gN rfl) rfl rfl rfl rfl rfl rfl rfl) rfl ?_)
        (refine nx (aM (gN rfl) rfl rfl rfl rfl rfl) rfl ?_)
        (refine nx (aM (gd_on rfl rfl rfl rfl (by first | rfl | assumption | (simp; done))) rfl rfl rfl rfl rfl) rfl ?_)
        (refine nx (a_eql (gd_on rfl rfl rfl rfl (by first | rfl | assumption | (simp; done))) rfl rfl rfl rfl rfl rfl) rfl ?_)
        (refine ⟨_, _, _, aPf (gN rfl) rfl rfl rfl rfl rfl ?hb rfl, rfl, ?_⟩; case hb => (first | rfl | assumption | (simp; done)))
        show AWp _ _ _ _ _ _ _
        refine aC rfl (fun h => by have h : decide ((j : Int) = 0) = true := h; rw [gj] at h; cases h) (fun _ => aE ?_)
        exact wk_sub ⟨rfl, rfl, rfl, rfl, rfl, by rw [← hjn]; rfl, rfl, rfl, rfl, rfl, rfl, rfl, rfl, rfl, rfl, rfl, rfl, rfl, trivial⟩
      · obtain ⟨fu, m, hsk⟩ := hpos.skip j (by omega)
        have hc : AFunO Tryd.prog 28 (rdS L (I + 1) bad g vs) [.bp 350001 0 [], .val (.i ((pos j + 1 : Nat) : Int)), .val (.i ((1 : Nat) : Int))] (.tup [.i (pos (j + 1) : Int), .i (m : Int)]) (rdS L (I + 1) bad g vs) := skip12_abs L hL (I + 1) bad g vs fu 1 (pos j + 1) (some (pos (j + 1), m)) (by decide) hsk
        have gz : (!decide (y = [41])) = true := by rw [decide_eq_false (fun e => hjn (hye.1 e))]; rfl
        refine aS (aS (aR ?_))
        (refine nx (aM (gN rfl) rfl rfl rfl rfl rfl) rfl ?_)
        (refine nx (aNc (gN rfl) rfl rfl rfl rfl rfl) rfl ?_)
        (refine nx (aF (gN rfl) rfl rfl rfl rfl rfl rfl rfl rfl rfl) rfl ?_)
        (refine nx (aLf (gN rfl) rfl rfl rfl rfl rfl rfl rfl rfl rfl rfl rfl rfl rfl) rfl ?_)
        (refine nx (aM (gN rfl) rfl rfl rfl rfl rfl) rfl ?_)
        (refine nx (a_index (j := pos j) (gN rfl) rfl rfl rfl rfl rfl rfl rfl rfl rfl (hy') rfl (hsv)) rfl ?_)
        (refine nx (a_load_ad (gN rfl) rfl rfl rfl rfl rfl rfl rfl rfl rfl) rfl ?_)
        (refine nx (a_sneq (gN rfl) rfl rfl rfl rfl rfl rfl rfl) rfl ?_)
        (refine nx (aM (gN rfl) rfl rfl rfl rfl rfl) rfl ?_)
        (refine ⟨_, _, _, a_off (go_off rfl rfl rfl rfl (by first | rfl | assumption | (simp; done) | (simp [*]; done))) rfl rfl rfl, rfl, ?_⟩)
        (refine ⟨_, _, _, a_off (go_off rfl rfl rfl rfl (by first | rfl | assumption | (simp; done) | (simp [*]; done))) rfl rfl rfl, rfl, ?_⟩)
        (refine ⟨_, _, _, aPt (gN rfl) rfl rfl rfl rfl rfl ?hb rfl, rfl, ?_⟩; case hb => (first | rfl | assumption | (simp; done)))
        show AWp _ _ _ _ _ _ _
        refine aC rfl (fun _ => aK ?_) (fun h => by cases h)
        show AWp _ _ _ _ _ _ _
        refine aB (aS (aR ?_))
        (refine nx (aM (gN rfl) rfl rfl rfl rfl rfl) rfl ?_)
        (refine nx (aM (gN rfl) rfl rfl rfl rfl rfl) rfl ?_)
        (refine nx (a_add (gN rfl) rfl rfl rfl rfl rfl rfl (by first | omega | (simp only [List.length_map, List.length_append, List.length_cons, List.length_nil] <;> omega) | (simp <;> omega))) rfl ?_)
        (refine nx (a_callO (gN rfl) rfl rfl rfl rfl rfl (hc) (by repeat (first | exact trivial | refine ⟨rfl, ?_⟩)) (by first | rfl | kernel_rfl) (by first | rfl | kernel_rfl) (by first | rfl | kernel_rfl) (by first | rfl | kernel_rfl) (hnb_of (by first | rfl | kernel_rfl))) rfl ?_)
        (refine nx (aM (gN rfl) rfl rfl rfl rfl rfl) rfl ?_)
        (refine nx (aX (gN rfl) rfl rfl rfl rfl rfl rfl) rfl ?_)
        (refine nx (aX (gN rfl) rfl rfl rfl rfl rfl rfl) rfl ?_)
        (refine nx (aA (gN rfl) rfl rfl rfl rfl rfl) rfl ?_)
        (refine nx (aA (gN rfl) rfl rfl rfl rfl rfl) rfl ?_)
        show AWp _ _ _ _ _ _ _
        refine aS (aR ?_)
        (refine nx (aM (gN rfl) rfl rfl rfl rfl rfl) rfl ?_)
        (refine nx (a_add (gN rfl) rfl rfl rfl rfl rfl rfl (by first | omega | (simp only [List.length_map, List.length_append, List.length_cons, List.length_nil] <;> omega) | (simp <;> omega))) rfl ?_)
        (refine nx (aA (gN rfl) rfl rfl rfl rfl rfl) rfl ?_)
        show AWp _ _ _ _ _ _ _
        refine aR ?_
        (refine nx (aM (gN rfl) rfl rfl rfl rfl rfl) rfl ?_)
        (refine nx (aA (gN rfl) rfl rfl rfl rfl rfl) rfl ?_)
        exact ⟨by omega, wk_sub ⟨rfl, rfl, rfl, rfl, rfl, rfl, rfl, rfl, rfl, rfl, rfl, rfl, rfl, rfl, rfl, rfl, rfl, rfl, rfl, trivial⟩⟩
    · have gy : decide (y0 = [40]) = false := decide_eq_false (fun e => hn0 (hy40.1 e))
      obtain rfl : n = 0 := by omega
      refine aS (aD (by kernel_rfl) (by kernel_rfl) ?_)
      (refine nx (aM (gN rfl) rfl rfl rfl rfl rfl) rfl ?_)
      (refine nx (aNc (gN rfl) rfl rfl rfl rfl rfl) rfl ?_)
      (refine nx (aF (gN rfl) rfl rfl rfl rfl rfl rfl rfl rfl rfl) rfl ?_)
      (refine nx (aLf (gN rfl) rfl rfl rfl rfl rfl rfl rfl rfl rfl rfl rfl rfl rfl) rfl ?_)
      (refine nx (aM (gN rfl) rfl rfl rfl rfl rfl) rfl ?_)
      (refine nx (aNc (gN rfl) rfl rfl rfl rfl rfl) rfl ?_)
      (refine nx (aF (gN rfl) rfl rfl rfl rfl rfl rfl rfl rfl rfl) rfl ?_)
      (refine nx (aLf (gN rfl) rfl rfl rfl rfl rfl rfl rfl rfl rfl rfl rfl rfl rfl) rfl ?_)
      (refine nx (a_index (j := I + 1) (gN rfl) rfl rfl rfl rfl rfl rfl rfl rfl rfl (hy0') rfl (hsv)) rfl ?_)
      (refine nx (a_load_ad (gN rfl) rfl rfl rfl rfl rfl rfl rfl rfl rfl) rfl ?_)
      (refine nx (a_seql (gN rfl) rfl rfl rfl rfl rfl rfl rfl) rfl ?_)
      refine ⟨by kernel_rfl, ?_⟩
      show AWp _ _ _ _ _ _ _
      refine aC rfl (fun h => by have h : decide (y0 = [40]) = true := h; rw [gy] at h; cases h) (fun _ => aK ?_)
      exact wk_sub ⟨rfl, rfl, rfl, rfl, rfl, rfl, rfl, rfl, rfl, rfl, rfl, rfl, rfl, rfl, rfl, rfl, rfl, rfl, trivial⟩
  refine AWp.wk (wk_renF 300001 400000 rfl rfl hUf (by kernel_rfl) (by kernel_rfl) (by kernel_rfl)) ?_
  refine aS (aR ?_)
  (refine nx (aM (gN rfl) rfl rfl rfl rfl rfl) rfl ?_)
  (refine nx (aNc (gN rfl) rfl rfl rfl rfl rfl) rfl ?_)
  (refine nx (aF (gN rfl) rfl rfl rfl rfl rfl rfl rfl rfl rfl) rfl ?_)
  (refine nx (aF (gN rfl) rfl rfl rfl rfl rfl rfl rfl rfl rfl) rfl ?_)
  (refine nx (aLf (gN rfl) rfl rfl rfl rfl rfl rfl rfl rfl rfl rfl rfl rfl rfl) rfl ?_)
  (refine nx (aM (gN rfl) rfl rfl rfl rfl rfl) rfl ?_)
  (refine nx (a_callO (gN rfl) rfl rfl rfl rfl rfl (fo) (by repeat (first | exact trivial | refine ⟨rfl, ?_⟩)) (by first | rfl | kernel_rfl) (by first | rfl | kernel_rfl) (by first | rfl | kernel_rfl) (by first | rfl | kernel_rfl) (hnb_of (by first | rfl | kernel_rfl))) rfl ?_)
  (refine nx (aA (gN rfl) rfl rfl rfl rfl rfl) rfl ?_)
  show AWp _ _ _ _ _ _ _
  refine AWp.wk ((wk_sub (s' := [(0, .bp 350001 0 []), (1, .val (.b pred)), (4, .bp 4 0 []), (100004, ⟨5, .row [.i 0, .lst []], 1, 0, [1]⟩), (5, .val (sv nm)), (7, .val (.i (n : Int))), (11, .val (.i K)), (450001, .obj), (35500100, .val (.lst (L.map sv))), (35500101, .val (.i ((I + 1 : Nat) : Int))), (35500102, .val (.b (bad))), (35500103, .sl 400000 0 (g).nm.length 1), (35500104, .sl 300002 0 (g).ar.length 1), (35500105, .sl 300003 0 (g).pr.length 1), (35500106, .sl 300004 0 (vs).length 1), (400000, .mrow 9 1 ((g).nm.map sv)), (300002, .mrow 3 1 ((g).ar.map iv)), (300003, .mrow 4 1 ((g).pr.map bv)), (300004, .mrow 9 1 ((vs).map sv))]) ⟨rfl, rfl, rfl, rfl, rfl, rfl, rfl, rfl, rfl, rfl, rfl, rfl, rfl, rfl, rfl, rfl, rfl, rfl, rfl, trivial⟩).trans (wk_renF 400000 300001 rfl rfl hUb (by kernel_rfl) (by kernel_rfl) (by kernel_rfl))) ?_
  have z1 := svs_size g.nm
  have z2 := ivs_size g.ar
  have z3 := bvs_size g.pr
  have m1 : (g.nm.map sv).length = g.nm.length := List.length_map ..
  have m2 : (g.ar.map iv).length = g.ar.length := List.length_map ..
  have m3 : (g.pr.map bv).length = g.pr.length := List.length_map ..
  refine awp_mid ((0, .bp 350001 0 []) :: (1, .val (.b pred)) :: (4, .bp 4 0 []) :: (100004, ⟨5, .row [.i 0, .lst []], 1, 0, [1]⟩) :: (7, .val (.i (n : Int))) :: (11, .val (.i (k : Int))) :: rdS L (I + 1) bad g1 vs) ?_ ?_
  · by_cases hK0 : K < 0
    · rw [if_pos hK0, Prod.mk.injEq] at hk
      obtain ⟨hk1, hk2⟩ := hk
      refine aS (aR ?_)
      (refine nx (aM (gN rfl) rfl rfl rfl rfl rfl) rfl ?_)
      (refine nx (a_lss (gN rfl) rfl rfl rfl rfl rfl rfl) rfl ?_)
      show AWp _ _ _ _ _ _ _
      refine aC rfl (fun _ => ?_) (fun h => by have h : decide (K < 0) = false := h; have := of_decide_eq_false h; omega)
      refine aS (aR ?_)
      (refine nx (aM (gN rfl) rfl rfl rfl rfl rfl) rfl ?_)
      (refine nx (aNc (gN rfl) rfl rfl rfl rfl rfl) rfl ?_)
      (refine nx (aF (gN rfl) rfl rfl rfl rfl rfl rfl rfl rfl rfl) rfl ?_)
      (refine nx (aF (gN rfl) rfl rfl rfl rfl rfl rfl rfl rfl rfl) rfl ?_)
      (refine nx (aLf (gN rfl) rfl rfl rfl rfl rfl rfl rfl rfl rfl rfl rfl rfl rfl) rfl ?_)
      (refine nx (a_lenM (gN rfl) rfl rfl rfl rfl rfl rfl rfl) rfl ?_)
      (refine nx (aA (gN rfl) rfl rfl rfl rfl rfl) rfl ?_)
      show AWp _ _ _ _ _ _ _
      refine aS (aR ?_)
      (refine nx (aM (gN rfl) rfl rfl rfl rfl rfl) rfl ?_)
      (refine nx (aM (gN rfl) rfl rfl rfl rfl rfl) rfl ?_)
      (refine nx (aNc (gN rfl) rfl rfl rfl rfl rfl) rfl ?_)
      (refine nx (aF (gN rfl) rfl rfl rfl rfl rfl rfl rfl rfl rfl) rfl ?_)
      (refine nx (aF (gN rfl) rfl rfl rfl rfl rfl rfl rfl rfl rfl) rfl ?_)
      (refine nx (aLf (gN rfl) rfl rfl rfl rfl rfl rfl rfl rfl rfl rfl rfl rfl rfl) rfl ?_)
      (refine nx (aM (gN rfl) rfl rfl rfl rfl rfl) rfl ?_)
      (refine nx (a_bslice (gN rfl) rfl rfl rfl rfl rfl rfl rfl rfl rfl rfl rfl rfl rfl) rfl ?_)
      (refine nx (a_appM 300130 (gN rfl) rfl rfl rfl rfl rfl rfl rfl rfl rfl rfl rfl rfl rfl (by first | rfl | omega | (simp only [List.length_set, List.length_map, List.length_append, List.length_cons, List.length_nil] <;> omega) | (simp <;> omega)) (by first | assumption | exact sZ rfl | exact Tm.size_all _ | exact Bd.size_all _ | exact ints_size _ | exact bys_size _ | exact Lt.size_all _) (by first | omega | (simp only [List.length_map, List.length_append, List.length_cons, List.length_nil] <;> omega) | (simp <;> omega))) (by kernel_rfl) ?_)
      (refine nx (aNc (gN rfl) rfl rfl rfl rfl rfl) rfl ?_)
      (refine nx (aF (gN rfl) rfl rfl rfl rfl rfl rfl rfl rfl rfl) rfl ?_)
      (refine nx (aF (gN rfl) rfl rfl rfl rfl rfl rfl rfl rfl rfl) rfl ?_)
      (refine nx (a_store_fld (gN rfl) rfl rfl rfl rfl rfl rfl rfl rfl rfl rfl rfl rfl) rfl ?_)
      show AWp _ _ _ _ _ _ _
      refine AWp.wk ((wk_sub (s' := [(0, .bp 350001 0 []), (1, .val (.b pred)), (4, .bp 4 0 []), (100004, ⟨5, .row [.i 0, .lst []], 1, 0, [1]⟩), (5, .val (sv nm)), (7, .val (.i (n : Int))), (11, .val (.i (k : Int))), (450001, .obj), (35500100, .val (.lst (L.map sv))), (35500101, .val (.i ((I + 1 : Nat) : Int))), (35500102, .val (.b (bad))), (35500103, .sl 300130 0 (g.nm ++ [nm]).length 1), (35500104, .sl 300002 0 (g).ar.length 1), (35500105, .sl 300003 0 (g).pr.length 1), (35500106, .sl 300004 0 (vs).length 1), (300130, .mrow 9 1 ((g.nm ++ [nm]).map sv)), (300002, .mrow 3 1 ((g).ar.map iv)), (300003, .mrow 4 1 ((g).pr.map bv)), (300004, .mrow 9 1 ((vs).map sv))]) ⟨rfl, rfl, rfl, rfl, rfl, rfl, by rw [← hk1]; rfl, rfl, rfl, rfl, rfl, by rw [List.length_append, ← m1]; rfl, rfl, rfl, rfl, by rw [List.map_append]; rfl, rfl, rfl, rfl, trivial⟩).trans (wk_ren 300130 300001 rfl rfl (by kernel_rfl) (by kernel_rfl))) ?_
      refine aS (aR ?_)
      (refine nx (aM (gN rfl) rfl rfl rfl rfl rfl) rfl ?_)
      (refine nx (aM (gN rfl) rfl rfl rfl rfl rfl) rfl ?_)
      (refine nx (aNc (gN rfl) rfl rfl rfl rfl rfl) rfl ?_)
      (refine nx (aF (gN rfl) rfl rfl rfl rfl rfl rfl rfl rfl rfl) rfl ?_)
      (refine nx (aF (gN rfl) rfl rfl rfl rfl rfl rfl rfl rfl rfl) rfl ?_)
      (refine nx (aLf (gN rfl) rfl rfl rfl rfl rfl rfl rfl rfl rfl rfl rfl rfl rfl) rfl ?_)
      (refine nx (aM (gN rfl) rfl rfl rfl rfl rfl) rfl ?_)
      (refine nx (a_bslice (gN rfl) rfl rfl rfl rfl rfl rfl rfl rfl rfl rfl rfl rfl rfl) rfl ?_)
      (refine nx (a_appM 300142 (gN rfl) rfl rfl rfl rfl rfl rfl rfl rfl rfl rfl rfl rfl rfl (by first | rfl | omega | (simp only [List.length_set, List.length_map, List.length_append, List.length_cons, List.length_nil] <;> omega) | (simp <;> omega)) (by first | assumption | exact sZ rfl | exact Tm.size_all _ | exact Bd.size_all _ | exact ints_size _ | exact bys_size _ | exact Lt.size_all _) (by first | omega | (simp only [List.length_map, List.length_append, List.length_cons, List.length_nil] <;> omega) | (simp <;> omega))) (by kernel_rfl) ?_)
      (refine nx (aNc (gN rfl) rfl rfl rfl rfl rfl) rfl ?_)
      (refine nx (aF (gN rfl) rfl rfl rfl rfl rfl rfl rfl rfl rfl) rfl ?_)
      (refine nx (aF (gN rfl) rfl rfl rfl rfl rfl rfl rfl rfl rfl) rfl ?_)
      (refine nx (a_store_fld (gN rfl) rfl rfl rfl rfl rfl rfl rfl rfl rfl rfl rfl rfl) rfl ?_)
      show AWp _ _ _ _ _ _ _
      refine AWp.wk ((wk_sub (s' := [(0, .bp 350001 0 []), (1, .val (.b pred)), (4, .bp 4 0 []), (100004, ⟨5, .row [.i 0, .lst []], 1, 0, [1]⟩), (5, .val (sv nm)), (7, .val (.i (n : Int))), (11, .val (.i (k : Int))), (450001, .obj), (35500100, .val (.lst (L.map sv))), (35500101, .val (.i ((I + 1 : Nat) : Int))), (35500102, .val (.b (bad))), (35500103, .sl 300001 0 (g.nm ++ [nm]).length 1), (35500104, .sl 300142 0 (g.ar ++ [n]).length 1), (35500105, .sl 300003 0 (g).pr.length 1), (35500106, .sl 300004 0 (vs).length 1), (300001, .mrow 9 1 ((g.nm ++ [nm]).map sv)), (300142, .mrow 3 1 ((g.ar ++ [n]).map iv)), (300003, .mrow 4 1 ((g).pr.map bv)), (300004, .mrow 9 1 ((vs).map sv))]) ⟨rfl, rfl, rfl, rfl, rfl, rfl, rfl, rfl, rfl, rfl, rfl, rfl, by rw [@List.length_append _ g.ar [n], ← m2]; rfl, rfl, rfl, rfl, by rw [@List.map_append _ _ iv g.ar [n]]; rfl, rfl, rfl, trivial⟩).trans (wk_ren 300142 300002 rfl rfl (by kernel_rfl) (by kernel_rfl))) ?_
      refine aR ?_
      (refine nx (aM (gN rfl) rfl rfl rfl rfl rfl) rfl ?_)
      (refine nx (aM (gN rfl) rfl rfl rfl rfl rfl) rfl ?_)
      (refine nx (aNc (gN rfl) rfl rfl rfl rfl rfl) rfl ?_)
      (refine nx (aF (gN rfl) rfl rfl rfl rfl rfl rfl rfl rfl rfl) rfl ?_)
      (refine nx (aF (gN rfl) rfl rfl rfl rfl rfl rfl rfl rfl rfl) rfl ?_)
      (refine nx (aLf (gN rfl) rfl rfl rfl rfl rfl rfl rfl rfl rfl rfl rfl rfl rfl) rfl ?_)
      (refine nx (aM (gN rfl) rfl rfl rfl rfl rfl) rfl ?_)
      (refine nx (a_bslice (gN rfl) rfl rfl rfl rfl rfl rfl rfl rfl rfl rfl rfl rfl rfl) rfl ?_)
      (refine nx (a_appM 300154 (gN rfl) rfl rfl rfl rfl rfl rfl rfl rfl rfl rfl rfl rfl rfl (by first | rfl | omega | (simp only [List.length_set, List.length_map, List.length_append, List.length_cons, List.length_nil] <;> omega) | (simp <;> omega)) (by first | assumption | exact sZ rfl | exact Tm.size_all _ | exact Bd.size_all _ | exact ints_size _ | exact bys_size _ | exact Lt.size_all _) (by first | omega | (simp only [List.length_map, List.length_append, List.length_cons, List.length_nil] <;> omega) | (simp <;> omega))) (by kernel_rfl) ?_)
      (refine nx (aNc (gN rfl) rfl rfl rfl rfl rfl) rfl ?_)
      (refine nx (aF (gN rfl) rfl rfl rfl rfl rfl rfl rfl rfl rfl) rfl ?_)
      (refine nx (aF (gN rfl) rfl rfl rfl rfl rfl rfl rfl rfl rfl) rfl ?_)
      (refine nx (a_store_fld (gN rfl) rfl rfl rfl rfl rfl rfl rfl rfl rfl rfl rfl rfl) rfl ?_)
      rw [← hk2]
      exact (wk_sub (s' := [(0, .bp 350001 0 []), (1, .val (.b pred)), (4, .bp 4 0 []), (100004, ⟨5, .row [.i 0, .lst []], 1, 0, [1]⟩), (5, .val (sv nm)), (7, .val (.i (n : Int))), (11, .val (.i (k : Int))), (450001, .obj), (35500100, .val (.lst (L.map sv))), (35500101, .val (.i ((I + 1 : Nat) : Int))), (35500102, .val (.b (bad))), (35500103, .sl 300001 0 (g.nm ++ [nm]).length 1), (35500104, .sl 300002 0 (g.ar ++ [n]).length 1), (35500105, .sl 300154 0 (g.pr ++ [pred]).length 1), (35500106, .sl 300004 0 (vs).length 1), (300001, .mrow 9 1 ((g.nm ++ [nm]).map sv)), (300002, .mrow 3 1 ((g.ar ++ [n]).map iv)), (300154, .mrow 4 1 ((g.pr ++ [pred]).map bv)), (300004, .mrow 9 1 ((vs).map sv))]) ⟨rfl, rfl, rfl, rfl, rfl, rfl, rfl, rfl, rfl, rfl, rfl, rfl, rfl, by rw [@List.length_append _ g.pr [pred], ← m3]; rfl, rfl, rfl, rfl, by rw [@List.map_append _ _ bv g.pr [pred]]; rfl, rfl, trivial⟩).trans ((wk_ren 300154 300003 rfl rfl (by kernel_rfl) (by kernel_rfl)).trans (wk_sub ⟨rfl, rfl, rfl, rfl, rfl, rfl, rfl, rfl, rfl, rfl, rfl, rfl, rfl, rfl, rfl, rfl, rfl, rfl, trivial⟩))
    · rw [if_neg hK0, Prod.mk.injEq] at hk
      obtain ⟨hk1, hk2⟩ := hk
      have hKk : K = (k : Int) := by omega
      refine aS (aR ?_)
      (refine nx (aM (gN rfl) rfl rfl rfl rfl rfl) rfl ?_)
      (refine nx (a_lss (gN rfl) rfl rfl rfl rfl rfl rfl) rfl ?_)
      show AWp _ _ _ _ _ _ _
      refine aC rfl (fun h => by have h : decide (K < 0) = true := h; have := of_decide_eq_true h; omega) (fun _ => aK ?_)
      rw [← hk2, ← hKk]
      exact wk_sub ⟨rfl, rfl, rfl, rfl, rfl, rfl, rfl, rfl, rfl, rfl, rfl, rfl, rfl, rfl, rfl, rfl, rfl, rfl, trivial⟩
  have ha' : (g1.ar.map iv)[k]? = some (iv ak) := by rw [List.getElem?_map, ha]; rfl
  have hp' : (g1.pr.map bv)[k]? = some (bv pk0) := by rw [List.getElem?_map, hp]; rfl
  have hakl : k < g1.ar.length := (List.getElem?_eq_some_iff.1 ha).1
  have hpkl : k < g1.pr.length := (List.getElem?_eq_some_iff.1 hp).1
  refine awp_mid ((0, .bp 350001 0 []) :: (4, .bp 4 0 []) :: (100004, ⟨5, .row [.i 0, .lst []], 1, 0, [1]⟩) :: (7, .val (.i (n : Int))) :: (11, .val (.i (k : Int))) :: rdS L (I + 1) (B 0) g1 vs) ?_ ?_
  · by_cases h1 : ak = n
    · have g1' : decide ((ak : Int) ≠ (n : Int)) = false := by rw [decide_eq_false_iff_not]; omega
      cases h2 : (pk0 != pred) with
      | true =>
        have hB0 : B 0 = true := by rw [hB, h2]; simp
        refine aS (aR ?_)
        (refine nx (aM (gN rfl) rfl rfl rfl rfl rfl) rfl ?_)
        (refine nx (aNc (gN rfl) rfl rfl rfl rfl rfl) rfl ?_)
        (refine nx (aF (gN rfl) rfl rfl rfl rfl rfl rfl rfl rfl rfl) rfl ?_)
        (refine nx (aF (gN rfl) rfl rfl rfl rfl rfl rfl rfl rfl rfl) rfl ?_)
        (refine nx (aLf (gN rfl) rfl rfl rfl rfl rfl rfl rfl rfl rfl rfl rfl rfl rfl) rfl ?_)
        (refine nx (aM (gN rfl) rfl rfl rfl rfl rfl) rfl ?_)
        (refine nx (aIm (k := k) (gN rfl) rfl rfl rfl rfl rfl rfl rfl rfl rfl (by first | rfl | omega | (simp only [List.length_set, List.length_map, List.length_append, List.length_cons, List.length_nil] <;> omega) | (simp <;> omega))) rfl ?_)
        (refine nx (a_loadM (gN rfl) rfl rfl rfl rfl rfl rfl rfl rfl (ha') rfl (by first | rfl | omega | (simp only [List.length_set, List.length_map, List.length_append, List.length_cons, List.length_nil] <;> omega) | (simp <;> omega)) rfl rfl) rfl ?_)
        (refine nx (aM (gN rfl) rfl rfl rfl rfl rfl) rfl ?_)
        (refine nx (a_neq (gN rfl) rfl rfl rfl rfl rfl rfl) rfl ?_)
        (refine nx (aM (gN rfl) rfl rfl rfl rfl rfl) rfl ?_)
        (refine nx (aM (gd_on rfl rfl rfl rfl (by first | rfl | assumption | (simp; done))) rfl rfl rfl rfl rfl) rfl ?_)
        (refine nx (aNc (gd_on rfl rfl rfl rfl (by first | rfl | assumption | (simp; done))) rfl rfl rfl rfl rfl) rfl ?_)
        (refine nx (aF (gd_on rfl rfl rfl rfl (by first | rfl | assumption | (simp; done))) rfl rfl rfl rfl rfl rfl rfl rfl rfl) rfl ?_)
        (refine nx (aF (gd_on rfl rfl rfl rfl (by first | rfl | assumption | (simp; done))) rfl rfl rfl rfl rfl rfl rfl rfl rfl) rfl ?_)
        (refine nx (aLf (gd_on rfl rfl rfl rfl (by first | rfl | assumption | (simp; done))) rfl rfl rfl rfl rfl rfl rfl rfl rfl rfl rfl rfl rfl) rfl ?_)
        (refine nx (aM (gd_on rfl rfl rfl rfl (by first | rfl | assumption | (simp; done))) rfl rfl rfl rfl rfl) rfl ?_)
        (refine nx (aIm (k := k) (gd_on rfl rfl rfl rfl (by first | rfl | assumption | (simp; done))) rfl rfl rfl rfl rfl rfl rfl rfl rfl (by first | rfl | omega | (simp only [List.length_set, List.length_map, List.length_append, List.length_cons, List.length_nil] <;> omega) | (simp <;> omega))) rfl ?_)
        (refine nx (a_loadM (gd_on rfl rfl rfl rfl (by first | rfl | assumption | (simp; done))) rfl rfl rfl rfl rfl rfl rfl rfl (hp') rfl (by first | rfl | omega | (simp only [List.length_set, List.length_map, List.length_append, List.length_cons, List.length_nil] <;> omega) | (simp <;> omega)) rfl rfl) rfl ?_)
        (refine nx (aM (gd_on rfl rfl rfl rfl (by first | rfl | assumption | (simp; done))) rfl rfl rfl rfl rfl) rfl ?_)
        (refine nx (a_bne (gd_on rfl rfl rfl rfl (by first | rfl | assumption | (simp; done))) rfl rfl rfl rfl rfl rfl rfl) rfl ?_)
        (refine ⟨_, _, _, aPf (gN rfl) rfl rfl rfl rfl rfl ?hb rfl, rfl, ?_⟩; case hb => (first | rfl | assumption | (simp; done)))
        (refine nx (aM (gN rfl) rfl rfl rfl rfl rfl) rfl ?_)
        (refine ⟨_, _, _, a_off (go_off rfl rfl rfl rfl (by first | rfl | assumption | (simp; done) | (simp [*]; done))) rfl rfl rfl, rfl, ?_⟩)
        (refine ⟨_, _, _, a_off (go_off rfl rfl rfl rfl (by first | rfl | assumption | (simp; done) | (simp [*]; done))) rfl rfl rfl, rfl, ?_⟩)
        (refine ⟨_, _, _, aPt (gN rfl) rfl rfl rfl rfl rfl ?hb rfl, rfl, ?_⟩; case hb => (first | rfl | assumption | (simp; done)))
        show AWp _ _ _ _ _ _ _
        refine aC rfl (fun _ => ?_) (fun h => by cases h)
        refine aR ?_
        (refine nx (aM (gN rfl) rfl rfl rfl rfl rfl) rfl ?_)
        (refine nx (aNc (gN rfl) rfl rfl rfl rfl rfl) rfl ?_)
        (refine nx (aF (gN rfl) rfl rfl rfl rfl rfl rfl rfl rfl rfl) rfl ?_)
        (refine nx (a_store_fld (gN rfl) rfl rfl rfl rfl rfl rfl rfl rfl rfl rfl rfl rfl) rfl ?_)
        rw [hB0]
        exact wk_sub ⟨rfl, rfl, rfl, rfl, rfl, rfl, rfl, rfl, rfl, rfl, rfl, rfl, rfl, rfl, rfl, rfl, rfl, trivial⟩
      | false =>
        by_cases h3 : 200 < k
        · have g3 : decide ((k : Int) > 200) = true := by rw [decide_eq_true_eq]; omega
          have hB0 : B 0 = true := by rw [hB, decide_eq_true h3]; simp
          refine aS (aR ?_)
          (refine nx (aM (gN rfl) rfl rfl rfl rfl rfl) rfl ?_)
          (refine nx (aNc (gN rfl) rfl rfl rfl rfl rfl) rfl ?_)
          (refine nx (aF (gN rfl) rfl rfl rfl rfl rfl rfl rfl rfl rfl) rfl ?_)
          (refine nx (aF (gN rfl) rfl rfl rfl rfl rfl rfl rfl rfl rfl) rfl ?_)
          (refine nx (aLf (gN rfl) rfl rfl rfl rfl rfl rfl rfl rfl rfl rfl rfl rfl rfl) rfl ?_)
          (refine nx (aM (gN rfl) rfl rfl rfl rfl rfl) rfl ?_)
          (refine nx (aIm (k := k) (gN rfl) rfl rfl rfl rfl rfl rfl rfl rfl rfl (by first | rfl | omega | (simp only [List.length_set, List.length_map, List.length_append, List.length_cons, List.length_nil] <;> omega) | (simp <;> omega))) rfl ?_)
          (refine nx (a_loadM (gN rfl) rfl rfl rfl rfl rfl rfl rfl rfl (ha') rfl (by first | rfl | omega | (simp only [List.length_set, List.length_map, List.length_append, List.length_cons, List.length_nil] <;> omega) | (simp <;> omega)) rfl rfl) rfl ?_)
          (refine nx (aM (gN rfl) rfl rfl rfl rfl rfl) rfl ?_)
          (refine nx (a_neq (gN rfl) rfl rfl rfl rfl rfl rfl) rfl ?_)
          (refine nx (aM (gN rfl) rfl rfl rfl rfl rfl) rfl ?_)
          (refine nx (aM (gd_on rfl rfl rfl rfl (by first | rfl | assumption | (simp; done))) rfl rfl rfl rfl rfl) rfl ?_)
          (refine nx (aNc (gd_on rfl rfl rfl rfl (by first | rfl | assumption | (simp; done))) rfl rfl rfl rfl rfl) rfl ?_)
          (refine nx (aF (gd_on rfl rfl rfl rfl (by first | rfl | assumption | (simp; done))) rfl rfl rfl rfl rfl rfl rfl rfl rfl) rfl ?_)
          (refine nx (aF (gd_on rfl rfl rfl rfl (by first | rfl | assumption | (simp; done))) rfl rfl rfl rfl rfl rfl rfl rfl rfl) rfl ?_)
          (refine nx (aLf (gd_on rfl rfl rfl rfl (by first | rfl | assumption | (simp; done))) rfl rfl rfl rfl rfl rfl rfl rfl rfl rfl rfl rfl rfl) rfl ?_)
          (refine nx (aM (gd_on rfl rfl rfl rfl (by first | rfl | assumption | (simp; done))) rfl rfl rfl rfl rfl) rfl ?_)
          (refine nx (aIm (k := k) (gd_on rfl rfl rfl rfl (by first | rfl | assumption | (simp; done))) rfl rfl rfl rfl rfl rfl rfl rfl rfl (by first | rfl | omega | (simp only [List.length_set, List.length_map, List.length_append, List.length_cons, List.length_nil] <;> omega) | (simp <;> omega))) rfl ?_)
          (refine nx (a_loadM (gd_on rfl rfl rfl rfl (by first | rfl | assumption | (simp; done))) rfl rfl rfl rfl rfl rfl rfl rfl (hp') rfl (by first | rfl | omega | (simp only [List.length_set, List.length_map, List.length_append, List.length_cons, List.length_nil] <;> omega) | (simp <;> omega)) rfl rfl) rfl ?_)
          (refine nx (aM (gd_on rfl rfl rfl rfl (by first | rfl | assumption | (simp; done))) rfl rfl rfl rfl rfl) rfl ?_)
          (refine nx (a_bne (gd_on rfl rfl rfl rfl (by first | rfl | assumption | (simp; done))) rfl rfl rfl rfl rfl rfl rfl) rfl ?_)
          (refine ⟨_, _, _, aPf (gN rfl) rfl rfl rfl rfl rfl ?hb rfl, rfl, ?_⟩; case hb => (first | rfl | assumption | (simp; done)))
          (refine nx (aM (gN rfl) rfl rfl rfl rfl rfl) rfl ?_)
          (refine nx (aM (gd_on rfl rfl rfl rfl (by first | rfl | assumption | (simp; done))) rfl rfl rfl rfl rfl) rfl ?_)
          (refine nx (a_gtr (gd_on rfl rfl rfl rfl (by first | rfl | assumption | (simp; done))) rfl rfl rfl rfl rfl rfl) rfl ?_)
          (refine ⟨_, _, _, aPf (gN rfl) rfl rfl rfl rfl rfl ?hb rfl, rfl, ?_⟩; case hb => (first | rfl | assumption | (simp; done)))
          show AWp _ _ _ _ _ _ _
          refine aC rfl (fun _ => ?_) (fun h => by have h : decide ((k : Int) > 200) = false := h; rw [g3] at h; cases h)
          refine aR ?_
          (refine nx (aM (gN rfl) rfl rfl rfl rfl rfl) rfl ?_)
          (refine nx (aNc (gN rfl) rfl rfl rfl rfl rfl) rfl ?_)
          (refine nx (aF (gN rfl) rfl rfl rfl rfl rfl rfl rfl rfl rfl) rfl ?_)
          (refine nx (a_store_fld (gN rfl) rfl rfl rfl rfl rfl rfl rfl rfl rfl rfl rfl rfl) rfl ?_)
          rw [hB0]
          exact wk_sub ⟨rfl, rfl, rfl, rfl, rfl, rfl, rfl, rfl, rfl, rfl, rfl, rfl, rfl, rfl, rfl, rfl, rfl, trivial⟩
        · have g3 : decide ((k : Int) > 200) = false := by rw [decide_eq_false_iff_not]; omega
          have hB0 : B 0 = bad := by rw [hB, h2, decide_eq_false h3, decide_eq_true h1]; simp
          refine aS (aR ?_)
          (refine nx (aM (gN rfl) rfl rfl rfl rfl rfl) rfl ?_)
          (refine nx (aNc (gN rfl) rfl rfl rfl rfl rfl) rfl ?_)
          (refine nx (aF (gN rfl) rfl rfl rfl rfl rfl rfl rfl rfl rfl) rfl ?_)
          (refine nx (aF (gN rfl) rfl rfl rfl rfl rfl rfl rfl rfl rfl) rfl ?_)
          (refine nx (aLf (gN rfl) rfl rfl rfl rfl rfl rfl rfl rfl rfl rfl rfl rfl rfl) rfl ?_)
          (refine nx (aM (gN rfl) rfl rfl rfl rfl rfl) rfl ?_)
          (refine nx (aIm (k := k) (gN rfl) rfl rfl rfl rfl rfl rfl rfl rfl rfl (by first | rfl | omega | (simp only [List.length_set, List.length_map, List.length_append, List.length_cons, List.length_nil] <;> omega) | (simp <;> omega))) rfl ?_)
          (refine nx (a_loadM (gN rfl) rfl rfl rfl rfl rfl rfl rfl rfl (ha') rfl (by first | rfl | omega | (simp only [List.length_set, List.length_map, List.length_append, List.length_cons, List.length_nil] <;> omega) | (simp <;> omega)) rfl rfl) rfl ?_)
          (refine nx (aM (gN rfl) rfl rfl rfl rfl rfl) rfl ?_)
          (refine nx (a_neq (gN rfl) rfl rfl rfl rfl rfl rfl) rfl ?_)
          (refine nx (aM (gN rfl) rfl rfl rfl rfl rfl) rfl ?_)
          (refine nx (aM (gd_on rfl rfl rfl rfl (by first | rfl | assumption | (simp; done))) rfl rfl rfl rfl rfl) rfl ?_)
          (refine nx (aNc (gd_on rfl rfl rfl rfl (by first | rfl | assumption | (simp; done))) rfl rfl rfl rfl rfl) rfl ?_)
          (refine nx (aF (gd_on rfl rfl rfl rfl (by first | rfl | assumption | (simp; done))) rfl rfl rfl rfl rfl rfl rfl rfl rfl) rfl ?_)
          (refine nx (aF (gd_on rfl rfl rfl rfl (by first | rfl | assumption | (simp; done))) rfl rfl rfl rfl rfl rfl rfl rfl rfl) rfl ?_)
          (refine nx (aLf (gd_on rfl rfl rfl rfl (by first | rfl | assumption | (simp; done))) rfl rfl rfl rfl rfl rfl rfl rfl rfl rfl rfl rfl rfl) rfl ?_)
          (refine nx (aM (gd_on rfl rfl rfl rfl (by first | rfl | assumption | (simp; done))) rfl rfl rfl rfl rfl) rfl ?_)
          (refine nx (aIm (k := k) (gd_on rfl rfl rfl rfl (by first | rfl | assumption | (simp; done))) rfl rfl rfl rfl rfl rfl rfl rfl rfl (by first | rfl | omega | (simp only [List.length_set, List.length_map, List.length_append, List.length_cons, List.length_nil] <;> omega) | (simp <;> omega))) rfl ?_)
          (refine nx (a_loadM (gd_on rfl rfl rfl rfl (by first | rfl | assumption | (simp; done))) rfl rfl rfl rfl rfl rfl rfl rfl (hp') rfl (by first | rfl | omega | (simp only [List.length_set, List.length_map, List.length_append, List.length_cons, List.length_nil] <;> omega) | (simp <;> omega)) rfl rfl) rfl ?_)
          (refine nx (aM (gd_on rfl rfl rfl rfl (by first | rfl | assumption | (simp; done))) rfl rfl rfl rfl rfl) rfl ?_)
          (refine nx (a_bne (gd_on rfl rfl rfl rfl (by first | rfl | assumption | (simp; done))) rfl rfl rfl rfl rfl rfl rfl) rfl ?_)
          (refine ⟨_, _, _, aPf (gN rfl) rfl rfl rfl rfl rfl ?hb rfl, rfl, ?_⟩; case hb => (first | rfl | assumption | (simp; done)))
          (refine nx (aM (gN rfl) rfl rfl rfl rfl rfl) rfl ?_)
          (refine nx (aM (gd_on rfl rfl rfl rfl (by first | rfl | assumption | (simp; done))) rfl rfl rfl rfl rfl) rfl ?_)
          (refine nx (a_gtr (gd_on rfl rfl rfl rfl (by first | rfl | assumption | (simp; done))) rfl rfl rfl rfl rfl rfl) rfl ?_)
          (refine ⟨_, _, _, aPf (gN rfl) rfl rfl rfl rfl rfl ?hb rfl, rfl, ?_⟩; case hb => (first | rfl | assumption | (simp; done)))
          show AWp _ _ _ _ _ _ _
          refine aC rfl (fun h => by have h : decide ((k : Int) > 200) = true := h; rw [g3] at h; cases h) (fun _ => aK ?_)
          rw [hB0]
          exact wk_sub ⟨rfl, rfl, rfl, rfl, rfl, rfl, rfl, rfl, rfl, rfl, rfl, rfl, rfl, rfl, rfl, rfl, rfl, trivial⟩
    · have g1' : decide ((ak : Int) ≠ (n : Int)) = true := by rw [decide_eq_true_eq]; omega
      have hB0 : B 0 = true := by rw [hB, decide_eq_false h1]; simp
      refine aS (aR ?_)
      (refine nx (aM (gN rfl) rfl rfl rfl rfl rfl) rfl ?_)
      (refine nx (aNc (gN rfl) rfl rfl rfl rfl rfl) rfl ?_)
      (refine nx (aF (gN rfl) rfl rfl rfl rfl rfl rfl rfl rfl rfl) rfl ?_)
      (refine nx (aF (gN rfl) rfl rfl rfl rfl rfl rfl rfl rfl rfl) rfl ?_)
      (refine nx (aLf (gN rfl) rfl rfl rfl rfl rfl rfl rfl rfl rfl rfl rfl rfl rfl) rfl ?_)
      (refine nx (aM (gN rfl) rfl rfl rfl rfl rfl) rfl ?_)
      (refine nx (aIm (k := k) (gN rfl) rfl rfl rfl rfl rfl rfl rfl rfl rfl (by first | rfl | omega | (simp only [List.length_set, List.length_map, List.length_append, List.length_cons, List.length_nil] <;> omega) | (simp <;> omega))) rfl ?_)
      (refine nx (a_loadM (gN rfl) rfl rfl rfl rfl rfl rfl rfl rfl (ha') rfl (by first | rfl | omega | (simp only [List.length_set, List.length_map, List.length_append, List.length_cons, List.length_nil] <;> omega) | (simp <;> omega)) rfl rfl) rfl ?_)
      (refine nx (aM (gN rfl) rfl rfl rfl rfl rfl) rfl ?_)
      (refine nx (a_neq (gN rfl) rfl rfl rfl rfl rfl rfl) rfl ?_)
      (refine nx (aM (gN rfl) rfl rfl rfl rfl rfl) rfl ?_)
      (refine ⟨_, _, _, a_off (go_off rfl rfl rfl rfl (by first | rfl | assumption | (simp; done) | (simp [*]; done))) rfl rfl rfl, rfl, ?_⟩)
      (refine ⟨_, _, _, a_off (go_off rfl rfl rfl rfl (by first | rfl | assumption | (simp; done) | (simp [*]; done))) rfl rfl rfl, rfl, ?_⟩)
      (refine ⟨_, _, _, a_off (go_off rfl rfl rfl rfl (by first | rfl | assumption | (simp; done) | (simp [*]; done))) rfl rfl rfl, rfl, ?_⟩)
      (refine ⟨_, _, _, a_off (go_off rfl rfl rfl rfl (by first | rfl | assumption | (simp; done) | (simp [*]; done))) rfl rfl rfl, rfl, ?_⟩)
      (refine ⟨_, _, _, a_off (go_off rfl rfl rfl rfl (by first | rfl | assumption | (simp; done) | (simp [*]; done))) rfl rfl rfl, rfl, ?_⟩)
      (refine ⟨_, _, _, a_off (go_off rfl rfl rfl rfl (by first | rfl | assumption | (simp; done) | (simp [*]; done))) rfl rfl rfl, rfl, ?_⟩)
      (refine ⟨_, _, _, a_off (go_off rfl rfl rfl rfl (by first | rfl | assumption | (simp; done) | (simp [*]; done))) rfl rfl rfl, rfl, ?_⟩)
      (refine ⟨_, _, _, a_off (go_off rfl rfl rfl rfl (by first | rfl | assumption | (simp; done) | (simp [*]; done))) rfl rfl rfl, rfl, ?_⟩)
      (refine ⟨_, _, _, a_off (go_off rfl rfl rfl rfl (by first | rfl | assumption | (simp; done) | (simp [*]; done))) rfl rfl rfl, rfl, ?_⟩)
      (refine ⟨_, _, _, a_off (go_off rfl rfl rfl rfl (by first | rfl | assumption | (simp; done) | (simp [*]; done))) rfl rfl rfl, rfl, ?_⟩)
      (refine ⟨_, _, _, aPt (gN rfl) rfl rfl rfl rfl rfl ?hb rfl, rfl, ?_⟩; case hb => (first | rfl | assumption | (simp; done)))
      (refine nx (aM (gN rfl) rfl rfl rfl rfl rfl) rfl ?_)
      (refine ⟨_, _, _, a_off (go_off rfl rfl rfl rfl (by first | rfl | assumption | (simp; done) | (simp [*]; done))) rfl rfl rfl, rfl, ?_⟩)
      (refine ⟨_, _, _, a_off (go_off rfl rfl rfl rfl (by first | rfl | assumption | (simp; done) | (simp [*]; done))) rfl rfl rfl, rfl, ?_⟩)
      (refine ⟨_, _, _, aPt (gN rfl) rfl rfl rfl rfl rfl ?hb rfl, rfl, ?_⟩; case hb => (first | rfl | assumption | (simp; done)))
      show AWp _ _ _ _ _ _ _
      refine aC rfl (fun _ => ?_) (fun h => by cases h)
      refine aR ?_
      (refine nx (aM (gN rfl) rfl rfl rfl rfl rfl) rfl ?_)
      (refine nx (aNc (gN rfl) rfl rfl rfl rfl rfl) rfl ?_)
      (refine nx (aF (gN rfl) rfl rfl rfl rfl rfl rfl rfl rfl rfl) rfl ?_)
      (refine nx (a_store_fld (gN rfl) rfl rfl rfl rfl rfl rfl rfl rfl rfl rfl rfl rfl) rfl ?_)
      rw [hB0]
      exact wk_sub ⟨rfl, rfl, rfl, rfl, rfl, rfl, rfl, rfl, rfl, rfl, rfl, rfl, rfl, rfl, rfl, rfl, rfl, trivial⟩
  subst hG
  subst hV
  refine aS (aR ?_)
  (refine nx (aM (gN rfl) rfl rfl rfl rfl rfl) rfl ?_)
  (refine nx (a_build (gN rfl) rfl rfl rfl rfl rfl rfl rfl rfl rfl rfl rfl) rfl ?_)
  (refine nx (a_alloc (gN rfl) rfl rfl rfl rfl rfl rfl rfl rfl rfl rfl) (by kernel_rfl) ?_)
  (refine nx (aSt (gN rfl) rfl rfl rfl rfl rfl rfl rfl rfl rfl rfl) rfl ?_)
  show AWp _ _ _ _ _ _ _
  refine aS (aS (aR ?_))
  (refine nx (aA (gN rfl) rfl rfl rfl rfl rfl) rfl ?_)
  show AWp _ _ _ _ _ _ _
  refine aB (awp_count n (fun j => (0, .bp 350001 0 []) :: (4, .bp 4 0 []) :: (100004, ⟨5, .row [.i 0, .lst []], 1, 0, [1]⟩) :: (7, .val (.i (n : Int))) :: (12, .bp 12 0 []) :: (100012, ⟨5, .row [.i (k : Int), .lst ((tms.take j).map Tm.cv)], 200206, 0, [1]⟩) :: (200206, .tok 64 2) :: (13, .val (.i (j : Int))) :: rdS L (pos j) (B j) (G j) (V j)) ((wk_nil 100012 200206 64 2 rfl rfl rfl rfl rfl (by kernel_rfl) (by kernel_rfl)).trans (wk_sub ⟨rfl, rfl, rfl, rfl, rfl, rfl, rfl, rfl, rfl, rfl, by rw [hpos.zero]; rfl, rfl, rfl, rfl, rfl, rfl, rfl, rfl, rfl, rfl, trivial⟩)) ?_)
  intro j hj
  have hjs := Tm.size_all (tms.take j)
  have hjl : ((tms.take j).map Tm.cv).length ≤ 1000000 := by rw [List.length_map, List.length_take]; omega
  have hpl : pos j ≤ 1000001 := by
    by_cases hj0 : j = 0
    · rw [hj0, hpos.zero]; omega
    · obtain ⟨y, hy, _⟩ := hpos.sep j (by omega) hj
      have := (List.getElem?_eq_some_iff.1 hy).1
      omega
  refine aS (aS (aR ?_))
  (refine nx (aM (gN rfl) rfl rfl rfl rfl rfl) rfl ?_)
  (refine nx (aM (gN rfl) rfl rfl rfl rfl rfl) rfl ?_)
  (refine nx (a_lss (gN rfl) rfl rfl rfl rfl rfl rfl) rfl ?_)
  show AWp _ _ _ _ _ _ _
  refine aC rfl (fun hlt => ?_) (fun hlt => ?_)
  · have hjn : j < n := by have hlt : decide ((j : Int) < (n : Int)) = true := hlt; simpa using hlt
    obtain ⟨u, hu⟩ : ∃ u, tms[j]? = some u := ⟨tms[j], List.getElem?_eq_getElem (by omega)⟩
    have hc := hparts j u hu
    refine aK ?_
    show AWp _ _ _ _ _ _ _
    refine aS (aB (aS (aR ?_)))
    (refine nx (aM (gN rfl) rfl rfl rfl rfl rfl) rfl ?_)
    (refine nx (aNc (gN rfl) rfl rfl rfl rfl rfl) rfl ?_)
    (refine nx (aF (gN rfl) rfl rfl rfl rfl rfl rfl rfl rfl rfl) rfl ?_)
    (refine nx (aLf (gN rfl) rfl rfl rfl rfl rfl rfl rfl rfl rfl rfl rfl rfl rfl) rfl ?_)
    (refine nx (a_add (gN rfl) rfl rfl rfl rfl rfl rfl (by first | omega | (simp only [List.length_map, List.length_append, List.length_cons, List.length_nil] <;> omega) | (simp <;> omega))) rfl ?_)
    (refine nx (aNc (gN rfl) rfl rfl rfl rfl rfl) rfl ?_)
    (refine nx (aF (gN rfl) rfl rfl rfl rfl rfl rfl rfl rfl rfl) rfl ?_)
    (refine nx (a_store_fld (gN rfl) rfl rfl rfl rfl rfl rfl rfl rfl rfl rfl rfl rfl) rfl ?_)
    show AWp _ _ _ _ _ _ _
    refine AWp.wk (wk_sub (s' := (0, .bp 350001 0 []) :: (4, .bp 4 0 []) :: (100004, ⟨5, .row [.i 0, .lst []], 1, 0, [1]⟩) :: (7, .val (.i (n : Int))) :: (12, .bp 12 0 []) :: (100012, ⟨5, .row [.i (k : Int), .lst ((tms.take j).map Tm.cv)], 200206, 0, [1]⟩) :: (200206, .tok 64 2) :: (13, .val (.i (j : Int))) :: rdS L (pos j + 1) (B j) (G j) (V j)) ⟨rfl, rfl, rfl, rfl, rfl, rfl, rfl, rfl, rfl, rfl, rfl, rfl, rfl, rfl, rfl, rfl, rfl, rfl, rfl, rfl, trivial⟩) ?_
    refine aD (by kernel_rfl) (by kernel_rfl) ?_
    (refine nx (aF (gN rfl) rfl rfl rfl rfl rfl rfl rfl rfl rfl) rfl ?_)
    (refine nx (a_load_tok (gN rfl) rfl rfl rfl rfl rfl rfl rfl rfl rfl rfl rfl rfl rfl) rfl ?_)
    (refine nx (aM (gN rfl) rfl rfl rfl rfl rfl) rfl ?_)
    (refine nx (a_callO (gN rfl) rfl rfl rfl rfl rfl (hc) (by repeat (first | exact trivial | refine ⟨rfl, ?_⟩)) (by first | rfl | kernel_rfl) (by first | rfl | kernel_rfl) (by first | rfl | kernel_rfl) (by first | rfl | kernel_rfl) (hnb_of (by first | rfl | kernel_rfl))) rfl ?_)
    (refine nx (a_bslice (gN rfl) rfl rfl rfl rfl rfl rfl rfl rfl rfl rfl rfl rfl rfl) rfl ?_)
    (refine nx (a_app (gN rfl) rfl rfl rfl rfl rfl rfl rfl rfl rfl rfl rfl rfl rfl rfl rfl (by first | assumption | exact sZ rfl | exact Tm.size_all _ | exact Bd.size_all _ | exact ints_size _ | exact bys_size _ | exact Lt.size_all _) (by first | assumption | exact sZ rfl | exact Tm.size_all _ | exact Bd.size_all _ | exact ints_size _ | exact bys_size _ | exact Lt.size_all _) (by first | omega | (simp only [List.length_map, List.length_append, List.length_cons, List.length_nil] <;> omega) | (simp <;> omega))) (by kernel_rfl) ?_)
    (refine nx (aF (gN rfl) rfl rfl rfl rfl rfl rfl rfl rfl rfl) rfl ?_)
    (refine nx (a_store (gN rfl) rfl rfl rfl rfl rfl rfl rfl rfl rfl rfl) rfl ?_)
    refine ⟨by kernel_rfl, ?_⟩
    show AWp _ _ _ _ _ _ _
    refine aR ?_
    (refine nx (aM (gN rfl) rfl rfl rfl rfl rfl) rfl ?_)
    (refine nx (a_add (gN rfl) rfl rfl rfl rfl rfl rfl (by first | omega | (simp only [List.length_map, List.length_append, List.length_cons, List.length_nil] <;> omega) | (simp <;> omega))) rfl ?_)
    (refine nx (aA (gN rfl) rfl rfl rfl rfl rfl) rfl ?_)
    refine ⟨hjn, Wk.trans (wk_sub (s' := (0, .bp 350001 0 []) :: (4, .bp 4 0 []) :: (100004, ⟨5, .row [.i 0, .lst []], 1, 0, [1]⟩) :: (7, .val (.i (n : Int))) :: (12, .bp 12 0 []) :: (100012, ⟨5, .row [.i (k : Int), .lst ((tms.take (j + 1)).map Tm.cv)], 300206, 0, [1]⟩) :: (300206, .tok 64 2) :: (13, .val (.i ((j + 1 : Nat) : Int))) :: rdS L (pos (j + 1)) (B (j + 1)) (G (j + 1)) (V (j + 1))) ⟨rfl, rfl, rfl, rfl, rfl, ?_, rfl, rfl, rfl, rfl, rfl, rfl, rfl, rfl, rfl, rfl, rfl, rfl, rfl, rfl, trivial⟩) (wk_ren 300206 200206 rfl rfl (by kernel_rfl) (by kernel_rfl))⟩
    rw [List.take_add_one, hu, List.map_append]
    simp only [Option.toList_some, List.map_cons, List.map_nil, Tm.cv_eq]
    rfl
  · have hjn : j = n := by
      have hlt : decide ((j : Int) < (n : Int)) = false := hlt
      have := of_decide_eq_false hlt
      omega
    subst hjn
    refine aE ?_
    show AWp _ _ _ _ _ _ _
    rw [show tms.take j = tms by rw [← htl, List.take_length]]
    by_cases hn0 : 0 < j
    · rw [if_pos hn0]
      refine aS (aS (aR ?_))
      (refine nx (aM (gN rfl) rfl rfl rfl rfl rfl) rfl ?_)
      (refine nx (a_gtr (gN rfl) rfl rfl rfl rfl rfl rfl) rfl ?_)
      show AWp _ _ _ _ _ _ _
      refine aC rfl (fun _ => ?_) (fun h => by have h : decide ((j : Int) > 0) = false := h; have := of_decide_eq_false h; omega)
      refine aR ?_
      (refine nx (aM (gN rfl) rfl rfl rfl rfl rfl) rfl ?_)
      (refine nx (aNc (gN rfl) rfl rfl rfl rfl rfl) rfl ?_)
      (refine nx (aF (gN rfl) rfl rfl rfl rfl rfl rfl rfl rfl rfl) rfl ?_)
      (refine nx (aLf (gN rfl) rfl rfl rfl rfl rfl rfl rfl rfl rfl rfl rfl rfl rfl) rfl ?_)
      (refine nx (a_add (gN rfl) rfl rfl rfl rfl rfl rfl (by first | omega | (simp only [List.length_map, List.length_append, List.length_cons, List.length_nil] <;> omega) | (simp <;> omega))) rfl ?_)
      (refine nx (aNc (gN rfl) rfl rfl rfl rfl rfl) rfl ?_)
      (refine nx (aF (gN rfl) rfl rfl rfl rfl rfl rfl rfl rfl rfl) rfl ?_)
      (refine nx (a_store_fld (gN rfl) rfl rfl rfl rfl rfl rfl rfl rfl rfl rfl rfl rfl) rfl ?_)
      show AWp _ _ _ _ _ _ _
      refine aS (aR ?_)
      (refine nx (aL (gN rfl) rfl rfl rfl rfl rfl rfl rfl rfl rfl rfl rfl rfl) rfl ?_)
      (refine nx (aSt (gN rfl) rfl rfl rfl rfl rfl rfl rfl rfl rfl rfl) rfl ?_)
      show AWp _ _ _ _ _ _ _
      exact aT ⟨.inr rfl, _, Wk.refl _, rfl, rfl, rfl, rfl, rfl, rfl, rfl, rfl, rfl, rfl, rfl, rfl, rfl, trivial⟩
    · rw [if_neg hn0]
      obtain rfl : j = 0 := by omega
      refine aS (aS (aR ?_))
      (refine nx (aM (gN rfl) rfl rfl rfl rfl rfl) rfl ?_)
      (refine nx (a_gtr (gN rfl) rfl rfl rfl rfl rfl rfl) rfl ?_)
      show AWp _ _ _ _ _ _ _
      refine aC rfl (fun h => by cases h) (fun _ => aK ?_)
      show AWp _ _ _ _ _ _ _
      refine aS (aR ?_)
      (refine nx (aL (gN rfl) rfl rfl rfl rfl rfl rfl rfl rfl rfl rfl rfl rfl) rfl ?_)
      (refine nx (aSt (gN rfl) rfl rfl rfl rfl rfl rfl rfl rfl rfl rfl) rfl ?_)
      show AWp _ _ _ _ _ _ _
      exact aT ⟨.inr rfl, _, Wk.refl _, rfl, rfl, rfl, by rw [← hpos.zero]; rfl, rfl, rfl, rfl, rfl, rfl, rfl, rfl, rfl, rfl, trivial⟩
end Go.Proofs.YtglbohajmccehaaDoor

namespace Go.Proofs.YtglbohajmccehaaDoor
open Go.RowKit
set_option linter.unusedVariables false
set_option linter.unusedSimpArgs false
set_option maxRecDepth 10000
def hd (t : List By) : By := t.headD []
def comT (l : List (List By)) : List By := l.flatMap fun x => [44] :: x
theorem comT_cons (x : List By) (l : List (List By)) : comT (x :: l) = [44] :: (x ++ comT l) := by
  unfold comT
  rw [List.flatMap_cons]
  rfl
def bodT : List (List By) → List By
  | [] => []
  | x :: l => [40] :: (x ++ (comT l ++ [[41]]))
def Ph.tk : Ph → List By
  | ⟨n, ps⟩ => n :: bodT (ps.map Ph.tk)
theorem Ph.tk_eq (p : Ph) : p.tk = p.name :: bodT (p.parts.map Ph.tk) := by cases p; rw [Ph.tk]
def Ph.dp : Ph → Nat
  | ⟨n, ps⟩ => 1 + (ps.map Ph.dp).foldr max 0
theorem Ph.dp_eq (p : Ph) : p.dp = 1 + (p.parts.map Ph.dp).foldr max 0 := by cases p; rw [Ph.dp]
def Ph.wf : Ph → Prop
  | ⟨n, ps⟩ => (isNmL n = true ∧ (isGrL n = true → ps = [])) ∧ ∀ q ∈ ps, q.wf
theorem Ph.wf_iff (p : Ph) : p.wf ↔ (isNmL p.name = true ∧ (isGrL p.name = true → p.parts = [])) ∧ ∀ q ∈ p.parts, q.wf := by cases p; rw [Ph.wf]
def Ph.ends (p : Ph) (t : List By) : Prop := p.parts = [] → isGrL p.name = false → hd t ≠ [40]
theorem foldr_max_le {l : List Nat} {k : Nat} : l.foldr max 0 ≤ k ↔ ∀ x ∈ l, x ≤ k := by
  induction l with
  | nil => simp
  | cons x l ih =>
    rw [List.foldr_cons]
    constructor
    · intro h y hy
      rcases List.mem_cons.1 hy with rfl | hy
      · omega
      · exact ih.1 (by omega) y hy
    · intro h
      have h1 := h x (by simp)
      have h2 := ih.2 fun y hy => h y (List.mem_cons_of_mem _ hy)
      omega
theorem Ph.dp_pos (p : Ph) : 1 ≤ p.dp := by rw [p.dp_eq]; omega
theorem Ph.dp_le {p : Ph} {k : Nat} : p.dp ≤ k + 1 ↔ ∀ q ∈ p.parts, q.dp ≤ k := by
  rw [p.dp_eq]
  have : 1 + (p.parts.map Ph.dp).foldr max 0 ≤ k + 1 ↔ (p.parts.map Ph.dp).foldr max 0 ≤ k := by omega
  rw [this, foldr_max_le]
  constructor
  · intro h q hq; exact h _ (List.mem_map_of_mem hq)
  · intro h x hx
    obtain ⟨q, hq, rfl⟩ := List.mem_map.1 hx
    exact h q hq
theorem takeL_hd (t : List By) {s : By} (hs : s ≠ []) : takeL t s = if hd t = s then (true, t.tail) else (false, t) := by
  cases t with
  | nil =>
    have : ¬ hd [] = s := fun e => hs e.symm
    rw [if_neg this]; rfl
  | cons x l => rfl
theorem takeL_cons (s : By) (t : List By) : takeL (s :: t) s = (true, t) := by
  unfold takeL
  simp
theorem nameL_hd (t : List By) : nameL t = if isNmL (hd t) then (hd t, true, t.tail) else ([], false, t) := by
  cases t with
  | nil => rfl
  | cons x l => rfl
theorem takeL_yes {t : List By} {s : By} (hs : s ≠ []) (h : (takeL t s).1 = true) : t = s :: (takeL t s).2 := by
  cases t with
  | nil => cases h
  | cons x l =>
    unfold takeL at h ⊢
    simp only at h ⊢
    split at h
    · rename_i e; rw [if_pos e, e]
    · cases h
theorem takeL_no {t : List By} {s : By} (hs : s ≠ []) (h : (takeL t s).1 = false) : (takeL t s).2 = t ∧ hd t ≠ s := by
  rw [takeL_hd t hs] at h ⊢
  split at h
  · cases h
  · rename_i e; rw [if_neg e]; exact ⟨rfl, e⟩
theorem nameL_yes {t : List By} (h : (nameL t).2.1 = true) : t = (nameL t).1 :: (nameL t).2.2 ∧ isNmL (nameL t).1 = true := by
  cases t with
  | nil => cases h
  | cons x l =>
    unfold nameL at h ⊢
    simp only at h ⊢
    split at h
    · rename_i e; rw [if_pos e]; exact ⟨rfl, e⟩
    · cases h
theorem rdXL_tk : ∀ (n : Nat), (∀ (d : Nat) (p : Ph) (t : List By), p.wf → 2 * p.sz ≤ n → d + p.dp ≤ 33 → p.ends t → rdXL n d (p.tk ++ t) none = some (p, [], true, t)) ∧ ∀ (d : Nat) (p : Ph) (ps : List Ph) (acc : List Ph) (t : List By), (∀ q ∈ p :: ps, q.wf ∧ d + q.dp ≤ 33) → 2 * ((p :: ps).map Ph.sz).sum + 1 ≤ n → hd t = [41] → rdXL n d (p.tk ++ (comT (ps.map Ph.tk) ++ t)) (some acc) = some (⟨[], []⟩, acc ++ p :: ps, true, t)
  | 0 => by
    refine ⟨fun d p t _ h => ?_, fun d p ps acc t _ h => by omega⟩
    have := p.sz_pos
    omega
  | n + 1 => by
    obtain ⟨ih1, ih2⟩ := rdXL_tk n
    constructor
    · intro d p t hw hn hd1 he
      obtain ⟨⟨w1, w2⟩, w3⟩ := (Ph.wf_iff p).1 hw
      have hp := p.dp_pos
      obtain ⟨nm, ps⟩ := p
      simp only at w1 w2 w3
      rw [rdXL, if_neg (by omega), Ph.tk_eq]
      have e1 : nameL (nm :: bodT (ps.map Ph.tk) ++ t) = (nm, true, bodT (ps.map Ph.tk) ++ t) := by
        rw [List.cons_append, nameL_hd, if_pos (by exact w1)]; rfl
      show (if !(nameL (nm :: bodT (ps.map Ph.tk) ++ t)).2.1 || isGrL (nameL (nm :: bodT (ps.map Ph.tk) ++ t)).1 then _ else _) = _
      rw [e1]
      simp only [Bool.not_true, Bool.false_or]
      by_cases hg : isGrL nm = true
      · rw [if_pos hg, w2 hg]; rfl
      · rw [if_neg hg]
        cases ps with
        | nil =>
          have h40 := he rfl (by simpa using hg)
          have e2 : takeL (bodT (([] : List Ph).map Ph.tk) ++ t) [40] = (false, t) := by
            show takeL t [40] = _
            rw [takeL_hd t (by simp), if_neg h40]
          rw [e2]
          rfl
        | cons q qs =>
          have e2 : bodT ((q :: qs).map Ph.tk) ++ t = [40] :: (q.tk ++ (comT (qs.map Ph.tk) ++ ([41] :: t))) := by
            rw [List.map_cons, bodT]
            simp
          rw [e2]
          have e3 : takeL ([40] :: (q.tk ++ (comT (qs.map Ph.tk) ++ ([41] :: t)))) [40] = (true, q.tk ++ (comT (qs.map Ph.tk) ++ ([41] :: t))) := by
            exact takeL_cons _ _
          rw [e3]
          simp only [if_true]
          have hsz := Ph.sz_eq ⟨nm, q :: qs⟩
          simp only at hsz
          have hdp := (Ph.dp_le (p := ⟨nm, q :: qs⟩) (k := 32 - d)).1 (by omega)
          rw [ih2 (d + 1) q qs [] ([41] :: t) (fun x hx => ⟨w3 x hx, by have := hdp x hx; have := Ph.dp_pos x; omega⟩) (by omega) rfl]
          simp only [List.nil_append, if_true]
          have e4 : takeL ([41] :: t) [41] = (true, t) := takeL_cons _ _
          rw [e4]
    · intro d p ps acc t hw hn ht
      obtain ⟨w1, w2⟩ := hw p (by simp)
      rw [List.map_cons, List.sum_cons] at hn
      rw [rdXL]
      have hne : hd (comT (ps.map Ph.tk) ++ t) ≠ [40] := by
        cases ps with
        | nil => show hd t ≠ _; rw [ht]; simp
        | cons q qs => rw [List.map_cons, comT_cons]; show ([44] : By) ≠ [40]; simp
      have hpp := p.sz_pos
      rw [ih1 d p _ w1 (by omega) w2 (fun _ _ => hne)]
      simp only [if_true]
      cases ps with
      | nil =>
        have e : takeL (comT (([] : List Ph).map Ph.tk) ++ t) [44] = (false, t) := by
          show takeL t [44] = _
          rw [takeL_hd t (by simp), if_neg (by rw [ht]; simp)]
        rw [e]
        rfl
      | cons q qs =>
        have e : takeL (comT ((q :: qs).map Ph.tk) ++ t) [44] = (true, q.tk ++ (comT (qs.map Ph.tk) ++ t)) := by
          rw [List.map_cons, comT_cons, List.cons_append, takeL_cons, List.append_assoc]
        rw [e]
        simp only [if_true]
        rw [ih2 d q qs (acc ++ [p]) t (fun x hx => hw x (List.mem_cons_of_mem _ hx)) (by have := q.sz_pos; rw [List.map_cons, List.sum_cons] at hn ⊢; omega) ht]
        simp
theorem rdXL_wf : ∀ (n : Nat), (∀ (d : Nat) (t : List By) (r : Ph × List Ph × Bool × List By), rdXL n d t none = some r → r.2.2.1 = true → r.1.wf ∧ t = r.1.tk ++ r.2.2.2 ∧ d + r.1.dp ≤ 33 ∧ r.1.ends r.2.2.2) ∧ ∀ (d : Nat) (t : List By) (acc : List Ph) (r : Ph × List Ph × Bool × List By), rdXL n d t (some acc) = some r → r.2.2.1 = true → ∃ p ps, r.2.1 = acc ++ p :: ps ∧ (∀ q ∈ p :: ps, q.wf ∧ d + q.dp ≤ 33) ∧ t = p.tk ++ (comT (ps.map Ph.tk) ++ r.2.2.2) ∧ hd r.2.2.2 ≠ [44]
  | 0 => ⟨fun d t r h => by simp [rdXL] at h, fun d t acc r h => by simp [rdXL] at h⟩
  | n + 1 => by
    obtain ⟨ih1, ih2⟩ := rdXL_wf n
    constructor
    · intro d t r h hok
      rw [rdXL] at h
      split at h
      · cases h; cases hok
      rename_i hd32
      have leaf : (Ph.mk (nameL t).1 []).dp = 1 := by rw [Ph.dp_eq]; rfl
      split at h
      · rename_i hc
        cases h
        obtain ⟨h1, h2⟩ := nameL_yes (t := t) hok
        have hg : isGrL (nameL t).1 = true := by
          have hok : (nameL t).2.1 = true := hok
          rw [hok] at hc
          simpa using hc
        refine ⟨(Ph.wf_iff _).2 ⟨⟨h2, fun _ => rfl⟩, fun q hq => by cases hq⟩, ?_, by rw [leaf]; omega, fun _ e => ?_⟩
        · rw [Ph.tk_eq]; exact h1
        · have e : isGrL (nameL t).1 = false := e
          rw [hg] at e; cases e
      · rename_i hc
        have hc : (nameL t).2.1 = true ∧ isGrL (nameL t).1 = false := by
          cases h1 : (nameL t).2.1 <;> cases h2 : isGrL (nameL t).1 <;> rw [h1, h2] at hc <;> simp at hc <;> exact ⟨rfl, rfl⟩
        obtain ⟨h1, h2⟩ := nameL_yes hc.1
        split at h
        · rename_i h40
          have e40 := takeL_yes (by simp) h40
          split at h
          · cases h
          · rename_i q hq
            split at h
            · rename_i hqok
              cases h
              have h41 : (takeL q.2.2.2 [41]).1 = true := hok
              have e41 := takeL_yes (by simp) h41
              obtain ⟨p, ps, e1, e2, e3, e4⟩ := ih2 _ _ _ q hq hqok
              rw [List.nil_append] at e1
              refine ⟨(Ph.wf_iff _).2 ⟨⟨h2, fun e => ?_⟩, fun x hx => ?_⟩, ?_, ?_, fun e => ?_⟩
              · have e : isGrL (nameL t).1 = true := e
                rw [hc.2] at e; cases e
              · have hx : x ∈ q.2.1 := hx
                rw [e1] at hx
                exact (e2 x hx).1
              · show t = Ph.tk ⟨(nameL t).1, q.2.1⟩ ++ (takeL q.2.2.2 [41]).2
                rw [Ph.tk_eq]
                show t = (nameL t).1 :: bodT (q.2.1.map Ph.tk) ++ (takeL q.2.2.2 [41]).2
                rw [e1, List.map_cons, bodT]
                have : t = (nameL t).1 :: [40] :: (p.tk ++ (comT (ps.map Ph.tk) ++ [41] :: (takeL q.2.2.2 [41]).2)) := by
                  rw [← e41, ← e3, ← e40]; exact h1
                exact this.trans (by simp)
              · have := (Ph.dp_le (p := ⟨(nameL t).1, q.2.1⟩) (k := 32 - d)).2 (fun x hx => by
                  have hx : x ∈ q.2.1 := hx
                  rw [e1] at hx
                  have := (e2 x hx).2
                  omega)
                show d + (Ph.mk (nameL t).1 q.2.1).dp ≤ 33
                omega
              · have e : q.2.1 = [] := e
                rw [e1] at e; cases e
            · cases h; cases hok
        · rename_i h40
          have h40 : (takeL (nameL t).2.2 [40]).1 = false := by simpa using h40
          obtain ⟨e5, e6⟩ := takeL_no (by simp) h40
          cases h
          refine ⟨(Ph.wf_iff _).2 ⟨⟨h2, fun _ => rfl⟩, fun q hq => by cases hq⟩, ?_, by rw [leaf]; omega, fun _ _ => ?_⟩
          · show t = Ph.tk ⟨(nameL t).1, []⟩ ++ (takeL (nameL t).2.2 [40]).2
            rw [Ph.tk_eq, e5]; exact h1
          · show hd (takeL (nameL t).2.2 [40]).2 ≠ _
            rw [e5]; exact e6
    · intro d t acc r h hok
      rw [rdXL] at h
      split at h
      · cases h
      · rename_i q hq
        split at h
        · rename_i hqok
          obtain ⟨a1, a2, a3, a4⟩ := ih1 _ _ q hq hqok
          split at h
          · rename_i h44
            have e44 := takeL_yes (by simp) h44
            obtain ⟨p, ps, e1, e2, e3, e4⟩ := ih2 _ _ _ r h hok
            refine ⟨q.1, p :: ps, by rw [e1]; simp, fun x hx => ?_, ?_, e4⟩
            · rcases List.mem_cons.1 hx with rfl | hx
              · exact ⟨a1, a3⟩
              · exact e2 x hx
            · rw [List.map_cons, comT_cons]
              have : t = q.1.tk ++ ([44] :: (p.tk ++ (comT (ps.map Ph.tk) ++ r.2.2.2))) := by rw [← e3, ← e44]; exact a2
              exact this.trans (by simp)
          · rename_i h44
            have h44 : (takeL q.2.2.2 [44]).1 = false := by simpa using h44
            obtain ⟨e5, e6⟩ := takeL_no (by simp) h44
            cases h
            refine ⟨q.1, [], rfl, fun x hx => ?_, ?_, ?_⟩
            · rw [List.mem_singleton.1 hx]; exact ⟨a1, a3⟩
            · show t = q.1.tk ++ (takeL q.2.2.2 [44]).2
              rw [e5]; exact a2
            · show hd (takeL q.2.2.2 [44]).2 ≠ _
              rw [e5]; exact e6
        · cases h; cases hok
theorem at_of {L x z : List By} {y : By} {a : Nat} (h : L.drop a = x ++ y :: z) : L[a + x.length]? = some y := by
  have h1 : (L.drop a)[x.length]? = some y := by rw [h]; simp
  rwa [List.getElem?_drop] at h1
theorem drop_of {L x y : List By} {a : Nat} (h : L.drop a = x ++ y) : L.drop (a + x.length) = y := by
  rw [← List.drop_drop, h, List.drop_left]
def dpF (e : Nat) (ps : List Ph) : Nat := ps.foldl (fun e q => if q.dp + 1 > e then q.dp + 1 else e) e
theorem dpF_eq : ∀ (ps : List Ph) (e : Nat), 1 ≤ e → dpF e ps = max e (1 + (ps.map Ph.dp).foldr max 0)
  | [], e, h => by show e = max e (1 + 0); omega
  | q :: ps, e, h => by
    show dpF (if q.dp + 1 > e then q.dp + 1 else e) ps = _
    rw [dpF_eq ps _ (by split <;> omega), List.map_cons, List.foldr_cons]
    split <;> omega
theorem skI_tk (L : List By) : ∀ (n : Nat), (∀ (d : Nat) (p : Ph) (a : Nat) (t : List By), p.wf → 2 * p.sz ≤ n → d + p.dp ≤ 34 → p.ends t → t ≠ [] → L.drop a = p.tk ++ t → skI L n d a none = some (some (a + p.tk.length, p.dp))) ∧ ∀ (d : Nat) (c : By) (p : Ph) (ps : List Ph) (a deep : Nat) (t : List By), (∀ q ∈ p :: ps, q.wf ∧ (d + 1) + q.dp ≤ 34) → 2 * ((p :: ps).map Ph.sz).sum + 1 ≤ n → L.drop a = c :: (p.tk ++ (comT (ps.map Ph.tk) ++ [41] :: t)) → skI L n d a (some deep) = some (some (a + (1 + p.tk.length + (comT (ps.map Ph.tk)).length + 1), dpF deep (p :: ps)))
  | 0 => by
    refine ⟨fun d p a t _ h => ?_, fun d c p ps a deep t _ h => by omega⟩
    have := p.sz_pos
    omega
  | n + 1 => by
    obtain ⟨ih1, ih2⟩ := skI_tk L n
    constructor
    · intro d p a t hw hn hd1 he ht hL
      obtain ⟨⟨w1, w2⟩, w3⟩ := (Ph.wf_iff p).1 hw
      have hp := p.dp_pos
      obtain ⟨nm, ps⟩ := p
      simp only at w1 w2 w3
      have hnm : nm ≠ [] ∧ (isSmL nm || isGrL nm) = true := by
        unfold isNmL at w1
        rw [Bool.and_eq_true] at w1
        exact ⟨by simpa using w1.1, w1.2⟩
      rw [Ph.tk_eq] at hL ⊢
      simp only at hL ⊢
      have h0 : L[a]? = some nm := at_of (x := []) (by rw [hL]; rfl)
      rw [skI, h0]
      simp only
      rw [if_neg (by
        rw [hnm.2, decide_eq_false hnm.1, Bool.false_or]
        simp
        omega)]
      by_cases hg : isGrL nm = true
      · rw [if_pos hg, w2 hg, Ph.dp_eq]
        rfl
      · rw [if_neg hg]
        cases ps with
        | nil =>
          have h40 := he rfl (by simpa using hg)
          cases t with
          | nil => exact absurd rfl ht
          | cons y t =>
            have h1 : L[a + 1]? = some y := at_of (x := [nm]) (by rw [hL]; rfl)
            rw [h1]
            simp only
            rw [if_neg (show ¬ y = [40] from h40), Ph.dp_eq]
            rfl
        | cons q qs =>
          have e2 : bodT ((q :: qs).map Ph.tk) = [40] :: (q.tk ++ (comT (qs.map Ph.tk) ++ [[41]])) := rfl
          rw [e2] at hL ⊢
          have hL2 : L.drop a = [nm] ++ [40] :: (q.tk ++ (comT (qs.map Ph.tk) ++ [41] :: t)) := by rw [hL]; simp
          have h1 : L[a + 1]? = some [40] := at_of (x := [nm]) hL2
          rw [h1]
          simp only [if_true]
          have hsz := Ph.sz_eq ⟨nm, q :: qs⟩
          simp only at hsz
          have hdp := (Ph.dp_le (p := ⟨nm, q :: qs⟩) (k := 33 - d)).1 (by omega)
          rw [ih2 d [40] q qs (a + 1) 1 t (fun x hx => ⟨w3 x hx, by have := hdp x hx; have := Ph.dp_pos x; omega⟩) (by omega) (drop_of (x := [nm]) hL2), dpF_eq _ _ (Nat.le_refl _), Ph.dp_eq]
          simp only [List.length_cons, List.length_append, List.length_nil]
          congr 2
          rw [Prod.mk.injEq]
          constructor <;> omega
    · intro d c p ps a deep t hw hn hL
      obtain ⟨w1, w2⟩ := hw p (by simp)
      rw [List.map_cons, List.sum_cons] at hn
      have hpp := p.sz_pos
      have hL1 := drop_of (x := [c]) (y := p.tk ++ (comT (ps.map Ph.tk) ++ [41] :: t)) hL
      have hne : hd (comT (ps.map Ph.tk) ++ [41] :: t) ≠ [40] := by
        cases ps with
        | nil => show ([41] : By) ≠ [40]; simp
        | cons q qs => rw [List.map_cons, comT_cons]; show ([44] : By) ≠ [40]; simp
      rw [skI, ih1 (d + 1) p (a + 1) _ w1 (by omega) w2 (fun _ _ => hne) (by simp) hL1]
      simp only
      have hL2 := drop_of hL1
      cases ps with
      | nil =>
        have h1 : L[a + [c].length + p.tk.length]? = some [41] := at_of (x := []) hL2
        have h1 : L[a + 1 + p.tk.length]? = some [41] := h1
        rw [h1]
        simp only [if_true]
        congr 2
        rw [Prod.mk.injEq]
        exact ⟨by simp [comT]; omega, rfl⟩
      | cons q qs =>
        rw [List.map_cons, comT_cons] at hL2
        have h1 : L[a + 1 + p.tk.length]? = some [44] := at_of (x := []) hL2
        rw [h1]
        simp only
        rw [if_neg (by simp), if_pos trivial, ih2 d [44] q qs (a + 1 + p.tk.length) _ t (fun x hx => hw x (List.mem_cons_of_mem _ hx)) (by omega) (by
          show L.drop (a + [c].length + p.tk.length) = _
          rw [hL2]
          simp)]
        congr 2
        rw [Prod.mk.injEq]
        refine ⟨?_, rfl⟩
        rw [List.map_cons, comT_cons]
        simp only [List.length_cons, List.length_append]
        omega
theorem drop_sk {L : List By} {a : Nat} {x : By} (h : L[a]? = some x) : L.drop a = x :: L.drop (a + 1) := by
  obtain ⟨h1, h2⟩ := List.getElem?_eq_some_iff.1 h
  rw [List.drop_eq_getElem_cons h1, h2]
theorem skI_wf (L : List By) : ∀ (n : Nat), (∀ (d a nx m : Nat), skI L n d a none = some (some (nx, m)) → ∃ p : Ph, p.wf ∧ p.ends (L.drop nx) ∧ L.drop a = p.tk ++ L.drop nx ∧ m = p.dp) ∧ ∀ (d a deep nx m : Nat), skI L n d a (some deep) = some (some (nx, m)) → ∃ (p : Ph) (ps : List Ph), (∀ q ∈ p :: ps, q.wf) ∧ L.drop (a + 1) = p.tk ++ (comT (ps.map Ph.tk) ++ [41] :: L.drop nx) ∧ m = dpF deep (p :: ps)
  | 0 => ⟨fun d a nx m h => by simp [skI] at h, fun d a deep nx m h => by simp [skI] at h⟩
  | n + 1 => by
    obtain ⟨ih1, ih2⟩ := skI_wf L n
    constructor
    · intro d a nx m h
      rw [skI] at h
      split at h
      · cases h
      · rename_i t ht
        split at h
        · cases h
        · rename_i hc
          simp only [Bool.or_eq_true, decide_eq_true_eq, not_or, Bool.not_eq_true', Bool.not_eq_false] at hc
          obtain ⟨⟨c1, c2⟩, c3⟩ := hc
          have hnm : isNmL t = true := by
            unfold isNmL
            rw [decide_eq_false c1]
            simpa using c2
          split at h
          · rename_i hg
            cases h
            exact ⟨⟨t, []⟩, (Ph.wf_iff _).2 ⟨⟨hnm, fun _ => rfl⟩, fun q hq => by cases hq⟩, (fun _ e => by have e : isGrL t = false := e; rw [hg] at e; cases e), by rw [drop_sk ht, Ph.tk_eq]; rfl, by rw [Ph.dp_eq]; rfl⟩
          · rename_i hg
            split at h
            · cases h
            · rename_i y hy
              split at h
              · rename_i hy40
                obtain ⟨q, qs, q1, q2, q3⟩ := ih2 d (a + 1) 1 nx m h
                refine ⟨⟨t, q :: qs⟩, (Ph.wf_iff _).2 ⟨⟨hnm, fun e => absurd e hg⟩, q1⟩, (fun e => by cases e), ?_, ?_⟩
                · have e2 : (⟨t, q :: qs⟩ : Ph).tk = t :: [40] :: (q.tk ++ (comT (qs.map Ph.tk) ++ [[41]])) := by rw [Ph.tk_eq]; rfl
                  rw [drop_sk ht, drop_sk hy, q2, hy40, e2]
                  simp
                · rw [q3, dpF_eq _ _ (Nat.le_refl _), Ph.dp_eq]
                  simp only
                  omega
              · rename_i hy40
                cases h
                exact ⟨⟨t, []⟩, (Ph.wf_iff _).2 ⟨⟨hnm, fun _ => rfl⟩, fun q hq => by cases hq⟩, (fun _ _ => by rw [drop_sk hy]; exact hy40), by rw [drop_sk ht, Ph.tk_eq]; rfl, by rw [Ph.dp_eq]; rfl⟩
    · intro d a deep nx m h
      rw [skI] at h
      split at h
      · cases h
      · cases h
      · rename_i nx1 m1 hq
        obtain ⟨p, p1, p2, p3, p4⟩ := ih1 (d + 1) (a + 1) nx1 m1 hq
        split at h
        · cases h
        · rename_i y hy
          split at h
          · rename_i h41
            cases h
            refine ⟨p, [], (fun q hq => by rw [List.mem_singleton.1 hq]; exact p1), ?_, ?_⟩
            · rw [p3, drop_sk hy, h41]
              rfl
            · rw [p4]; rfl
          · split at h
            · rename_i h44
              obtain ⟨q, qs, q1, q2, q3⟩ := ih2 d nx1 _ nx m h
              refine ⟨p, q :: qs, fun x hx => ?_, ?_, ?_⟩
              · rcases List.mem_cons.1 hx with rfl | hx
                · exact p1
                · exact q1 x hx
              · rw [p3, drop_sk hy, h44, q2, List.map_cons, comT_cons]
                simp
              · rw [q3, p4]; rfl
            · cases h
theorem sk_in (T : List By) : ∀ (n : Nat) (d a : Nat) (o : Option Nat) (nx m : Nat), skI (T ++ [[]]) n d a o = some (some (nx, m)) → a < nx ∧ nx < (T ++ [[]]).length := by
  have hin : ∀ {a : Nat} {t : By}, (T ++ [[]])[a]? = some t → t ≠ [] → a + 1 < (T ++ [[]]).length := fun {a t} h ht => by
    rcases Nat.lt_trichotomy a T.length with h1 | h1 | h1
    · rw [List.length_append]; simp; exact h1
    · subst h1
      simp at h
      exact absurd h ht
    · have := (List.getElem?_eq_some_iff.1 h).1
      rw [List.length_append] at this
      simp at this
      omega
  intro n
  induction n with
  | zero => intro d a o nx m h; simp [skI] at h
  | succ n ih =>
    intro d a o nx m h
    cases o with
    | none =>
      rw [skI] at h
      split at h
      · cases h
      · rename_i t ht
        split at h
        · cases h
        · rename_i hc
          simp only [Bool.or_eq_true, decide_eq_true_eq, not_or] at hc
          have h1 := hin ht hc.1.1
          split at h
          · cases h; exact ⟨by omega, h1⟩
          · split at h
            · cases h
            · split at h
              · have := ih d (a + 1) _ nx m h
                exact ⟨by omega, this.2⟩
              · cases h; exact ⟨by omega, h1⟩
    | some deep =>
      rw [skI] at h
      split at h
      · cases h
      · cases h
      · rename_i nx1 m1 hq
        have h1 := ih (d + 1) (a + 1) none nx1 m1 hq
        split at h
        · cases h
        · rename_i y hy
          split at h
          · rename_i h41
            cases h
            exact ⟨by omega, hin hy (by rw [h41]; simp)⟩
          · split at h
            · have := ih d nx1 _ nx m h
              exact ⟨by omega, this.2⟩
            · cases h
theorem sk_tells (T : List By) : ∀ (n : Nat) (d a : Nat) (o : Option Nat), 2 * ((T ++ [[]]).length - a) ≤ n → (o = none → a < (T ++ [[]]).length) → (o ≠ none → a + 1 < (T ++ [[]]).length) → ∃ r, skI (T ++ [[]]) n d a o = some r := by
  intro n
  induction n with
  | zero =>
    intro d a o h h1 h2
    cases o with
    | none => have := h1 rfl; omega
    | some e => have := h2 (by simp); omega
  | succ n ih =>
    intro d a o h h1 h2
    cases o with
    | none =>
      have h1 := h1 rfl
      obtain ⟨t, ht⟩ : ∃ t, (T ++ [[]])[a]? = some t := ⟨_, List.getElem?_eq_getElem h1⟩
      rw [skI, ht]
      simp only
      split
      · exact ⟨_, rfl⟩
      · rename_i hc
        simp only [Bool.or_eq_true, decide_eq_true_eq, not_or] at hc
        split
        · exact ⟨_, rfl⟩
        · have h3 : a + 1 < (T ++ [[]]).length := by
            rcases Nat.lt_trichotomy a T.length with h4 | h4 | h4
            · rw [List.length_append]; simp; exact h4
            · subst h4
              simp at ht
              exact absurd ht hc.1.1
            · rw [List.length_append] at h1
              simp at h1
              omega
          obtain ⟨y, hy⟩ : ∃ y, (T ++ [[]])[a + 1]? = some y := ⟨_, List.getElem?_eq_getElem h3⟩
          rw [hy]
          simp only
          split
          · rename_i hy40
            refine ih d (a + 1) (some 1) (by omega) (fun e => by cases e) (fun _ => ?_)
            rcases Nat.lt_trichotomy (a + 1) T.length with h4 | h4 | h4
            · rw [List.length_append]; simp; exact h4
            · rw [h4] at hy
              simp at hy
              rw [← hy] at hy40
              cases hy40
            · rw [List.length_append] at h3
              simp at h3
              omega
          · exact ⟨_, rfl⟩
    | some deep =>
      have h2 := h2 (by simp)
      obtain ⟨q, hq⟩ := ih (d + 1) (a + 1) none (by omega) (fun _ => h2) (fun e => absurd rfl e)
      rw [skI, hq]
      cases q with
      | none => exact ⟨_, rfl⟩
      | some q =>
        obtain ⟨nx, m⟩ := q
        have h3 := sk_in T n (d + 1) (a + 1) none nx m hq
        obtain ⟨y, hy⟩ : ∃ y, (T ++ [[]])[nx]? = some y := ⟨_, List.getElem?_eq_getElem h3.2⟩
        simp only
        rw [hy]
        simp only
        split
        · exact ⟨_, rfl⟩
        · split
          · rename_i h44
            refine ih d nx _ (by omega) (fun e => by cases e) (fun _ => ?_)
            rcases Nat.lt_trichotomy nx T.length with h4 | h4 | h4
            · rw [List.length_append]; simp; exact h4
            · rw [h4] at hy
              simp at hy
              rw [← hy] at h44
              cases h44
            · have := h3.2
              rw [List.length_append] at this
              simp at this
              omega
          · exact ⟨_, rfl⟩
end Go.Proofs.YtglbohajmccehaaDoor
namespace Go.Proofs.YtglbohajmccehaaDoor
open Go.RowKit
set_option linter.unusedVariables false
set_option linter.unusedSimpArgs false
set_option maxRecDepth 100000
structure Rs where
  bad : Bool
  g : Sg
  vs : List By
noncomputable abbrev rdR (L : List By) (I : Nat) (s : Rs) : AS := rdS L I s.bad s.g s.vs
def foldD (f : Rs → Ph → Tm × Rs) : Rs → List Ph → List Tm × Rs
  | s, [] => ([], s)
  | s, p :: ps => ((f s p).1 :: (foldD f (f s p).2 ps).1, (foldD f (f s p).2 ps).2)
def smS (s : Rs) (nm : By) (n : Nat) (pred : Bool) : Rs :=
  ⟨s.bad || ((!decide (((smD s.g nm n pred).2.ar[(smD s.g nm n pred).1]?).getD 0 = n) || ((((smD s.g nm n pred).2.pr[(smD s.g nm n pred).1]?).getD false) != pred)) || decide (200 < (smD s.g nm n pred).1)), (smD s.g nm n pred).2, s.vs⟩
def dtF : Nat → Bool → Rs → Ph → Tm × Rs
  | 0, _, s, _ => (tz, s)
  | n + 1, pred, s, p => if isGrL p.name then (⟨-1 - ((vrD s.vs p.name).1 : Int), []⟩, ⟨s.bad || pred, s.g, (vrD s.vs p.name).2⟩)
    else (⟨((smD s.g p.name p.parts.length pred).1 : Int), (foldD (dtF n false) (smS s p.name p.parts.length pred) p.parts).1⟩, (foldD (dtF n false) (smS s p.name p.parts.length pred) p.parts).2)
structure Rs.ok (s : Rs) : Prop where
  la : s.g.ar.length = s.g.nm.length
  lp : s.g.pr.length = s.g.nm.length
theorem foldD_len (f : Rs → Ph → Tm × Rs) : ∀ (s : Rs) (ps : List Ph), (foldD f s ps).1.length = ps.length
  | s, [] => rfl
  | s, p :: ps => by unfold foldD; simp [foldD_len f _ ps]
theorem foldD_at (f : Rs → Ph → Tm × Rs) : ∀ (ps : List Ph) (s : Rs) (j : Nat) (q : Ph), ps[j]? = some q → (foldD f s ps).1[j]? = some (f (foldD f s (ps.take j)).2 q).1 ∧ (foldD f s (ps.take (j + 1))).2 = (f (foldD f s (ps.take j)).2 q).2
  | [], s, j, q, h => by simp at h
  | p :: ps, s, 0, q, h => by
    have e : p = q := by simpa using h
    subst e
    exact ⟨rfl, rfl⟩
  | p :: ps, s, j + 1, q, h => by
    obtain ⟨h1, h2⟩ := foldD_at f ps (f s p).2 j q (by simpa using h)
    exact ⟨h1, h2⟩
theorem smD_facts {g : Sg} {nm : By} {n : Nat} {pred : Bool} (h1 : g.ar.length = g.nm.length) (h2 : g.pr.length = g.nm.length) : (smD g nm n pred).1 < (smD g nm n pred).2.nm.length ∧ (smD g nm n pred).2.ar.length = (smD g nm n pred).2.nm.length ∧ (smD g nm n pred).2.pr.length = (smD g nm n pred).2.nm.length ∧ g.nm.length ≤ (smD g nm n pred).2.nm.length ∧ (smD g nm n pred).2.nm.length ≤ g.nm.length + 1 := by
  have hf := fndB_lt g.nm nm
  unfold smD
  split
  · simp only [List.length_append, List.length_cons, List.length_nil]; omega
  · simp only; omega
theorem vrD_len (vs : List By) (t : By) : (vrD vs t).2.length ≤ vs.length + 1 := by
  unfold vrD
  split
  · simp
  · simp
theorem foldD_facts {f : Rs → Ph → Tm × Rs} (hf : ∀ s p, s.ok → (f s p).2.ok ∧ (f s p).2.g.nm.length ≤ s.g.nm.length + p.sz ∧ (f s p).2.vs.length ≤ s.vs.length + p.sz ∧ (s.bad = true → (f s p).2.bad = true)) : ∀ (ps : List Ph) (s : Rs), s.ok → (foldD f s ps).2.ok ∧ (foldD f s ps).2.g.nm.length ≤ s.g.nm.length + (ps.map Ph.sz).sum ∧ (foldD f s ps).2.vs.length ≤ s.vs.length + (ps.map Ph.sz).sum ∧ (s.bad = true → (foldD f s ps).2.bad = true)
  | [], s, h => ⟨h, by simp [foldD], by simp [foldD], fun h => h⟩
  | p :: ps, s, h => by
    obtain ⟨a1, a2, a3, a4⟩ := hf s p h
    obtain ⟨b1, b2, b3, b4⟩ := foldD_facts hf ps (f s p).2 a1
    unfold foldD
    refine ⟨b1, ?_, ?_, fun h => b4 (a4 h)⟩
    · simp only [List.map_cons, List.sum_cons]; omega
    · simp only [List.map_cons, List.sum_cons]; omega
theorem smS_ok {s : Rs} (h : s.ok) (nm : By) (n : Nat) (pred : Bool) : (smS s nm n pred).ok := by
  obtain ⟨_, h2, h3, _, _⟩ := smD_facts (nm := nm) (n := n) (pred := pred) h.la h.lp
  exact ⟨h2, h3⟩
theorem dt_facts : ∀ (n : Nat) (pred : Bool) (s : Rs) (p : Ph), s.ok → (dtF n pred s p).2.ok ∧ (dtF n pred s p).2.g.nm.length ≤ s.g.nm.length + p.sz ∧ (dtF n pred s p).2.vs.length ≤ s.vs.length + p.sz ∧ (s.bad = true → (dtF n pred s p).2.bad = true)
  | 0, pred, s, p, h => ⟨h, by unfold dtF; simp, by unfold dtF; simp, fun h => h⟩
  | n + 1, pred, s, p, h => by
    have hz := p.sz_eq
    unfold dtF
    split
    · refine ⟨⟨h.la, h.lp⟩, by show s.g.nm.length ≤ _; omega, ?_, fun hb => by show (s.bad || pred) = true; rw [hb]; rfl⟩
      have := vrD_len s.vs p.name
      show (vrD s.vs p.name).2.length ≤ _
      omega
    · obtain ⟨c1, c2, c3, c4, c5⟩ := smD_facts (nm := p.name) (n := p.parts.length) (pred := pred) h.la h.lp
      obtain ⟨b1, b2, b3, b4⟩ := foldD_facts (f := dtF n false) (fun s p h => dt_facts n false s p h) p.parts (smS s p.name p.parts.length pred) (smS_ok h _ _ _)
      refine ⟨b1, ?_, ?_, fun hb => b4 (by show (s.bad || _) = true; rw [hb]; rfl)⟩
      · have : (smS s p.name p.parts.length pred).g.nm.length = (smD s.g p.name p.parts.length pred).2.nm.length := rfl
        show (foldD _ _ _).2.g.nm.length ≤ _
        omega
      · have : (smS s p.name p.parts.length pred).vs.length = s.vs.length := rfl
        show (foldD _ _ _).2.vs.length ≤ _
        omega
def posF (I : Nat) (ps : List Ph) (j : Nat) : Nat := I + 1 + ((ps.take j).map fun q => 1 + q.tk.length).sum
theorem posF_zero (I : Nat) (ps : List Ph) : posF I ps 0 = I + 1 := by unfold posF; simp
theorem posF_succ (I : Nat) {ps : List Ph} {j : Nat} {q : Ph} (h : ps[j]? = some q) : posF I ps (j + 1) = posF I ps j + (1 + q.tk.length) := by
  unfold posF
  rw [List.take_add_one, h]
  simp
  omega
theorem drop_one {α : Type} {l : List α} {j : Nat} {q : α} (h : l[j]? = some q) : l.drop j = q :: l.drop (j + 1) := by
  obtain ⟨hl, he⟩ := List.getElem?_eq_some_iff.1 h
  rw [List.drop_eq_getElem_cons hl, he]
theorem drop_pos {L t : List By} {I : Nat} {p : Ph} (hL : L.drop I = p.tk ++ t) : ∀ (j : Nat), (∀ q, p.parts[j]? = some q → L.drop (posF I p.parts j) = (if j = 0 then [40] else [44]) :: (q.tk ++ (comT ((p.parts.drop (j + 1)).map Ph.tk) ++ [41] :: t))) ∧ (p.parts ≠ [] → j = p.parts.length → L.drop (posF I p.parts j) = [41] :: t)
  | 0 => by
    have h1 : L.drop (I + 1) = bodT (p.parts.map Ph.tk) ++ t := by
      have := drop_of (L := L) (a := I) (x := [p.name]) (y := bodT (p.parts.map Ph.tk) ++ t) (by rw [hL, p.tk_eq]; rfl)
      exact this
    refine ⟨fun q hq => ?_, fun hne h => absurd (List.length_eq_zero_iff.1 h.symm) hne⟩
    rw [posF_zero, h1]
    have hd := drop_one hq
    rw [List.drop_zero] at hd
    rw [if_pos rfl]
    conv => lhs; rw [hd]
    rw [List.map_cons, bodT]
    simp
  | j + 1 => by
    have key : ∀ q, p.parts[j]? = some q → L.drop (posF I p.parts (j + 1)) = comT ((p.parts.drop (j + 1)).map Ph.tk) ++ [41] :: t := fun q hq => by
      have h1 := (drop_pos hL j).1 q hq
      rw [posF_succ I hq]
      have := drop_of (L := L) (a := posF I p.parts j) (x := (if j = 0 then [40] else [44]) :: q.tk) (y := comT ((p.parts.drop (j + 1)).map Ph.tk) ++ [41] :: t) (by rw [h1]; rfl)
      rw [List.length_cons] at this
      rw [show posF I p.parts j + (1 + q.tk.length) = posF I p.parts j + (q.tk.length + 1) by omega]
      exact this
    constructor
    · intro q hq
      have hjl : j + 1 < p.parts.length := (List.getElem?_eq_some_iff.1 hq).1
      have h0 : p.parts[j]? = some p.parts[j] := List.getElem?_eq_getElem (by omega)
      rw [key _ h0, drop_one hq, List.map_cons, comT_cons, if_neg (by omega)]
      simp
    · intro hne hj
      have h0 : p.parts[j]? = some p.parts[j] := List.getElem?_eq_getElem (by omega)
      rw [key _ h0, hj, List.drop_length]
      rfl
theorem tk_len (I : Nat) (p : Ph) : I + p.tk.length = if 0 < p.parts.length then posF I p.parts p.parts.length + 1 else I + 1 := by
  rw [p.tk_eq, List.length_cons]
  unfold posF
  rw [List.take_length]
  have hc : ∀ l : List (List By), (comT l).length = (l.map fun x => 1 + x.length).sum := by
    intro l
    induction l with
    | nil => rfl
    | cons x l ih => rw [comT_cons, List.length_cons, List.length_append, ih, List.map_cons, List.sum_cons]; omega
  cases hp : p.parts with
  | nil => simp [bodT]
  | cons q qs =>
    rw [if_pos (by simp), List.map_cons, bodT]
    simp only [List.length_cons, List.length_append, hc, List.map_map, List.map_cons, List.sum_cons, List.length_nil]
    have : (qs.map ((fun x => 1 + x.length) ∘ Ph.tk)) = qs.map fun q => 1 + q.tk.length := rfl
    rw [this]
    omega
theorem sz_tk : ∀ (n : Nat) (p : Ph), p.sz ≤ n → p.sz ≤ p.tk.length
  | 0, p, h => by have := p.sz_pos; omega
  | n + 1, p, h => by
    have hl := tk_len 0 p
    have hz := p.sz_eq
    have key : ∀ l : List Ph, (∀ q ∈ l, q.sz ≤ q.tk.length) → (l.map Ph.sz).sum ≤ (l.map fun q => 1 + q.tk.length).sum := by
      intro l
      induction l with
      | nil => intro _; exact Nat.le_refl _
      | cons q l ih =>
        intro hq
        have h1 := hq q (by simp)
        have h2 := ih fun x hx => hq x (List.mem_cons_of_mem _ hx)
        simp only [List.map_cons, List.sum_cons]
        omega
    have hk := key p.parts fun q hq => sz_tk n q (by have := sz_mem hq; omega)
    unfold posF at hl
    rw [List.take_length] at hl
    split at hl
    · omega
    · rename_i h0
      have : p.parts = [] := List.length_eq_zero_iff.1 (by omega)
      rw [this] at hz
      simp at hz
      omega
  where sz_mem {q : Ph} : ∀ {l : List Ph}, q ∈ l → q.sz ≤ (l.map Ph.sz).sum
    | x :: l, h => by
      simp only [List.map_cons, List.sum_cons]
      rcases List.mem_cons.1 h with rfl | h
      · omega
      · have := sz_mem h; omega
theorem sz_mem2 {q : Ph} : ∀ {l : List Ph}, q ∈ l → q.sz ≤ (l.map Ph.sz).sum
  | x :: l, h => by
    simp only [List.map_cons, List.sum_cons]
    rcases List.mem_cons.1 h with rfl | h
    · omega
    · have := sz_mem2 h; omega
theorem foldD_take {f : Rs → Ph → Tm × Rs} {ps : List Ph} {s : Rs} : (foldD f s (ps.take ps.length)).2 = (foldD f s ps).2 := by rw [List.take_length]

theorem termP_abs (L : List By) (hL : L.length ≤ 50000) : ∀ (n : Nat) (p : Ph) (pred : Bool) (s : Rs) (I : Nat) (t : List By), p.sz ≤ n → p.wf → p.dp ≤ 33 → p.ends t → t ≠ [] → L.drop I = p.tk ++ t → s.ok → s.g.nm.length + p.sz ≤ 100000 → s.vs.length + p.sz ≤ 100000 →
    AFunO Tryd.prog 29 (rdR L I s) [.bp 350001 0 [], .val (.b pred)] (.val (dtF n pred s p).1.cw) (rdR L (I + p.tk.length) (dtF n pred s p).2) := by
  intro n
  induction n with
  | zero => intro p _ _ _ _ h; have := p.sz_pos; omega
  | succ n ih =>
    intro p pred s I t hz hw hdp hen ht hdr hs hg hv
    have hzp := p.sz_eq
    obtain ⟨⟨hnm, hgr⟩, hws⟩ := (Ph.wf_iff p).1 hw
    obtain ⟨b, tl, hbt⟩ : ∃ b tl, p.name = b :: tl := by
      cases hn : p.name with
      | nil => rw [hn] at hnm; cases hnm
      | cons b tl => exact ⟨b, tl, rfl⟩
    have hx : L[I]? = some (b :: tl) := by
      have := at_of (L := L) (a := I) (x := []) (y := p.name) (z := bodT (p.parts.map Ph.tk) ++ t) (by rw [hdr, p.tk_eq]; rfl)
      rw [← hbt]; exact this
    have hIL : I < L.length := (List.getElem?_eq_some_iff.1 hx).1
    have hlen := tk_len I p
    rw [hlen]
    by_cases hG : isGrL p.name = true
    · have hps := hgr hG
      have hb : grB b = true := by rw [hbt] at hG; exact hG
      have hd : dtF (n + 1) pred s p = (⟨-1 - ((vrD s.vs p.name).1 : Int), []⟩, ⟨s.bad || pred, s.g, (vrD s.vs p.name).2⟩) := by conv => lhs; unfold dtF; rw [if_pos hG]
      rw [hd, if_neg (by rw [hps]; simp), hbt]
      exact termV_abs L I s.bad pred s.g s.vs b tl hx hb (by omega) (by omega)
    · have hb : grB b = false := by rw [hbt] at hG; simpa [isGrL] using hG
      have hG' : isGrL p.name = false := by simpa using hG
      have hd : dtF (n + 1) pred s p = (⟨((smD s.g p.name p.parts.length pred).1 : Int), (foldD (dtF n false) (smS s p.name p.parts.length pred) p.parts).1⟩, (foldD (dtF n false) (smS s p.name p.parts.length pred) p.parts).2) := by conv => lhs; unfold dtF; rw [if_neg hG]
      obtain ⟨c1, c2, c3, c4, c5⟩ := smD_facts (nm := p.name) (n := p.parts.length) (pred := pred) hs.la hs.lp
      obtain ⟨k, g1, hk⟩ : ∃ k g1, smD s.g p.name p.parts.length pred = (k, g1) := ⟨_, _, rfl⟩
      rw [hk] at c1 c2 c3 c4 c5
      simp only at c1 c2 c3 c4 c5
      have ha : g1.ar[k]? = some g1.ar[k] := List.getElem?_eq_getElem (by omega)
      have hp : g1.pr[k]? = some g1.pr[k] := List.getElem?_eq_getElem (by omega)
      obtain ⟨s0, hs0⟩ : ∃ s0, s0 = smS s p.name p.parts.length pred := ⟨_, rfl⟩
      have hs0g : s0.g = g1 := by rw [hs0]; show (smD s.g p.name p.parts.length pred).2 = g1; rw [hk]
      have hs0v : s0.vs = s.vs := by rw [hs0]; rfl
      have hs0b : s0.bad = (s.bad || ((!decide (g1.ar[k] = p.parts.length) || (g1.pr[k] != pred)) || decide (200 < k))) := by
        rw [hs0]
        unfold smS
        simp only [hk, ha, hp, Option.getD_some]
      have hs0k : s0.ok := by rw [hs0]; exact smS_ok hs _ _ _
      rw [hd, hk, ← hs0]
      obtain ⟨ff, hff⟩ : ∃ ff, ff = dtF n false := ⟨_, rfl⟩
      rw [← hff]
      have hsum : ∀ j, ((p.parts.take j).map Ph.sz).sum ≤ (p.parts.map Ph.sz).sum := fun j => by
        conv => rhs; rw [← List.take_append_drop j p.parts, List.map_append, List.sum_append]
        omega
      have hfst : ∀ j, (foldD ff s0 (p.parts.take j)).2.ok ∧ (foldD ff s0 (p.parts.take j)).2.g.nm.length ≤ s0.g.nm.length + ((p.parts.take j).map Ph.sz).sum ∧ (foldD ff s0 (p.parts.take j)).2.vs.length ≤ s0.vs.length + ((p.parts.take j).map Ph.sz).sum := fun j => by
        obtain ⟨b1, b2, b3, _⟩ := foldD_facts (f := ff) (fun s p h => by rw [hff]; exact dt_facts n false s p h) (p.parts.take j) s0 hs0k
        exact ⟨b1, b2, b3⟩
      have hnp : p.parts.length ≤ (p.parts.map Ph.sz).sum := by
        have : ∀ l : List Ph, l.length ≤ (l.map Ph.sz).sum := by
          intro l
          induction l with
          | nil => exact Nat.le_refl _
          | cons q l ih => have := q.sz_pos; simp only [List.length_cons, List.map_cons, List.sum_cons]; omega
        exact this _
      have htake : ∀ j q, p.parts[j]? = some q → ((p.parts.take j).map Ph.sz).sum + q.sz ≤ (p.parts.map Ph.sz).sum := fun j q hq => by
        have := hsum (j + 1)
        rw [List.take_add_one, hq, List.map_append, List.sum_append] at this
        simpa using this
      have hpos : Pos L I p.parts.length (posF I p.parts) := by
        refine ⟨posF_zero I _, ?_, fun j hj => ?_, fun j h0 hj => ?_⟩
        · by_cases hne : p.parts = []
          · have hdn : L.drop (I + 1) = t := by
              have := drop_of (L := L) (a := I) (x := [p.name]) (y := t) (by rw [hdr, p.tk_eq, hne]; rfl)
              exact this
            cases t with
            | nil => exact absurd rfl ht
            | cons y t' =>
              have hy : L[I + 1]? = some y := at_of (x := []) (by rw [hdn]; rfl)
              refine ⟨y, hy, ?_, fun h => by rw [hne] at h; simp at h⟩
              rw [hne]
              have := hen hne hG'
              constructor
              · intro e; exact absurd e this
              · intro h; simp at h
          · have h0 : p.parts[0]? = some (p.parts[0]'(List.length_pos_iff.2 hne)) := List.getElem?_eq_getElem _
            have h1 := (drop_pos hdr 0).1 _ h0
            rw [posF_zero, if_pos rfl] at h1
            refine ⟨[40], at_of (x := []) (by rw [h1]; rfl), ⟨fun _ => List.length_pos_iff.2 hne, fun _ => rfl⟩, fun _ => by decide⟩
        · have h0 : p.parts[j]? = some p.parts[j] := List.getElem?_eq_getElem hj
          have h1 := (drop_pos hdr j).1 _ h0
          have hqm := List.mem_of_getElem? h0
          have h2 := drop_of (L := L) (a := posF I p.parts j) (x := [if j = 0 then [40] else [44]]) (y := (p.parts[j]).tk ++ (comT ((p.parts.drop (j + 1)).map Ph.tk) ++ [41] :: t)) (by rw [h1]; rfl)
          have hq1 : (p.parts[j]).dp ≤ 32 := Ph.dp_le.1 hdp _ hqm
          refine ⟨2 * (p.parts[j]).sz, (p.parts[j]).dp, ?_⟩
          rw [(skI_tk L (2 * (p.parts[j]).sz)).1 1 p.parts[j] (posF I p.parts j + 1) _ (hws _ hqm) (Nat.le_refl _) (by omega) ?_ (by simp) h2, posF_succ I h0]
          · congr 3; omega
          · intro _ _
            cases p.parts.drop (j + 1) with
            | nil => show ([41] : By) ≠ [40]; decide
            | cons z zs => rw [List.map_cons, comT_cons]; show ([44] : By) ≠ [40]; decide
        · by_cases hjn : j = p.parts.length
          · have h9 := at_of (L := L) (a := posF I p.parts j) (x := []) (y := [41]) (z := t) (by rw [(drop_pos hdr j).2 (by intro e; rw [e] at hjn; simp at hjn; omega) hjn]; rfl)
            exact ⟨[41], h9, ⟨fun _ => hjn, fun _ => rfl⟩⟩
          · have h1 := (drop_pos hdr j).1 _ (List.getElem?_eq_getElem (by omega))
            rw [if_neg (by omega)] at h1
            have h9 := at_of (L := L) (a := posF I p.parts j) (x := []) (y := [44]) (by rw [h1]; rfl)
            exact ⟨[44], h9, ⟨fun e => (by cases e), fun e => absurd e hjn⟩⟩
      have hmain := termS_abs L (by omega) I p.parts.length (posF I p.parts) hpos s.bad pred s.g s.vs b tl hx hb hs.la hs.lp (by omega) (by omega) k g1 (by rw [← hbt]; exact hk) g1.ar[k] g1.pr[k] ha hp
        (foldD ff s0 p.parts).1 (foldD_len ff s0 p.parts) (fun j => (foldD ff s0 (p.parts.take j)).2.bad) (fun j => (foldD ff s0 (p.parts.take j)).2.g) (fun j => (foldD ff s0 (p.parts.take j)).2.vs) hs0b hs0g hs0v ?_
      · simp only [foldD_take] at hmain
        exact hmain
      · intro j u hu
        have hj : j < p.parts.length := by
          have := (List.getElem?_eq_some_iff.1 hu).1
          rw [foldD_len] at this
          exact this
        have h0 : p.parts[j]? = some p.parts[j] := List.getElem?_eq_getElem hj
        have hqm := List.mem_of_getElem? h0
        obtain ⟨e1, e2⟩ := foldD_at ff p.parts s0 j _ h0
        rw [hu] at e1
        cases e1
        have h1 := (drop_pos hdr j).1 _ h0
        have h2 := drop_of (L := L) (a := posF I p.parts j) (x := [if j = 0 then [40] else [44]]) (y := (p.parts[j]).tk ++ (comT ((p.parts.drop (j + 1)).map Ph.tk) ++ [41] :: t)) (by rw [h1]; rfl)
        have hq1 : (p.parts[j]).dp ≤ 32 := Ph.dp_le.1 hdp _ hqm
        obtain ⟨f1, f2, f3⟩ := hfst j
        have hts := htake j _ h0
        have hzq := sz_mem2 hqm
        have hrec := ih p.parts[j] false (foldD ff s0 (p.parts.take j)).2 (posF I p.parts j + 1) _ (by omega) (hws _ hqm) (by omega) (by
          intro _ _
          cases p.parts.drop (j + 1) with
          | nil => show ([41] : By) ≠ [40]; decide
          | cons z zs => rw [List.map_cons, comT_cons]; show ([44] : By) ≠ [40]; decide) (by simp) h2 f1 (by rw [hs0g] at f2; omega) (by rw [hs0v] at f3; omega)
        rw [← hff] at hrec
        show AFunO _ _ (rdR L (posF I p.parts j + 1) (foldD ff s0 (p.parts.take j)).2) _ _ (rdR L (posF I p.parts (j + 1)) (foldD ff s0 (p.parts.take (j + 1))).2)
        rw [e2, posF_succ I h0, show posF I p.parts j + (1 + (p.parts[j]).tk.length) = posF I p.parts j + 1 + (p.parts[j]).tk.length by omega]
        exact hrec
end Go.Proofs.YtglbohajmccehaaDoor
