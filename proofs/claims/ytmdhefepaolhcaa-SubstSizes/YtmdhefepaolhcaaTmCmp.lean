/-
  term.Compare and slices.CompareFunc at terms: what they return.
-/
import Derived.Test.YtmdhefepaolhcaaTmSmall
namespace Go.Proofs.Ytmdhefepaolhcaa
open Go.RowKit
set_option linter.unusedVariables false
set_option linter.unusedSimpArgs false

/-- The first of these that is no 0. -/
def cmpW : List (Tm → Int) → List Tm → Int
  | [], [] => 0
  | [], _ :: _ => -1
  | _ :: _, [] => 1
  | c :: cs, s :: ss => if c s ≠ 0 then c s else cmpW cs ss
/-- The order of terms. -/
def cmpT : Tm → Tm → Int
  | ⟨f, l⟩, b => if f ≠ b.f then cmpH f b.f else if f < 0 then 0 else if l.length ≠ b.l.length then cmpZ l.length b.l.length else cmpW (l.map fun s => fun b => cmpT s b) b.l
def cmpL (l m : List Tm) : Int := cmpW (l.map fun s => fun b => cmpT s b) m
theorem cmpL_nil : cmpL [] [] = 0 := rfl
theorem cmpL_lt (s : Tm) (ss : List Tm) : cmpL [] (s :: ss) = -1 := rfl
theorem cmpL_gt (t : Tm) (ts : List Tm) : cmpL (t :: ts) [] = 1 := rfl
theorem cmpL_cons (t s : Tm) (ts ss : List Tm) : cmpL (t :: ts) (s :: ss) = if cmpT t s ≠ 0 then cmpT t s else cmpL ts ss := rfl
theorem cmpT_eq (a b : Tm) : cmpT a b = if a.f ≠ b.f then cmpH a.f b.f else if a.ps.length ≠ b.ps.length then cmpZ a.ps.length b.ps.length else cmpL a.ps b.ps := by
  cases a with
  | mk f l =>
    cases b with
    | mk g m =>
      rw [cmpT]
      unfold Tm.ps
      show _ = if ¬ f = g then _ else if ¬ (if f < 0 then [] else l).length = (if g < 0 then [] else m).length then _ else cmpL (if f < 0 then [] else l) (if g < 0 then [] else m)
      simp only
      by_cases h : f = g
      · subst h
        by_cases h2 : f < 0
        · simp [h2, cmpL_nil]
        · by_cases h3 : l.length = m.length <;> simp [h2, h3, cmpL]
      · simp [h]

theorem drop_at {α : Type} {l : List α} {k : Nat} {x : α} (h : l[k]? = some x) : l.drop k = x :: l.drop (k + 1) := by
  obtain ⟨hlt, rfl⟩ := List.getElem?_eq_some_iff.1 h
  exact List.drop_eq_getElem_cons hlt

set_option maxRecDepth 100000 in
set_option maxHeartbeats 800000 in
theorem compareFunc_any {U : Nat → Prop} {la lb : List Tm} {a1 a2 : Option Addr} {n1 c1 n2 c2 : Nat} {w : World} (h1 : Las U w la a1 n1 c1) (h2 : Las U w lb a2 n2 c2)
    (hC : ∀ t ∈ la, ∀ (s : Tm) (a a' : Option Addr) (n c n' c' : Nat) (w' : World), Tat U w' t a n c → Tat U w' s a' n' c' → Calls Try.prog 53 #[.agg #[.int .i64 t.f, .slice a n c], .agg #[.int .i64 s.f, .slice a' n' c']] w' fun e w'' => e = .returned (.int .i64 (cmpT t s)) ∧ Below w'.heap.size w' w'') :
    Calls Try.prog 76 #[.slice a1 n1 c1, .slice a2 n2 c2, .func (.func 53) #[] #[]] w fun e w' => e = .returned (.int .i64 (cmpL la lb)) ∧ Below w.heap.size w w' := by
  have HL1 : Hid (n1 = la.length ∧ n1 ≤ c1 ∧ c1 ≤ maxLen) := h1.len
  have HL2 : Hid (n2 = lb.length ∧ n2 ≤ c2 ∧ c2 ≤ maxLen) := h2.len
  have hn1 : n1 ≤ 9223372036854775807 := by have := HL1.out; unfold maxLen at this; omega
  have hn2 : n2 ≤ 9223372036854775807 := by have := HL2.out; unfold maxLen at this; omega
  have HA1 : Hid (∀ w', Below w.heap.size w w' → Las U w' la a1 n1 c1) := fun w' hb => h1.bw hb
  have HA2 : Hid (∀ w', Below w.heap.size w w' → Las U w' lb a2 n2 c2) := fun w' hb => h2.bw hb
  have HC := hid hC
  clear h1 h2 hC
  go_enter Try.func76, Try.ntmps76
  go_wp2
  go_loopw [13] (fun i wr => ∃ k : Nat, i = .int .i64 (k : Int) ∧ k ≤ n1 ∧ Below w.heap.size w wr ∧ cmpL (la.drop k) (lb.drop k) = cmpL la lb) (fun i _ => n1 - (intOf i).toNat)
  case atStart => exact ⟨0, rfl, by omega, bW _, by simp⟩
  case round =>
    obtain ⟨k, rfl, hk, hbr, hcm⟩ := hrel
    have HCM := hid hcm
    clear hcm
    by_cases hlt : k < n1
    · obtain ⟨b, off, t, a', n', c', rfl, hU, hlt', ht, hT, e1, e2⟩ := (HA1.out wr hbr).at hlt
      have HT := hid ht
      clear ht
      by_cases h2 : k < n2
      · obtain ⟨b2, off2, s, a2', n2', c2', rfl, hU2, hlt2', hs, hS, e3, e4⟩ := (HA2.out wr hbr).at h2
        have HS := hid hs
        clear hs
        have HCall : Hid (∀ w', Below wr.heap.size wr w' → Calls Try.prog 53 #[.agg #[.int .i64 t.f, .slice a' n' c'], .agg #[.int .i64 s.f, .slice a2' n2' c2']] w' fun e w'' => e = .returned (.int .i64 (cmpT t s)) ∧ Below w'.heap.size w' w'') := fun w' hb => HC.out t (List.mem_of_getElem? HT.out) s _ _ _ _ _ _ w' (hT.bw hb) (hS.bw hb)
        have HD : Hid (cmpL (la.drop k) (lb.drop k) = if cmpT t s ≠ 0 then cmpT t s else cmpL (la.drop (k + 1)) (lb.drop (k + 1))) := by show _ = _; rw [drop_at HT.out, drop_at HS.out, cmpL_cons]
        obtain ⟨z, hz⟩ : ∃ z, z = cmpT t s := ⟨_, rfl⟩
        rw [← hz] at HD HCall
        clear hz
        by_cases hz0 : z = 0
        · subst hz0
          have HE : Hid (cmpL (la.drop (k + 1)) (lb.drop (k + 1)) = cmpL la lb) := by show _ = _; rw [← HCM.out, HD.out]; simp
          go_wp2_with (go_at_call 53; refine (HCall.out _ (bA (bA (bW _) _) _)).mono ?_; rintro e w1 ⟨rfl, hb1⟩)
          go_roundw
          case rel => exact ⟨k + 1, by go_num, by omega, bN hbr (bN (bA (bA (bW _) _) _) hb1), HE.out⟩
          case measure => simp [intOf]; omega
        · have HE : Hid (cmpL la lb = z) := by show _ = _; rw [← HCM.out, HD.out]; simp [hz0]
          go_wp2_with (go_at_call 53; refine (HCall.out _ (bA (bA (bW _) _) _)).mono ?_; rintro e w1 ⟨rfl, hb1⟩)
          go_ret
          exact ⟨by rw [HE.out]; rfl, bN hbr (bN (bA (bA (bW _) _) _) hb1)⟩
      · have HE : Hid (cmpL la lb = 1) := by
          show _ = _
          rw [← HCM.out, drop_at HT.out, show lb.drop k = [] from List.drop_eq_nil_of_le (by have := HL2.out; omega), cmpL_gt]
        go_wp2
        go_ret
        exact ⟨by rw [HE.out]; rfl, bN hbr (bA (bW _) _)⟩
    · have HE : Hid (cmpL la lb = if n1 < n2 then -1 else 0) := by
        show _ = _
        rw [← HCM.out, show la.drop k = [] from List.drop_eq_nil_of_le (by have := HL1.out; omega)]
        cases hd : lb.drop k with
        | nil =>
          rw [cmpL_nil, if_neg]
          have := List.drop_eq_nil_iff.1 hd
          have := HL2.out
          omega
        | cons x xs =>
          rw [cmpL_lt, if_pos]
          have h3 : ¬ lb.drop k = [] := by rw [hd]; simp
          rw [List.drop_eq_nil_iff] at h3
          have := HL2.out
          have := HL1.out
          omega
      by_cases h3 : n1 < n2
      · go_wp2
        go_ret
        exact ⟨by rw [HE.out, if_pos h3]; rfl, hbr⟩
      · go_wp2
        go_ret
        exact ⟨by rw [HE.out, if_neg (by omega)]; rfl, hbr⟩

set_option maxRecDepth 100000 in
set_option maxHeartbeats 800000 in
/-- What Compare returns. -/
theorem compare_any {U : Nat → Prop} : ∀ (t s : Tm) (a a' : Option Addr) (n c n' c' : Nat) (w : World), Tat U w t a n c → Tat U w s a' n' c' →
    Calls Try.prog 53 #[.agg #[.int .i64 t.f, .slice a n c], .agg #[.int .i64 s.f, .slice a' n' c']] w fun e w' => e = .returned (.int .i64 (cmpT t s)) ∧ Below w.heap.size w w' := by
  intro t
  induction t using Tm.indp with
  | h t ih =>
    intro s a a' n c n' c' w ht hs
    obtain ⟨w0, hw0⟩ : ∃ w0, w0 = (w.alloc (.cells #[.int .i64 t.f, .slice a n c] 34)).alloc (.cells #[.int .i64 s.f, .slice a' n' c'] 34) := ⟨_, rfl⟩
    have HB : Hid (∀ w1, Below w0.heap.size w0 w1 → (w1.cell? ⟨w.heap.size, 0, none⟩ = some (.int .i64 t.f) ∧ w1.cell? ⟨w.heap.size, 1, none⟩ = some (.slice a n c)) ∧ (w1.cell? ⟨w.heap.size + 1, 0, none⟩ = some (.int .i64 s.f) ∧ w1.cell? ⟨w.heap.size + 1, 1, none⟩ = some (.slice a' n' c'))) := fun w1 hb => by
      rw [hw0] at hb; exact box2 hb
    have HW := hid hw0
    have HB0 : Hid (Below w.heap.size w w0) := by rw [hw0]; exact bA (bA (bW _) _) _
    clear hw0
    have HT : Hid (∀ w1, Below w0.heap.size w0 w1 → Tat U w1 t a n c ∧ Tat U w1 s a' n' c') := fun w1 hb => ⟨ht.bw (bN HB0.out hb), hs.bw (bN HB0.out hb)⟩
    have HF := hid (And.intro ht.wf hs.wf)
    have HE := hid (cmpT_eq t s)
    have HI := hid ih
    have hq : Below w0.heap.size w0 w0 := bW _
    obtain ⟨z, hz⟩ : ∃ z, z = cmpT t s := ⟨_, rfl⟩
    rw [← hz] at HE ⊢
    clear hz ht hs ih
    by_cases hf : t.f = s.f
    · have HE2 : Hid (z = if t.ps.length ≠ s.ps.length then cmpZ t.ps.length s.ps.length else cmpL t.ps s.ps) := by show _ = _; rw [HE.out, if_neg (by simp [hf])]
      have HP1 : Hid (∀ w1, Below w0.heap.size w0 w1 → Calls Try.prog 60 #[.agg #[.int .i64 t.f, .slice a n c]] w1 fun e w' => Below w1.heap.size w1 w' ∧ ∃ a' n' c', e = .returned (.slice a' n' c') ∧ Las U w' t.ps a' n' c') := fun w1 hb => parts_any (HT.out w1 hb).1
      have HP2 : Hid (∀ w1, Below w0.heap.size w0 w1 → Calls Try.prog 60 #[.agg #[.int .i64 t.f, .slice a' n' c']] w1 fun e w' => Below w1.heap.size w1 w' ∧ ∃ a' n' c', e = .returned (.slice a' n' c') ∧ Las U w' s.ps a' n' c') := fun w1 hb => by
        have := parts_any (HT.out w1 hb).2
        rw [← hf] at this
        exact this
      rw [← hf] at HB HW ⊢
      obtain ⟨f, hff⟩ : ∃ f, f = t.f := ⟨_, rfl⟩
      rw [← hff] at HB HW HP1 HP2 ⊢
      clear HE hff hf HF HT
      obtain ⟨⟨c1, c2⟩, c3, c4⟩ := HB.out w0 hq
      go_enter Try.func53, Try.ntmps53
      go_wp2_with fail
      rw [← HW.out]
      go_region_held3 (fun w' => (w'.cell? ⟨w.heap.size, 0, none⟩ = some (.int .i64 f) ∧ w'.cell? ⟨w.heap.size, 1, none⟩ = some (.slice a n c)) ∧ (w'.cell? ⟨w.heap.size + 1, 0, none⟩ = some (.int .i64 f) ∧ w'.cell? ⟨w.heap.size + 1, 1, none⟩ = some (.slice a' n' c'))) (exact HB.out _ (by first | with_reducible exact hq | with_reducible exact bD hq))
        (first
          | (go_at_call_of 60 (Value.agg #[Value.int .i64 f, Value.slice a n c]); refine (HP1.out _ (by first | with_reducible exact hq | with_reducible exact bD hq)).mono ?_; rintro e w2 ⟨hb2, a2, n2, c2, rfl, hl2⟩; replace hq := bN (by first | with_reducible exact hq | with_reducible exact bD hq) hb2; clear hb2; dsimp only)
          | (go_at_call_of 60 (Value.agg #[Value.int .i64 f, Value.slice a' n' c']); refine (HP2.out _ (by first | with_reducible exact hq | with_reducible exact bD hq)).mono ?_; rintro e w3 ⟨hb3, a3, n3, c3, rfl, hl3⟩; replace hq := bN (by first | with_reducible exact hq | with_reducible exact bD hq) hb3; replace hl2 := hl2.bw (by first | with_reducible exact hb3 | with_reducible exact bN (bD (bW _)) hb3); dsimp only))
      have HN : Hid (n2 = t.ps.length ∧ n3 = s.ps.length) := ⟨hl2.1, hl3.1⟩
      by_cases hn : n2 = n3
      · subst hn
        have HE3 : Hid (z = cmpL t.ps s.ps) := by show _ = _; rw [HE2.out, if_neg (by have := HN.out; omega)]
        go_wp2_with (go_at_call 76; refine (compareFunc_any hl2 hl3 HI.out).mono ?_; rintro e w4 ⟨rfl, hb4⟩)
        go_ret
        exact ⟨by rw [HE3.out]; rfl, bN (bN HB0.out hq) hb4⟩
      · have HE3 : Hid (z = cmpZ n2 n3) := by show _ = _; rw [HE2.out, if_pos (by have := HN.out; omega), HN.out.1, HN.out.2]
        go_wp2_with (go_at_call 75; refine (cmpInt_any _ _ _).mono ?_; rintro e w4 ⟨rfl, hb4⟩)
        go_ret
        exact ⟨by rw [HE3.out]; rfl, bN (bN HB0.out hq) hb4⟩
    · have HE2 : Hid (z = cmpH t.f s.f) := by show _ = _; rw [HE.out, if_pos hf]
      have hf1 := HF.out.1.1
      have hf2 := HF.out.2.1
      obtain ⟨f, hff⟩ : ∃ f, f = t.f := ⟨_, rfl⟩
      obtain ⟨g, hgg⟩ : ∃ g, g = s.f := ⟨_, rfl⟩
      rw [← hff, ← hgg] at HB HW HE2 hf ⊢
      rw [← hff] at hf1
      rw [← hgg] at hf2
      clear HE hff hgg HF HT
      obtain ⟨⟨c1, c2⟩, c3, c4⟩ := HB.out w0 hq
      go_enter Try.func53, Try.ntmps53
      go_wp2_with fail
      rw [← HW.out]
      go_wp2_with (go_at_call 74; refine (heads_any _ _ _ _ _ _ _ _ _ hf1 hf2).mono ?_; rintro e w1 ⟨rfl, hb1⟩)
      go_ret
      exact ⟨by rw [HE2.out]; rfl, bN (bN HB0.out hq) hb1⟩

/-- The same, but for variables' parts. -/
def sameT (t s : Tm) : Bool := cmpT t s == 0

set_option maxHeartbeats 400000 in
theorem same_any {U : Nat → Prop} (t s : Tm) (a a' : Option Addr) (n c n' c' : Nat) (w : World) (ht : Tat U w t a n c) (hs : Tat U w s a' n' c') :
    Calls Try.prog 27 #[.agg #[.int .i64 t.f, .slice a n c], .agg #[.int .i64 s.f, .slice a' n' c']] w fun e w' => e = .returned (.bool (sameT t s)) ∧ Below w.heap.size w w' := by
  have HC : Hid (∀ w1, Below w.heap.size w w1 → Calls Try.prog 53 #[.agg #[.int .i64 t.f, .slice a n c], .agg #[.int .i64 s.f, .slice a' n' c']] w1 fun e w' => e = .returned (.int .i64 (cmpT t s)) ∧ Below w1.heap.size w1 w') := fun w1 hb => compare_any t s _ _ _ _ _ _ w1 (ht.bw hb) (hs.bw hb)
  unfold sameT
  clear ht hs
  go_enter Try.func27, Try.ntmps27
  go_wp2_with (go_at_call 53; refine (HC.out _ (bA (bA (bW _) _) _)).mono ?_; rintro e w1 ⟨rfl, hb1⟩)
  go_ret
  exact ⟨rfl, bN (bA (bA (bW _) _) _) hb1⟩
end Go.Proofs.Ytmdhefepaolhcaa
