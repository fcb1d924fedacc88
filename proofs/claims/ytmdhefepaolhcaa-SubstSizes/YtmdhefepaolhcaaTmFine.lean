/-
  soriteslaw06.Small, Fine, alive.
-/
import Derived.Test.YtmdhefepaolhcaaTmOf
import Derived.Test.YtmdhefepaolhcaaTmPlaces
import Derived.Test.YtmdhefepaolhcaaTmCount
namespace Go.Proofs.Ytmdhefepaolhcaa
open Go.RowKit
set_option linter.unusedVariables false
set_option linter.unusedSimpArgs false

def smallW : List (Int → Int → Int) → Int → Int → Int
  | [], most, _ => most
  | c :: cs, most, deep => if most < 0 then most else smallW cs (c most deep) deep
/-- What is left of the number. -/
def smallT : Tm → Int → Int → Int
  | ⟨f, l⟩, most, deep => if deep < 0 ∨ f < -1000 ∨ 1000 < f ∨ 20 < l.length then -1 else smallW (l.map fun s => fun m d => smallT s m d) (most - 1) (deep - 1)
def smallL (l : List Tm) (most deep : Int) : Int := smallW (l.map fun s => fun m d => smallT s m d) most deep
theorem smallT_eq (f : Int) (l : List Tm) (most deep : Int) : smallT ⟨f, l⟩ most deep = if deep < 0 ∨ f < -1000 ∨ 1000 < f ∨ 20 < l.length then -1 else smallL l (most - 1) (deep - 1) := by rw [smallT]; rfl
theorem smallL_nil (most deep : Int) : smallL [] most deep = most := rfl
theorem smallL_cons (t : Tm) (ts : List Tm) (most deep : Int) : smallL (t :: ts) most deep = if most < 0 then most else smallL ts (smallT t most deep) deep := rfl
theorem smallL_neg (l : List Tm) {m : Int} (d : Int) (h : m < 0) : smallL l m d = m := by
  cases l with
  | nil => rw [smallL_nil]
  | cons t ts => rw [smallL_cons, if_pos h]

theorem small_bounds (t : Tm) : ∀ most deep, 0 ≤ most → -1 ≤ smallT t most deep ∧ smallT t most deep < most ∧ (0 ≤ smallT t most deep → smallT t most deep + t.wt ≤ most) := by
  induction t using Tm.ind with
  | h f l ih =>
    intro most deep hm
    rw [smallT_eq]
    split
    · exact ⟨by omega, by omega, by omega⟩
    · have : ∀ (l : List Tm) (m d : Int), (∀ t ∈ l, ∀ most deep, 0 ≤ most → -1 ≤ smallT t most deep ∧ smallT t most deep < most ∧ (0 ≤ smallT t most deep → smallT t most deep + t.wt ≤ most)) → -1 ≤ m → -1 ≤ smallL l m d ∧ smallL l m d ≤ m ∧ (0 ≤ smallL l m d → smallL l m d + Tm.wts l ≤ m) := by
        intro l
        induction l with
        | nil => intro m d _ h; rw [smallL_nil, wts_nil]; exact ⟨h, Int.le_refl _, by omega⟩
        | cons y ys ih2 =>
          intro m d hl h
          rw [smallL_cons, wts_cons]
          split
          · exact ⟨by omega, by omega, by omega⟩
          · have h1 := hl y (by simp) m d (by omega)
            have h2 := ih2 (smallT y m d) d (fun s hs => hl s (List.mem_cons_of_mem _ hs)) h1.1
            refine ⟨h2.1, by omega, fun h3 => ?_⟩
            have := h2.2.2 h3
            have := h1.2.2 (by omega)
            omega
      have h1 := this l (most - 1) (deep - 1) ih (by omega)
      refine ⟨h1.1, by omega, fun h2 => ?_⟩
      have := h1.2.2 h2
      rw [Tm.wt_eq]
      show _ + ((1 + Tm.wts l : Nat) : Int) ≤ _
      omega

set_option maxRecDepth 100000 in
set_option maxHeartbeats 1000000 in
theorem small_any : ∀ (t : Tm) (U : Nat → Prop) (a : Option Addr) (n c : Nat) (most deep : Int) (w : World), Tat U w t a n c → 0 ≤ most → most ≤ 60 → -1 ≤ deep → deep ≤ 20 →
    Calls Try.prog 11 #[.agg #[.int .i64 t.f, .slice a n c], .int .i64 most, .int .i64 deep] w fun e w' => e = .returned (.int .i64 (smallT t most deep)) ∧ Below w.heap.size w w' := by
  intro t
  induction t using Tm.ind with
  | h f l ih =>
    intro U a n c most deep w ht hm1 hm2 hd1 hd2
    obtain ⟨w1, hw1⟩ : ∃ w1, w1 = w.alloc (.cells #[.int .i64 f, .slice a n c] 25) := ⟨_, rfl⟩
    have b1 : Below w.heap.size w w1 := by rw [hw1]; exact bA (bW _) _
    have x1 : w1.heap[w.heap.size]? = some (.cells #[.int .i64 f, .slice a n c] 25 (0, 0)) := by rw [hw1]; exact World.alloc_heap_new _ _
    have hl : Las U w1 l a n c := ht.las.bw b1
    have HL := hid hl.len
    have hn : n ≤ 9223372036854775807 := by have := HL.out; unfold maxLen at this; omega
    have HX : Hid (∀ V, Below w1.heap.size w1 V → V.cell? ⟨w.heap.size, 0, none⟩ = some (.int .i64 f) ∧ V.cell? ⟨w.heap.size, 1, none⟩ = some (.slice a n c)) := fun V hb => cell2 ((hb.block _ (Array.getElem?_eq_some_iff.1 x1).1).trans x1)
    have HLs : Hid (∀ V, Below w1.heap.size w1 V → Las U V l a n c) := fun V hb => hl.bw hb
    have HI := hid ih
    have HW := hid hw1
    have HD : Hid (smallT (.mk f l) most deep = if deep < 0 ∨ f < -1000 ∨ 1000 < f ∨ 20 < l.length then -1 else smallL l (most - 1) (deep - 1)) := by show _ = _; rw [smallT_eq]
    obtain ⟨z, hz⟩ : ∃ z, z = smallT (.mk f l) most deep := ⟨_, rfl⟩
    rw [← hz] at HD ⊢
    obtain ⟨c1, c2⟩ := HX.out w1 (bW _)
    clear hz hw1 x1 hl ht ih
    simp only
    by_cases hbad : deep < 0 ∨ f < -1000 ∨ 1000 < f ∨ 20 < n
    · have HE : Hid (z = -1) := by show _ = _; rw [HD.out, if_pos (by have := HL.out.1; omega)]
      rw [HE.out]
      have HB0 : Hid (Below w.heap.size w w1) := b1
      by_cases q1 : deep < 0
      · go_enter Try.func11, Try.ntmps11
        go_wp2
        go_ret
        exact ⟨rfl, bA (bW _) _⟩
      · by_cases q2 : f < -1000
        · go_enter Try.func11, Try.ntmps11
          go_wp2
          go_ret
          exact ⟨rfl, bA (bW _) _⟩
        · by_cases q3 : 1000 < f
          · go_enter Try.func11, Try.ntmps11
            go_wp2
            go_ret
            exact ⟨rfl, bA (bW _) _⟩
          · have q4 : 20 < n := by omega
            go_enter Try.func11, Try.ntmps11
            go_wp2
            go_ret
            exact ⟨rfl, bA (bW _) _⟩
    · have HE : Hid (z = smallL l (most - 1) (deep - 1)) := by show _ = _; rw [HD.out, if_neg (by have := HL.out.1; omega)]
      have q1 : ¬ deep < 0 := by omega
      have q2 : ¬ f < -1000 := by omega
      have q3 : ¬ 1000 < f := by omega
      have q4 : ¬ 20 < n := by omega
      clear hbad HD
      go_enter Try.func11, Try.ntmps11
      go_wp2_with fail
      rw [← HW.out]
      go_loopw [1, 7] (fun u i wr => ∃ (k : Nat) (m : Int), u = .int .i64 m ∧ i = .int .i64 (k : Int) ∧ k ≤ n ∧ -1 ≤ m ∧ m ≤ 60 ∧ Below w1.heap.size w1 wr ∧ smallL (l.drop k) m (deep - 1) = z) (fun u i _ => n - (intOf i).toNat)
      case atStart => exact ⟨0, most - 1, rfl, rfl, by omega, by omega, by omega, bW _, by rw [HE.out]; simp⟩
      case round =>
        obtain ⟨k, m, rfl, rfl, hk, hm3, hm4, hbr, hsm⟩ := hrel
        have HSM := hid hsm
        obtain ⟨d1, d2⟩ := HX.out wr hbr
        clear hsm c1 c2
        by_cases hlt : k < n
        · by_cases hmn : 0 ≤ m
          · obtain ⟨b, off, s, a', n', c', rfl, hU, hlt', hs, hT, e1, e2⟩ := (HLs.out wr hbr).at hlt
            have HS := hid hs
            have hbd := small_bounds s m (deep - 1) hmn
            have HR : Hid (smallL (l.drop (k + 1)) (smallT s m (deep - 1)) (deep - 1) = z) := by
              show _ = _
              rw [← HSM.out, drop_at HS.out, smallL_cons, if_neg (by omega)]
            have HCall : Hid (Calls Try.prog 11 #[.agg #[.int .i64 s.f, .slice a' n' c'], .int .i64 m, .int .i64 (deep - 1)] wr fun e w' => e = .returned (.int .i64 (smallT s m (deep - 1))) ∧ Below wr.heap.size wr w') := HI.out s (List.mem_of_getElem? HS.out) U a' n' c' m (deep - 1) wr hT hmn hm4 (by omega) (by omega)
            obtain ⟨y, hy⟩ : ∃ y, y = smallT s m (deep - 1) := ⟨_, rfl⟩
            rw [← hy] at HR HCall hbd
            clear hs hT hy
            go_wp2_with (go_at_call 11; refine HCall.out.mono ?_; rintro e w2 ⟨rfl, hb2⟩)
            go_roundw
            case rel => exact ⟨k + 1, y, rfl, by go_num, by omega, by omega, by omega, bN hbr hb2, HR.out⟩
            case measure => simp [intOf]; omega
          · have HZ : Hid (z = m) := by show _ = _; rw [← HSM.out, smallL_neg _ _ (by omega)]
            go_wp2
            go_ret
            exact ⟨by rw [HZ.out]; rfl, bN b1 hbr⟩
        · have HZ : Hid (z = m) := by
            show _ = _
            rw [← HSM.out, List.drop_eq_nil_of_le (by have := HL.out.1; omega), smallL_nil]
          go_wp2
          go_ret
          exact ⟨by rw [HZ.out]; rfl, bN b1 hbr⟩
end Go.Proofs.Ytmdhefepaolhcaa
