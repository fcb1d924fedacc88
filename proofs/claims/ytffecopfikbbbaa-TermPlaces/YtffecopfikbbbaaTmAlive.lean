/-
  soriteslaw06.Fine and alive.
-/
import Derived.Test.YtffecopfikbbbaaTmFine
namespace Go.Proofs.Ytffecopfikbbbaa
open Go.RowKit
set_option linter.unusedVariables false
set_option linter.unusedSimpArgs false

/-- Each of these is small. -/
def fineB (l : List Tm) : Bool := l.all fun t => decide (0 ≤ smallT t 60 20)

set_option maxRecDepth 100000 in
set_option maxHeartbeats 800000 in
theorem fine_any {U : Nat → Prop} {l : List Tm} {a : Option Addr} {n c : Nat} {w : World} (h : Las U w l a n c) (hn : n ≤ 100) :
    Calls Try.prog 10 #[.slice a n c] w fun e w' => e = .returned (.bool (fineB l)) ∧ Below w.heap.size w w' := by
  have HL := hid h.len
  have HA : Hid (∀ V, Below w.heap.size w V → Las U V l a n c) := fun V hb => h.bw hb
  clear h
  go_enter Try.func10, Try.ntmps10
  go_wp2
  go_loopw [3] (fun i wr => ∃ k : Nat, i = .int .i64 (k : Int) ∧ k ≤ n ∧ Below w.heap.size w wr ∧ fineB (l.take k) = true) (fun i _ => n - (intOf i).toNat)
  case atStart => exact ⟨0, rfl, by omega, bW _, by simp [fineB]⟩
  case round =>
    obtain ⟨k, rfl, hk, hbr, hf⟩ := hrel
    have HF := hid hf
    clear hf
    by_cases hlt : k < n
    · obtain ⟨b, off, s, a', n', c', rfl, hU, hlt', hs, hT, e1, e2⟩ := (HA.out wr hbr).at hlt
      have HS := hid hs
      have HCall : Hid (Calls Try.prog 31 #[.agg #[.int .i64 s.f, .slice a' n' c'], .int .i64 60, .int .i64 20] wr fun e w' => e = .returned (.int .i64 (smallT s 60 20)) ∧ Below wr.heap.size wr w') := small_any s U a' n' c' 60 20 wr hT (by decide) (by decide) (by decide) (by decide)
      have HT1 : Hid (fineB (l.take (k + 1)) = (fineB (l.take k) && decide (0 ≤ smallT s 60 20))) := by
        show _ = _
        rw [List.take_add_one, HS.out]
        simp [fineB]
      obtain ⟨y, hy⟩ : ∃ y, y = smallT s 60 20 := ⟨_, rfl⟩
      have HY : Hid (y = smallT s 60 20) := hy
      rw [← hy] at HT1 HCall
      clear hs hT hy
      by_cases hy0 : y < 0
      · go_wp2_with (go_at_call 31; refine HCall.out.mono ?_; rintro e w2 ⟨rfl, hb2⟩)
        go_ret
        refine ⟨?_, bN hbr hb2⟩
        rw [show fineB l = false from ?_]
        · rfl
        · unfold fineB
          rw [Bool.eq_false_iff]
          intro hall
          have := List.all_eq_true.1 hall s (List.mem_of_getElem? HS.out)
          rw [← HY.out] at this
          have := of_decide_eq_true this
          omega
      · have HN : Hid (fineB (l.take (k + 1)) = true) := by
          show _ = _
          rw [HT1.out, HF.out, Bool.true_and]
          exact decide_eq_true (by omega)
        go_wp2_with (go_at_call 31; refine HCall.out.mono ?_; rintro e w2 ⟨rfl, hb2⟩)
        go_roundw
        case rel => exact ⟨k + 1, by go_num, by omega, bN hbr hb2, HN.out⟩
        case measure => simp [intOf]; omega
    · have HE : Hid (fineB l = true) := by
        show _ = _
        rw [← HF.out, List.take_of_length_le (by have := HL.out.1; omega)]
      go_wp2
      go_ret
      exact ⟨by rw [HE.out]; rfl, hbr⟩

theorem PsT.at {w : World} {base : Nat} {a : Option Addr} {n c : Nat} {ps : List (List Int)} (h : PsT w base (.slice a n c) ps) {i : Nat} (hi : i < ps.length) :
    ∃ (b off : Nat) (x : Pr), a = some ⟨b, off, none⟩ ∧ ps[i]? = some x.p ∧ x.ok (fun b => base ≤ b) w ∧ w.cell? ⟨b, off + i, none⟩ = some (.slice x.a x.n x.c) := by
  obtain ⟨xs, h1, h2, h3⟩ := h
  obtain ⟨a', c', e1, e2, e3, e4, e5⟩ := ownsRow_cs h1
  cases e1
  have hxl : xs.length = ps.length := by rw [← h2, List.length_map]
  have hix : i < xs.length := by omega
  rcases e5 with h | ⟨b, off, ha, hlt, hc⟩
  · rw [List.map_eq_nil_iff] at h; rw [h] at hix; simp at hix
  · refine ⟨b, off, xs[i], ha, ?_, (h3 _ (List.getElem_mem hix)).keep fun b h _ => ⟨h.1, rfl⟩, ?_⟩
    · rw [← h2, List.getElem?_map, List.getElem?_eq_getElem hix]; rfl
    · rw [hc i (by rw [List.length_map]; exact hix), List.getElem?_map, List.getElem?_eq_getElem hix]; rfl

theorem Pr.ok.at {U : Nat → Prop} {w : World} {x : Pr} (h : x.ok U w) {i : Nat} (hi : i < x.n) : ∃ b off z, x.a = some ⟨b, off, none⟩ ∧ U b ∧ b < w.heap.size ∧ x.p[i]? = some z ∧ w.cell? ⟨b, off + i, none⟩ = some (.int .i64 z) := by
  obtain ⟨h1, h2, h3, h4, h5⟩ := h
  have hip : i < x.p.length := by omega
  rcases h5 with h | ⟨b, off, ha, hu, hlt, hc⟩
  · unfold ints at h; rw [List.map_eq_nil_iff] at h; rw [h] at hip; simp at hip
  · refine ⟨b, off, x.p[i], ha, hu, hlt, List.getElem?_eq_getElem hip, ?_⟩
    rw [hc i (by unfold ints; rw [List.length_map]; exact hip)]
    unfold ints
    rw [List.getElem?_map, List.getElem?_eq_getElem hip]; rfl

/-- The chapter's example. -/
def tm0 : Tm := .mk 1 [.mk (-1) [], .mk 2 []]
theorem tm0_size : tm0.size = 3 := by simp [tm0, Tm.size, Tm.flat]
theorem tm0_places : tm0.places = [[], [0], [1]] := by simp [tm0, Tm.places, placesW]

theorem tat_nil {U : Nat → Prop} {w : World} (f : Int) (hf : -9223372036854775808 ≤ f ∧ f ≤ 9223372036854775807) : Tat U w (.mk f []) none 0 0 := tat_iff.2 ⟨hf, Las.nil _ _⟩

set_option maxRecDepth 100000 in
set_option maxHeartbeats 800000 in
theorem alive_any (w : World) : Calls Try.prog 9 #[] w fun e w' => e = .returned (.bool true) ∧ Below w.heap.size w w' := by
  obtain ⟨w1, hw1⟩ : ∃ w1, w1 = w.alloc (.cells #[.int .i64 (-1), .slice none 0 0, .int .i64 2, .slice none 0 0] 29) := ⟨_, rfl⟩
  obtain ⟨w2, hw2⟩ : ∃ w2, w2 = w1.alloc (.cells #[.int .i64 1, .slice (some ⟨w.heap.size, 0, none⟩) 2 2] 29) := ⟨_, rfl⟩
  have s1 : w1.heap.size = w.heap.size + 1 := by rw [hw1]; simp
  have b1 : Below w.heap.size w w1 := by rw [hw1]; exact bA (bW _) _
  have b2 : Below w1.heap.size w1 w2 := by rw [hw2]; exact bA (bW _) _
  have s2 : w2.heap.size = w.heap.size + 2 := by rw [hw2]; simp; omega
  have x1 : w2.heap[w.heap.size]? = some (.cells #[.int .i64 (-1), .slice none 0 0, .int .i64 2, .slice none 0 0] 29 (0, 0)) := by
    rw [b2.block _ (by omega), hw1]; exact World.alloc_heap_new _ _
  have x2 : w2.heap[w.heap.size + 1]? = some (.cells #[.int .i64 1, .slice (some ⟨w.heap.size, 0, none⟩) 2 2] 29 (0, 0)) := by
    rw [hw2, ← s1]; exact World.alloc_heap_new _ _
  have HW : Hid (w2 = (w.alloc (.cells #[.int .i64 (-1), .slice none 0 0, .int .i64 2, .slice none 0 0] 29)).alloc (.cells #[.int .i64 1, .slice (some ⟨w.heap.size, 0, none⟩) 2 2] 29)) := by show _ = _; rw [hw2, hw1]
  have ht : Tat (fun _ => True) w2 tm0 (some ⟨w.heap.size, 0, none⟩) 2 2 := by
    refine tat_iff.2 ⟨by decide, rfl, Nat.le_refl _, by unfold maxLen; omega, (fun h => by cases h), [.int .i64 (-1), .slice none 0 0, .int .i64 2, .slice none 0 0], .inr ⟨w.heap.size, 0, rfl, trivial, by omega, fun i hi => ?_⟩, ?_⟩
    · match i, hi with
      | 0, _ => simp [World.cell?, x1]
      | 1, _ => simp [World.cell?, x1]
      | 2, _ => simp [World.cell?, x1]
      | 3, _ => simp [World.cell?, x1]
    · exact Ecs.cons_iff.2 ⟨none, 0, 0, _, rfl, tat_nil _ (by decide), Ecs.cons_iff.2 ⟨none, 0, 0, [], rfl, tat_nil _ (by decide), Ecs.nil_iff.2 rfl⟩⟩
  have hb0 : Below w.heap.size w w2 := bN b1 b2
  have HP : Hid (Calls Try.prog 24 #[.agg #[.int .i64 1, .slice (some ⟨w.heap.size, 0, none⟩) 2 2]] w2 fun e w' => ∃ a' c', e = .returned (.slice a' 3 c') ∧ PsT w' w2.heap.size (.slice a' 3 c') [[], [0], [1]] ∧ Below w2.heap.size w2 w') := by
    have := places_any ht (by rw [tm0_size]; decide)
    rw [tm0_size, tm0_places] at this
    exact this
  have HZ : Hid (∀ V, Below w2.heap.size w2 V → Calls Try.prog 19 #[.agg #[.int .i64 1, .slice (some ⟨w.heap.size, 0, none⟩) 2 2]] V fun e w' => e = .returned (.int .i64 3) ∧ Below V.heap.size V w') := fun V hb => by
    have := size_any (ht.bw hb) (by rw [tm0_size]; decide)
    rw [tm0_size] at this
    exact this
  have HX : Hid (∀ V, Below w2.heap.size w2 V → V.cell? ⟨w.heap.size + 1, 0, none⟩ = some (.int .i64 1) ∧ V.cell? ⟨w.heap.size + 1, 1, none⟩ = some (.slice (some ⟨w.heap.size, 0, none⟩) 2 2)) := fun V hb => cell2 ((hb.block _ (by omega)).trans x2)
  clear hw1 hw2 ht x1 x2 b1 b2 s1
  go_enter Try.func9, Try.ntmps9
  go_wp2_with fail
  rw [← HW.out]
  refine HP.out.mono ?_
  rintro e w3 ⟨a', c', rfl, hp, hb3⟩
  obtain ⟨b0, off0, p0, rfl, hp0, hok0, q0⟩ := hp.at (i := 0) (by decide)
  obtain ⟨b2, off2, p2, e2, hp2, hok2, q2⟩ := hp.at (i := 2) (by decide)
  cases e2
  have hn0 : p0.n = 0 := by have h1 := hok0.1; simp at hp0; rw [h1]; simp [hp0]
  have hn2 : p2.n = 1 := by have h1 := hok2.1; simp at hp2; rw [h1, ← hp2]; rfl
  obtain ⟨b4, off4, z4, e4, _, _, hz4, q4⟩ := hok2.at (i := 0) (by omega)
  have hz : z4 = 1 := by simp at hp2; rw [← hp2] at hz4; simpa using hz4.symm
  subst hz
  rw [hn0, Nat.add_zero] at q0
  rw [Nat.add_zero] at q4
  rw [hn2, e4] at q2
  obtain ⟨c1, c2⟩ := HX.out w3 hb3
  clear hn0 hn2 hok0 hok2 hp e4 hz4 hp0 hp2
  go_wp2_with (go_at_call 19; refine (HZ.out _ hb3).mono ?_; rintro e w4 ⟨rfl, hb4⟩)
  go_ret
  exact ⟨rfl, bN (bN hb0 hb3) hb4⟩
end Go.Proofs.Ytffecopfikbbbaa
