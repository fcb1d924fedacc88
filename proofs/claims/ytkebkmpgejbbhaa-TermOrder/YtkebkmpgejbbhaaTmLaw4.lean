/-
  The walk of TermOrder.
-/
import Derived.Test.YtkebkmpgejbbhaaTmDef
namespace Go.Proofs.Ytkebkmpgejbbhaa
open Go.RowKit
set_option linter.unusedVariables false
set_option linter.unusedSimpArgs false

set_option maxRecDepth 100000 in
set_option maxHeartbeats 4000000 in
theorem termOrder_walk (ta tb tc : Tm) (a b c : Option Addr) (na ca nb cb nc cc : Nat) (w : World) (ha : Tat (fun _ => True) w ta a na ca) (hb : Tat (fun _ => True) w tb b nb cb) (hc : Tat (fun _ => True) w tc c nc cc) :
    Calls Try.prog 6 #[.agg #[.int .i64 ta.f, .slice a na ca], .agg #[.int .i64 tb.f, .slice b nb cb], .agg #[.int .i64 tc.f, .slice c nc cc]] w fun e w' => e = .returned (.bool true) ∧ Below w.heap.size w w' := by
  obtain ⟨w1, hw1⟩ : ∃ w1, w1 = w.alloc (.cells #[.int .i64 ta.f, .slice a na ca] 24) := ⟨_, rfl⟩
  obtain ⟨w1', hw1'⟩ : ∃ w1', w1' = w1.alloc (.cells #[.int .i64 tb.f, .slice b nb cb] 24) := ⟨_, rfl⟩
  obtain ⟨w2, hw2⟩ : ∃ w2, w2 = w1'.alloc (.cells #[.int .i64 tc.f, .slice c nc cc] 24) := ⟨_, rfl⟩
  have s1 : w1.heap.size = w.heap.size + 1 := by rw [hw1]; simp
  have s1' : w1'.heap.size = w.heap.size + 1 + 1 := by rw [hw1']; simp; omega
  have b1 : Below w.heap.size w w1 := by rw [hw1]; exact bA (bW _) _
  have b1' : Below w1.heap.size w1 w1' := by rw [hw1']; exact bA (bW _) _
  have b2 : Below w1'.heap.size w1' w2 := by rw [hw2]; exact bA (bW _) _
  have x1 : Bx w2 24 w.heap.size ta a na ca := Bx.bw (Bx.bw (by rw [hw1]; exact Bx.new _ _ _ _ _ _) b1') b2
  have x2 : Bx w2 24 (w.heap.size + 1) tb b nb cb := Bx.bw (by rw [hw1', ← s1]; exact Bx.new _ _ _ _ _ _) b2
  have x3 : Bx w2 24 (w.heap.size + 1 + 1) tc c nc cc := by rw [hw2, ← s1']; exact Bx.new _ _ _ _ _ _
  have hb0 : Below w.heap.size w w2 := bN (bN b1 b1') b2
  have ha2 := ha.bw hb0
  have hb2' := hb.bw hb0
  have hc2' := hc.bw hb0
  have HW : Hid (w2 = ((w.alloc (.cells #[.int .i64 ta.f, .slice a na ca] 24)).alloc (.cells #[.int .i64 tb.f, .slice b nb cb] 24)).alloc (.cells #[.int .i64 tc.f, .slice c nc cc] 24)) := by show _ = _; rw [hw2, hw1', hw1]
  have HX1 : Hid (∀ V, Below w2.heap.size w2 V → Bx V 24 w.heap.size ta a na ca) := fun V h => x1.bw h
  have HX2 : Hid (∀ V, Below w2.heap.size w2 V → Bx V 24 (w.heap.size + 1) tb b nb cb) := fun V h => x2.bw h
  have HX3 : Hid (∀ V, Below w2.heap.size w2 V → Bx V 24 (w.heap.size + 1 + 1) tc c nc cc) := fun V h => x3.bw h
  have HF : Hid (∀ V, Below w2.heap.size w2 V → Calls Try.prog 10 #[.slice (some ⟨V.heap.size, 0, none⟩) 3 3] (V.alloc (.cells #[.int .i64 ta.f, .slice a na ca, .int .i64 tb.f, .slice b nb cb, .int .i64 tc.f, .slice c nc cc] 24)) fun e w' => e = .returned (.bool (fineB [ta, tb, tc])) ∧ Below V.heap.size V w') := fun V h => (fine_any (las_three (ha2.bw h) (hb2'.bw h) (hc2'.bw h)) (by decide)).mono fun e w' h => ⟨h.1, bN (bA (bW _) _) h.2⟩
  have HA : Hid (∀ V, Below w2.heap.size w2 V → Tat (fun _ => True) V ta a na ca ∧ Tat (fun _ => True) V tb b nb cb ∧ Tat (fun _ => True) V tc c nc cc) := fun V h => ⟨ha2.bw h, hb2'.bw h, hc2'.bw h⟩
  clear hw1 hw1' hw2 s1 s1' b1 b1' b2 x1 x2 x3 ha2 hb2' hc2' ha hb hc
  go_enter Try.func6, Try.ntmps6
  go_wp2_with fail
  rw [← HW.out]
  refine (alive_any w2).mono ?_
  rintro e w3 ⟨rfl, hb3⟩
  obtain ⟨c1, c2⟩ := (HX1.out w3 hb3).cells
  obtain ⟨c3, c4⟩ := (HX2.out w3 hb3).cells
  obtain ⟨c5, c6⟩ := (HX3.out w3 hb3).cells
  by_cases hfine : fineB [ta, tb, tc] = false
  · rw [hfine] at HF
    go_wp2_with (go_at_call 10; refine (HF.out _ hb3).mono ?_; rintro e w4 ⟨rfl, hb4⟩)
    go_ret
    exact ⟨rfl, bN (bN hb0 hb3) hb4⟩
  · have hfine' : fineB [ta, tb, tc] = true := by simpa using hfine
    rw [hfine'] at HF
    have hsm : 0 ≤ smallT ta 60 20 ∧ 0 ≤ smallT tb 60 20 ∧ 0 ≤ smallT tc 60 20 := by simpa [fineB] using hfine'
    have wta := fine_wt hsm.1
    have wtb := fine_wt hsm.2.1
    have wtc := fine_wt hsm.2.2
    clear hfine hfine'
    go_wp2_with (go_at_call 10; refine (HF.out _ hb3).mono ?_; rintro e w4 ⟨rfl, hb4⟩)
    have hq0 : Below w2.heap.size w2 w4 := bN hb3 hb4
    clear c1 c2 c3 c4 c5 c6 hb3 hb4 HF
    have HOa : Hid (∀ V, Below w4.heap.size w4 V → Calls Try.prog 11 #[.agg #[.int .i64 ta.f, .slice a na ca]] V (OfSays V ta)) := fun V h => of_any ta _ a na ca V (HA.out V (bN hq0 h)).1 (by omega)
    have HOb : Hid (∀ V, Below w4.heap.size w4 V → Calls Try.prog 11 #[.agg #[.int .i64 tb.f, .slice b nb cb]] V (OfSays V tb)) := fun V h => of_any tb _ b nb cb V (HA.out V (bN hq0 h)).2.1 (by omega)
    have HOc : Hid (∀ V, Below w4.heap.size w4 V → Calls Try.prog 11 #[.agg #[.int .i64 tc.f, .slice c nc cc]] V (OfSays V tc)) := fun V h => of_any tc _ c nc cc V (HA.out V (bN hq0 h)).2.2 (by omega)
    refine wp_def3 22 24 26 23 25 27 7 8 9 3 4 5 ta tb tc w.heap.size (w.heap.size + 1) (w.heap.size + 1 + 1) a b c na nb nc ca cb cc ?hops ?hs rfl (HX1.out w4 hq0) HOa.out rfl (HX2.out w4 hq0) HOb.out rfl (HX3.out w4 hq0) HOc.out ?_
    case hops =>
      exact ⟨rfl, by kernel_rfl, fun i hi => match i, hi with | 0, _ => ⟨_, _, _, rfl⟩ | 1, _ => ⟨_, _, _, rfl⟩ | 2, _ => ⟨_, _, _, rfl⟩, fun i hi => match i, hi with | 0, _ => ⟨_, _, _, _, rfl, by kernel_rfl⟩ | 1, _ => ⟨_, _, _, _, rfl, by kernel_rfl⟩ | 2, _ => ⟨_, _, _, _, rfl, by kernel_rfl⟩, fun i hi => match i, hi with | 0, _ => ⟨_, _, _, rfl⟩ | 1, _ => ⟨_, _, _, rfl⟩ | 2, _ => ⟨_, _, _, rfl⟩, fun i hi => match i, hi with | 0, _ => ⟨_, _, _, rfl, by kernel_rfl, by kernel_rfl⟩ | 1, _ => ⟨_, _, _, rfl, by kernel_rfl, by kernel_rfl⟩ | 2, _ => ⟨_, _, _, rfl, by kernel_rfl, by kernel_rfl⟩⟩
    case hs =>
      show Slots 3 94 _ _ _ _
      exact slots_of (by decide)
    intro w5 ax nx cx gx ay ny cy gy az nz cz gz bx tx by_ ty bz tz b5
    simp only [List.setIfInBounds_toArray, List.set_cons_succ, List.set_cons_zero]
    have HEND : Hid (Below w.heap.size w w5) := bN (bN hb0 hq0) b5
    have HT : Hid (∀ V, Below w5.heap.size w5 V → Tat (fun _ => True) V ta ax nx cx ∧ Tat (fun _ => True) V tb ay ny cy ∧ Tat (fun _ => True) V tc az nz cz) := fun V h => ⟨tx.bw h, ty.bw h, tz.bw h⟩
    have HB : Hid (∀ V, Below w5.heap.size w5 V → (V.cell? ⟨gx, 0, none⟩ = some (.int .i64 ta.f) ∧ V.cell? ⟨gx, 1, none⟩ = some (.slice ax nx cx)) ∧ (V.cell? ⟨gy, 0, none⟩ = some (.int .i64 tb.f) ∧ V.cell? ⟨gy, 1, none⟩ = some (.slice ay ny cy)) ∧ (V.cell? ⟨gz, 0, none⟩ = some (.int .i64 tc.f) ∧ V.cell? ⟨gz, 1, none⟩ = some (.slice az nz cz))) := fun V h => ⟨(bx.bw h).cells, (by_.bw h).cells, (bz.bw h).cells⟩
    have HSZ : Hid (ta.size ≤ 60 ∧ tb.size ≤ 60 ∧ tc.size ≤ 60) := ⟨Nat.le_trans ta.size_wt wta, Nat.le_trans tb.size_wt wtb, Nat.le_trans tc.size_wt wtc⟩
    have HXY : Hid (∀ V, Below w5.heap.size w5 V → Calls Try.prog 18 #[.agg #[.int .i64 ta.f, .slice ax nx cx], .agg #[.int .i64 tb.f, .slice ay ny cy]] V fun e w' => e = .returned (.int .i64 (cmpT ta tb)) ∧ Below V.heap.size V w') := fun V h => compare_any _ _ _ _ _ _ _ _ V (tx.bw h) (ty.bw h)
    have HYZ : Hid (∀ V, Below w5.heap.size w5 V → Calls Try.prog 18 #[.agg #[.int .i64 tb.f, .slice ay ny cy], .agg #[.int .i64 tc.f, .slice az nz cz]] V fun e w' => e = .returned (.int .i64 (cmpT tb tc)) ∧ Below V.heap.size V w') := fun V h => compare_any _ _ _ _ _ _ _ _ V (ty.bw h) (tz.bw h)
    have HXZ : Hid (∀ V, Below w5.heap.size w5 V → Calls Try.prog 18 #[.agg #[.int .i64 ta.f, .slice ax nx cx], .agg #[.int .i64 tc.f, .slice az nz cz]] V fun e w' => e = .returned (.int .i64 (cmpT ta tc)) ∧ Below V.heap.size V w') := fun V h => compare_any _ _ _ _ _ _ _ _ V (tx.bw h) (tz.bw h)
    have HYX : Hid (∀ V, Below w5.heap.size w5 V → Calls Try.prog 18 #[.agg #[.int .i64 tb.f, .slice ay ny cy], .agg #[.int .i64 ta.f, .slice ax nx cx]] V fun e w' => e = .returned (.int .i64 (-cmpT ta tb)) ∧ Below V.heap.size V w') := fun V h => by
      rw [← cmpT_turn]; exact compare_any _ _ _ _ _ _ _ _ V (ty.bw h) (tx.bw h)
    have HXX : Hid (∀ V, Below w5.heap.size w5 V → Calls Try.prog 18 #[.agg #[.int .i64 ta.f, .slice ax nx cx], .agg #[.int .i64 ta.f, .slice ax nx cx]] V fun e w' => e = .returned (.int .i64 0) ∧ Below V.heap.size V w') := fun V h => by
      rw [← cmpT_self ta]; exact compare_any _ _ _ _ _ _ _ _ V (tx.bw h) (tx.bw h)
    have HCL : Hid (∀ V, Below w5.heap.size w5 V → Calls Try.prog 23 #[.agg #[.int .i64 ta.f, .slice ax nx cx]] V fun e w' => ∃ ak nk ck, e = .returned (.agg #[.int .i64 ta.f, .slice ak nk ck]) ∧ Tat (fun _ => True) w' ta.strip ak nk ck ∧ Below V.heap.size V w') := fun V h => (clone_any ta ax nx cx V (tx.bw h) (by have := HSZ.out.1; omega)).mono fun e w' hc => by
      obtain ⟨ak, nk, ck, h1, h2, h3⟩ := hc.tat tx.wf
      exact ⟨ak, nk, ck, h1, h2.mono fun _ _ _ => trivial, h3⟩
    have HSM : Hid (∀ V ak nk ck, Below w5.heap.size w5 V → Tat (fun _ => True) V ta.strip ak nk ck → Calls Try.prog 17 #[.agg #[.int .i64 ta.f, .slice ak nk ck], .agg #[.int .i64 ta.f, .slice ax nx cx]] V fun e w' => e = .returned (.bool true) ∧ Below V.heap.size V w') := fun V ak nk ck h ht => by
      have h1 := same_any ta.strip ta _ _ _ _ _ _ V ht (tx.bw h)
      rw [Tm.strip_f, show sameT ta.strip ta = true by unfold sameT; rw [cmpT_strip]; rfl] at h1
      exact h1
    have HG : Hid (Goon (cmpT ta tb) (cmpT tb tc) (cmpT ta tc)) := cmpT_trans ta tb tc
    have H3 := hid (And.intro (cmpT_three ta tb) (And.intro (cmpT_three tb tc) (cmpT_three ta tc)))
    obtain ⟨P, hP⟩ : ∃ P, P = cmpT ta tb := ⟨_, rfl⟩
    obtain ⟨Q, hQ⟩ : ∃ Q, Q = cmpT tb tc := ⟨_, rfl⟩
    obtain ⟨R, hR⟩ : ∃ R, R = cmpT ta tc := ⟨_, rfl⟩
    rw [← hP] at HXY HYX HG H3
    rw [← hQ] at HYZ HG H3
    rw [← hR] at HXZ HG H3
    clear hP hQ hR HOa HOb HOc HX1 HX2 HX3 HA HW hsm wta wtb wtc bx by_ bz
    have hq : Below w5.heap.size w5 w5 := bW _
    go_wp2_with fail
    go_region_held3 (fun w' => (w'.cell? ⟨gx, 0, none⟩ = some (.int .i64 ta.f) ∧ w'.cell? ⟨gx, 1, none⟩ = some (.slice ax nx cx)) ∧ (w'.cell? ⟨gy, 0, none⟩ = some (.int .i64 tb.f) ∧ w'.cell? ⟨gy, 1, none⟩ = some (.slice ay ny cy)) ∧ (w'.cell? ⟨gz, 0, none⟩ = some (.int .i64 tc.f) ∧ w'.cell? ⟨gz, 1, none⟩ = some (.slice az nz cz))) (first | (refine HB.out _ ?_; with_reducible exact hq) | (refine HB.out _ ?_; with_reducible exact bD hq))
      (first
        | (go_at_call 18; with_reducible refine Calls.mono (HXY.out _ ?_) ?_; (first | with_reducible exact hq | with_reducible exact bD hq); rintro e w6 ⟨rfl, hb6⟩; replace hq := bN (by first | with_reducible exact hq | with_reducible exact bD hq) hb6; clear hb6; dsimp only)
        | (go_at_call 18; with_reducible refine Calls.mono (HYZ.out _ ?_) ?_; (first | with_reducible exact hq | with_reducible exact bD hq); rintro e w6 ⟨rfl, hb6⟩; replace hq := bN (by first | with_reducible exact hq | with_reducible exact bD hq) hb6; clear hb6; dsimp only)
        | (go_at_call 18; with_reducible refine Calls.mono (HXZ.out _ ?_) ?_; (first | with_reducible exact hq | with_reducible exact bD hq); rintro e w6 ⟨rfl, hb6⟩; replace hq := bN (by first | with_reducible exact hq | with_reducible exact bD hq) hb6; clear hb6; dsimp only))
    go_wp2_with fail
    have hneg : IntKind.i64.wrap (-P) = -P := by rcases H3.out.1 with h | h | h <;> rw [h] <;> decide
    have hneq : (-P != -P) = false := by simp
    go_region_held3 (fun w' => (w'.cell? ⟨gx, 0, none⟩ = some (.int .i64 ta.f) ∧ w'.cell? ⟨gx, 1, none⟩ = some (.slice ax nx cx)) ∧ (w'.cell? ⟨gy, 0, none⟩ = some (.int .i64 tb.f) ∧ w'.cell? ⟨gy, 1, none⟩ = some (.slice ay ny cy)) ∧ (w'.cell? ⟨gz, 0, none⟩ = some (.int .i64 tc.f) ∧ w'.cell? ⟨gz, 1, none⟩ = some (.slice az nz cz))) (first | (refine HB.out _ ?_; with_reducible exact hq) | (refine HB.out _ ?_; with_reducible exact bD hq))
      (first
        | (go_at_call 18; with_reducible refine Calls.mono (HYX.out _ ?_) ?_; (first | with_reducible exact hq | with_reducible exact bD hq); rintro e w7 ⟨rfl, hb7⟩; replace hq := bN (by first | with_reducible exact hq | with_reducible exact bD hq) hb7; clear hb7; dsimp only)
        | (go_at_call 18; with_reducible refine Calls.mono (HXX.out _ ?_) ?_; (first | with_reducible exact hq | with_reducible exact bD hq); rintro e w7 ⟨rfl, hb7⟩; replace hq := bN (by first | with_reducible exact hq | with_reducible exact bD hq) hb7; clear hb7; dsimp only)
        | (go_at_call 23; with_reducible refine Calls.mono (HCL.out _ ?_) ?_; (first | with_reducible exact hq | with_reducible exact bD hq); rintro e w7 ⟨ak, nk, ck, rfl, htk, hb7⟩; replace hq := bN (by first | with_reducible exact hq | with_reducible exact bD hq) hb7; dsimp only)
        | (go_at_call 17; with_reducible refine Calls.mono (HSM.out _ ak nk ck ?_ htk) ?_; (first | with_reducible exact hq | with_reducible exact bD hq); rintro e w8 ⟨rfl, hb8⟩; replace hq := bN (by first | with_reducible exact hq | with_reducible exact bD hq) hb8; dsimp only))
    go_upto_region 9 with fail
    go_cut [75] from 56 to 74 (fun x wcut => x = .bool false ∧ wcut = w8)
    case first =>
      obtain ⟨p3, q3, r3⟩ := H3.out
      have hg := HG.out
      unfold Goon at hg
      clear H3 HG HXY HYX HYZ HXZ HXX HCL HSM HT HB HSZ HEND hneg hneq tx ty tz htk hb7 hb8 hq b5 hq0 hb0
      rcases p3 with rfl | rfl | rfl <;> rcases q3 with rfl | rfl | rfl <;> rcases r3 with rfl | rfl | rfl
      all_goals first
        | (exfalso; revert hg; decide)
        | (clear hg; go_wp2_with fail; exact ⟨rfl, rfl⟩)
        | (clear hg; go_wp2_with fail; go_meet; exact ⟨rfl, rfl⟩)
    case rest =>
      obtain ⟨rfl, rfl⟩ := hcut
      obtain ⟨⟨c1, c2⟩, ⟨c3, c4⟩, _⟩ := HB.out wc hq
      obtain ⟨wv, hwv⟩ : ∃ wv, wv = (wc.alloc (.cells #[.int .i64 ta.f, .slice ax nx cx, .int .i64 tb.f, .slice ay ny cy] 29)).alloc (.cells #[.int .i64 (-3), .slice (some ⟨wc.heap.size, 0, none⟩) 2 2] 29) := ⟨_, rfl⟩
      have hbv : Below wc.heap.size wc wv := by rw [hwv]; exact bA (bA (bW _) _) _
      have htv : Tat (fun _ => True) wv (.mk (-3) [ta, tb]) (some ⟨wc.heap.size, 0, none⟩) 2 2 := by
        refine tat_iff.2 ⟨⟨by show _ ≤ (-3 : Int); decide, by show (-3 : Int) ≤ _; decide⟩, ?_⟩
        rw [hwv]
        exact (las_two (tx.bw hq) (ty.bw hq)).bw (bA (bW _) _)
      have hxv : Bx wv 29 (wc.heap.size + 1) (.mk (-3) [ta, tb]) (some ⟨wc.heap.size, 0, none⟩) 2 2 := by
        rw [hwv, show wc.heap.size + 1 = (wc.alloc (.cells #[.int .i64 ta.f, .slice ax nx cx, .int .i64 tb.f, .slice ay ny cy] 29)).heap.size by simp]
        exact Bx.new _ _ (.mk (-3) [ta, tb]) _ _ _
      have HWV := hid hwv
      have HV1 : Hid (Calls Try.prog 17 #[.agg #[.int .i64 (-3), .slice (some ⟨wc.heap.size, 0, none⟩) 2 2], .agg #[.int .i64 (-3), .slice none 0 0]] wv fun e w' => e = .returned (.bool true) ∧ Below wv.heap.size wv w') := by
        have h1 := same_any (.mk (-3) [ta, tb]) (.mk (-3) []) _ none _ _ 0 0 wv htv (tat_nil _ (by decide))
        rw [show sameT (.mk (-3) [ta, tb]) (.mk (-3) []) = true by unfold sameT; rw [cmpT_eq]; simp [Tm.ps, cmpL_nil]] at h1
        exact h1
      have HV2 : Hid (∀ V, Below wv.heap.size wv V → Calls Try.prog 19 #[.agg #[.int .i64 (-3), .slice (some ⟨wc.heap.size, 0, none⟩) 2 2]] V fun e w' => e = .returned (.int .i64 1) ∧ Below V.heap.size V w') := fun V h => by
        have hz : (Tm.mk (-3) [ta, tb]).size = 1 := by rw [Tm.size_eq]; simp [Tm.ps]
        have h1 := size_any (htv.bw h) (by rw [hz]; decide)
        rw [hz] at h1
        exact h1
      have HV3 : Hid (∀ V, Calls Try.prog 18 #[.agg #[.int .i64 (-1), .slice none 0 0], .agg #[.int .i64 (-2), .slice none 0 0]] V fun e w' => e = .returned (.int .i64 (-1)) ∧ Below V.heap.size V w') := fun V => by
        have h1 := compare_any (U := fun _ => True) (.mk (-1) []) (.mk (-2) []) none none 0 0 0 0 V (tat_nil _ (by decide)) (tat_nil _ (by decide))
        rw [show cmpT (.mk (-1) []) (.mk (-2) []) = -1 by rw [cmpT_eq]; simp [cmpH, cmpZ]] at h1
        exact h1
      have HCV : Hid (∀ V, Below wv.heap.size wv V → V.cell? ⟨wc.heap.size + 1, 0, none⟩ = some (.int .i64 (-3)) ∧ V.cell? ⟨wc.heap.size + 1, 1, none⟩ = some (.slice (some ⟨wc.heap.size, 0, none⟩) 2 2)) := fun V h => (hxv.bw h).cells
      clear hwv htv hxv H3 HG HXY HYX HYZ HXZ HXX HCL HSM HT HB HSZ hneg hneq tx ty tz htk hb7 hb8
      go_wp2_with fail
      rw [← HWV.out]
      go_wp2_with (first
        | (go_at_call 17; refine HV1.out.mono ?_; rintro e v1 ⟨rfl, hv1⟩; obtain ⟨d1, d2⟩ := HCV.out v1 hv1)
        | (go_at_call 19; refine (HV2.out _ hv1).mono ?_; rintro e v2 ⟨rfl, hv2⟩)
        | (go_at_call 18; refine (HV3.out _).mono ?_; rintro e v3 ⟨rfl, hv3⟩))
      go_ret
      exact ⟨rfl, bN (bN (bN (bN (bN HEND.out hq) hbv) hv1) hv2) hv3⟩
end Go.Proofs.Ytkebkmpgejbbhaa
