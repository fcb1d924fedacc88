/-
  The walk of TermCounts (made by gen-counts.py).
-/
import Derived.Test.YtkebkmpgejbbhaaTmDef
import Derived.Test.YtkebkmpgejbbhaaTmCnt
namespace Go.Proofs.Ytkebkmpgejbbhaa
open Go.RowKit
set_option linter.unusedVariables false
set_option linter.unusedSimpArgs false

set_option maxRecDepth 100000 in
set_option maxHeartbeats 8000000 in
theorem termCounts_walk (ta tb : Tm) (a b : Option Addr) (na ca nb cb : Nat) (f : Int) (w : World) (ha : Tat (fun _ => True) w ta a na ca) (hb : Tat (fun _ => True) w tb b nb cb) (hf : -9223372036854775808 ≤ f ∧ f ≤ 9223372036854775807) :
    Calls Try.prog 7 #[.agg #[.int .i64 ta.f, .slice a na ca], .agg #[.int .i64 tb.f, .slice b nb cb], .int .i64 f] w fun e w' => e = .returned (.bool true) ∧ Below w.heap.size w w' := by
  obtain ⟨w1, hw1⟩ : ∃ w1, w1 = w.alloc (.cells #[.int .i64 ta.f, .slice a na ca] 24) := ⟨_, rfl⟩
  obtain ⟨w2, hw2⟩ : ∃ w2, w2 = w1.alloc (.cells #[.int .i64 tb.f, .slice b nb cb] 24) := ⟨_, rfl⟩
  have s1 : w1.heap.size = w.heap.size + 1 := by rw [hw1]; simp
  have b1 : Below w.heap.size w w1 := by rw [hw1]; exact bA (bW _) _
  have b2 : Below w1.heap.size w1 w2 := by rw [hw2]; exact bA (bW _) _
  have x1 : Bx w2 24 w.heap.size ta a na ca := Bx.bw (by rw [hw1]; exact Bx.new _ _ _ _ _ _) b2
  have x2 : Bx w2 24 (w.heap.size + 1) tb b nb cb := by rw [hw2, ← s1]; exact Bx.new _ _ _ _ _ _
  have hb0 : Below w.heap.size w w2 := bN b1 b2
  have ha2 := ha.bw hb0
  have hb2' := hb.bw hb0
  have HW : Hid (w2 = (w.alloc (.cells #[.int .i64 ta.f, .slice a na ca] 24)).alloc (.cells #[.int .i64 tb.f, .slice b nb cb] 24)) := by show _ = _; rw [hw2, hw1]
  have HX1 : Hid (∀ V, Below w2.heap.size w2 V → Bx V 24 w.heap.size ta a na ca) := fun V h => x1.bw h
  have HX2 : Hid (∀ V, Below w2.heap.size w2 V → Bx V 24 (w.heap.size + 1) tb b nb cb) := fun V h => x2.bw h
  have HC : Hid (∀ V, Below w2.heap.size w2 V → (V.cell? ⟨w.heap.size, 0, none⟩ = some (.int .i64 ta.f) ∧ V.cell? ⟨w.heap.size, 1, none⟩ = some (.slice a na ca)) ∧ (V.cell? ⟨w.heap.size + 1, 0, none⟩ = some (.int .i64 tb.f) ∧ V.cell? ⟨w.heap.size + 1, 1, none⟩ = some (.slice b nb cb))) := fun V h => ⟨(x1.bw h).cells, (x2.bw h).cells⟩
  have HF : Hid (∀ V, Below w2.heap.size w2 V → Calls Try.prog 10 #[.slice (some ⟨V.heap.size, 0, none⟩) 2 2] (V.alloc (.cells #[.int .i64 ta.f, .slice a na ca, .int .i64 tb.f, .slice b nb cb] 24)) fun e w' => e = .returned (.bool (fineB [ta, tb])) ∧ Below V.heap.size V w') := fun V h => (fine_any (las_two (ha2.bw h) (hb2'.bw h)) (by decide)).mono fun e w' h => ⟨h.1, bN (bA (bW _) _) h.2⟩
  have HA : Hid (∀ V, Below w2.heap.size w2 V → Tat (fun _ => True) V ta a na ca ∧ Tat (fun _ => True) V tb b nb cb) := fun V h => ⟨ha2.bw h, hb2'.bw h⟩
  clear hw1 hw2 s1 b1 b2 x1 x2 ha2 hb2' ha hb
  obtain ⟨⟨c1, c2⟩, c3, c4⟩ := HC.out w2 (bW _)
  go_enter Try.func7, Try.ntmps7
  go_wp2_with fail
  rw [← HW.out]
  refine (alive_any w2).mono ?_
  rintro e w3 ⟨rfl, hb3⟩
  clear c1 c2 c3 c4
  obtain ⟨⟨c1, c2⟩, c3, c4⟩ := HC.out w3 hb3
  by_cases hfine : fineB [ta, tb] = false
  · rw [hfine] at HF
    go_wp2_with (go_at_call 10; refine (HF.out _ hb3).mono ?_; rintro e w4 ⟨rfl, hb4⟩)
    go_ret
    exact ⟨rfl, bN (bN hb0 hb3) hb4⟩
  · have hfine' : fineB [ta, tb] = true := by simpa using hfine
    rw [hfine'] at HF
    have hsm : 0 ≤ smallT ta 60 20 ∧ 0 ≤ smallT tb 60 20 := by simpa [fineB] using hfine'
    have wta := fine_wt hsm.1
    have wtb := fine_wt hsm.2
    clear hfine hfine'
    go_wp2_with (go_at_call 10; refine (HF.out _ hb3).mono ?_; rintro e w4 ⟨rfl, hb4⟩)
    have hq0 : Below w2.heap.size w2 w4 := bN hb3 hb4
    clear c1 c2 c3 c4 hb3 hb4 HF
    have HOa : Hid (∀ V, Below w4.heap.size w4 V → Calls Try.prog 11 #[.agg #[.int .i64 ta.f, .slice a na ca]] V (OfSays V ta)) := fun V h => of_any ta _ a na ca V (HA.out V (bN hq0 h)).1 (by omega)
    have HOb : Hid (∀ V, Below w4.heap.size w4 V → Calls Try.prog 11 #[.agg #[.int .i64 tb.f, .slice b nb cb]] V (OfSays V tb)) := fun V h => of_any tb _ b nb cb V (HA.out V (bN hq0 h)).2 (by omega)
    have HC4 : Hid (∀ V, Below w4.heap.size w4 V → (V.cell? ⟨w.heap.size, 0, none⟩ = some (.int .i64 ta.f) ∧ V.cell? ⟨w.heap.size, 1, none⟩ = some (.slice a na ca)) ∧ (V.cell? ⟨w.heap.size + 1, 0, none⟩ = some (.int .i64 tb.f) ∧ V.cell? ⟨w.heap.size + 1, 1, none⟩ = some (.slice b nb cb))) := fun V h => HC.out V (bN hq0 h)
    have X1 : Bx w4 24 w.heap.size ta a na ca := HX1.out w4 hq0
    have X2 : Bx w4 24 (w.heap.size + 1) tb b nb cb := HX2.out w4 hq0
    refine wp_def2 22 24 23 25 7 8 3 4 ta tb w.heap.size (w.heap.size + 1) a b na nb ca cb ?hops ?hs rfl X1 HOa.out rfl X2 HOb.out ?_
    case hops =>
      exact ⟨rfl, by kernel_rfl, fun i hi => match i, hi with | 0, _ => ⟨_, _, _, rfl⟩ | 1, _ => ⟨_, _, _, rfl⟩, fun i hi => match i, hi with | 0, _ => ⟨_, _, _, _, rfl, by kernel_rfl⟩ | 1, _ => ⟨_, _, _, _, rfl, by kernel_rfl⟩, fun i hi => match i, hi with | 0, _ => ⟨_, _, _, rfl⟩ | 1, _ => ⟨_, _, _, rfl⟩, fun i hi => match i, hi with | 0, _ => ⟨_, _, _, rfl, by kernel_rfl, by kernel_rfl⟩ | 1, _ => ⟨_, _, _, rfl, by kernel_rfl, by kernel_rfl⟩⟩
    case hs =>
      show Slots 2 117 _ _ _ _
      exact slots_of (by decide)
    intro w5 ax nx cx gx ay ny cy gy bx tx by_ ty b5
    simp only [List.setIfInBounds_toArray, List.set_cons_succ, List.set_cons_zero]
    have HEND : Hid (Below w.heap.size w w5) := bN (bN hb0 hq0) b5
    obtain ⟨c1, c2⟩ := bx.cells
    obtain ⟨c3, c4⟩ := by_.cells
    clear HOa HOb X1 X2 HC4 HX1 HX2 HA HC HW
    obtain ⟨wz, hwz⟩ : ∃ wz, wz = (w5.alloc (.cells #[.int .i64 ta.f, .slice ax nx cx, .int .i64 tb.f, .slice ay ny cy] 29)).alloc (.cells #[.int .i64 77, .slice (some ⟨w5.heap.size, 0, none⟩) 2 2] 29) := ⟨_, rfl⟩
    have HWZ := hid hwz
    have bz : Below w5.heap.size w5 wz := by rw [hwz]; exact bA (bA (bW _) _) _
    have tz : Tat (fun _ => True) wz (.mk 77 [ta, tb]) (some ⟨w5.heap.size, 0, none⟩) 2 2 := by
      refine tat_iff.2 ⟨⟨by show _ ≤ (77 : Int); decide, by show (77 : Int) ≤ _; decide⟩, ?_⟩
      rw [hwz]
      exact (las_two tx ty).bw (bA (bW _) _)
    have bxz : Bx wz 29 (w5.heap.size + 1) (.mk 77 [ta, tb]) (some ⟨w5.heap.size, 0, none⟩) 2 2 := by
      rw [hwz, show w5.heap.size + 1 = (w5.alloc (.cells #[.int .i64 ta.f, .slice ax nx cx, .int .i64 tb.f, .slice ay ny cy] 29)).heap.size by simp]
      exact Bx.new _ _ (.mk 77 [ta, tb]) _ _ _
    have HS : Hid (∀ V, Below wz.heap.size wz V → (V.cell? ⟨gx, 0, none⟩ = some (.int .i64 ta.f) ∧ V.cell? ⟨gx, 1, none⟩ = some (.slice ax nx cx)) ∧ (V.cell? ⟨gy, 0, none⟩ = some (.int .i64 tb.f) ∧ V.cell? ⟨gy, 1, none⟩ = some (.slice ay ny cy)) ∧ (V.cell? ⟨w5.heap.size + 1, 0, none⟩ = some (.int .i64 77) ∧ V.cell? ⟨w5.heap.size + 1, 1, none⟩ = some (.slice (some ⟨w5.heap.size, 0, none⟩) 2 2))) := fun V h => ⟨(bx.bw (bN bz h)).cells, (by_.bw (bN bz h)).cells, (bxz.bw h).cells⟩
    have HTX : Hid (∀ V, Below wz.heap.size wz V → Tat (fun _ => True) V ta ax nx cx) := fun V h => tx.bw (bN bz h)
    have HTY : Hid (∀ V, Below wz.heap.size wz V → Tat (fun _ => True) V tb ay ny cy) := fun V h => ty.bw (bN bz h)
    have HTZ : Hid (∀ V, Below wz.heap.size wz V → Tat (fun _ => True) V (.mk 77 [ta, tb]) (some ⟨w5.heap.size, 0, none⟩) 2 2) := fun V h => tz.bw h
    have HSZ : Hid (ta.size ≤ 60 ∧ tb.size ≤ 60 ∧ (Tm.mk 77 [ta, tb]).size = 1 + ta.size + tb.size) := ⟨Nat.le_trans ta.size_wt wta, Nat.le_trans tb.size_wt wtb, size_two ta tb (by decide)⟩
    have HEZ : Hid (Below w.heap.size w wz) := bN HEND.out bz
    have HV2 := hid (vars_two (f := 77) ta tb (by decide))
    have HT2 := hid (top_two (f := 77) ta tb (by decide))
    have HC2 := hid (cnt_two (f := 77) f ta tb (by decide))
    have HLX : Hid ((varsF ta.flat).length ≤ 60 ∧ (varsF tb.flat).length ≤ 60) := ⟨Nat.le_trans (varsF_len _) HSZ.out.1, Nat.le_trans (varsF_len _) HSZ.out.2.1⟩
    have HLC : Hid (cntF f ta.flat ≤ 60 ∧ cntF f tb.flat ≤ 60) := ⟨Nat.le_trans (cntF_le _ _) HSZ.out.1, Nat.le_trans (cntF_le _ _) HSZ.out.2.1⟩
    have HVZ : Hid (∀ V, Below wz.heap.size wz V → Calls Try.prog 15 #[.agg #[.int .i64 77, .slice (some ⟨w5.heap.size, 0, none⟩) 2 2]] V fun e w' => ∃ va vc, e = .returned (.slice va (varsF (Tm.mk 77 [ta, tb]).flat).length vc) ∧ Pr.ok (fun _ => True) w' ⟨va, (varsF (Tm.mk 77 [ta, tb]).flat).length, vc, varsF (Tm.mk 77 [ta, tb]).flat⟩ ∧ Below V.heap.size V w') := fun V h => (vars_any (HTZ.out V h) (by have := HSZ.out; omega)).mono fun e w' h => by
      obtain ⟨va, vc, h1, h2, h3⟩ := h
      exact ⟨va, vc, h1, h2.keep fun _ _ _ => ⟨trivial, rfl⟩, h3⟩
    have HVX : Hid (∀ V, Below wz.heap.size wz V → Calls Try.prog 15 #[.agg #[.int .i64 ta.f, .slice ax nx cx]] V fun e w' => ∃ va vc, e = .returned (.slice va (varsF ta.flat).length vc) ∧ Pr.ok (fun _ => True) w' ⟨va, (varsF ta.flat).length, vc, varsF ta.flat⟩ ∧ Below V.heap.size V w') := fun V h => (vars_any (HTX.out V h) (by have := HSZ.out; omega)).mono fun e w' h => by
      obtain ⟨va, vc, h1, h2, h3⟩ := h
      exact ⟨va, vc, h1, h2.keep fun _ _ _ => ⟨trivial, rfl⟩, h3⟩
    have HVY : Hid (∀ V, Below wz.heap.size wz V → Calls Try.prog 15 #[.agg #[.int .i64 tb.f, .slice ay ny cy]] V fun e w' => ∃ va vc, e = .returned (.slice va (varsF tb.flat).length vc) ∧ Pr.ok (fun _ => True) w' ⟨va, (varsF tb.flat).length, vc, varsF tb.flat⟩ ∧ Below V.heap.size V w') := fun V h => (vars_any (HTY.out V h) (by have := HSZ.out; omega)).mono fun e w' h => by
      obtain ⟨va, vc, h1, h2, h3⟩ := h
      exact ⟨va, vc, h1, h2.keep fun _ _ _ => ⟨trivial, rfl⟩, h3⟩
    have HTz : Hid (∀ V, Below wz.heap.size wz V → Calls Try.prog 20 #[.agg #[.int .i64 77, .slice (some ⟨w5.heap.size, 0, none⟩) 2 2]] V fun e w' => e = .returned (.int .i64 (topF (Tm.mk 77 [ta, tb]).flat)) ∧ Below V.heap.size V w') := fun V h => top_any (HTZ.out V h)
    have HTx : Hid (∀ V, Below wz.heap.size wz V → Calls Try.prog 20 #[.agg #[.int .i64 ta.f, .slice ax nx cx]] V fun e w' => e = .returned (.int .i64 (topF ta.flat)) ∧ Below V.heap.size V w') := fun V h => top_any (HTX.out V h)
    have HTy : Hid (∀ V, Below wz.heap.size wz V → Calls Try.prog 20 #[.agg #[.int .i64 tb.f, .slice ay ny cy]] V fun e w' => e = .returned (.int .i64 (topF tb.flat)) ∧ Below V.heap.size V w') := fun V h => top_any (HTY.out V h)
    have HZz : Hid (∀ V, Below wz.heap.size wz V → Calls Try.prog 19 #[.agg #[.int .i64 77, .slice (some ⟨w5.heap.size, 0, none⟩) 2 2]] V fun e w' => e = .returned (.int .i64 ((Tm.mk 77 [ta, tb]).size : Int)) ∧ Below V.heap.size V w') := fun V h => size_any (HTZ.out V h) (by have := HSZ.out; omega)
    have HZx : Hid (∀ V, Below wz.heap.size wz V → Calls Try.prog 19 #[.agg #[.int .i64 ta.f, .slice ax nx cx]] V fun e w' => e = .returned (.int .i64 (ta.size : Int)) ∧ Below V.heap.size V w') := fun V h => size_any (HTX.out V h) (by have := HSZ.out; omega)
    have HZy : Hid (∀ V, Below wz.heap.size wz V → Calls Try.prog 19 #[.agg #[.int .i64 tb.f, .slice ay ny cy]] V fun e w' => e = .returned (.int .i64 (tb.size : Int)) ∧ Below V.heap.size V w') := fun V h => size_any (HTY.out V h) (by have := HSZ.out; omega)
    have HCz : Hid (∀ V, Below wz.heap.size wz V → Calls Try.prog 21 #[.agg #[.int .i64 77, .slice (some ⟨w5.heap.size, 0, none⟩) 2 2], .int .i64 f] V fun e w' => e = .returned (.int .i64 (cntF f (Tm.mk 77 [ta, tb]).flat : Int)) ∧ Below V.heap.size V w') := fun V h => count_any f (HTZ.out V h) (by have := HSZ.out; omega)
    have HCx : Hid (∀ V, Below wz.heap.size wz V → Calls Try.prog 21 #[.agg #[.int .i64 ta.f, .slice ax nx cx], .int .i64 f] V fun e w' => e = .returned (.int .i64 (cntF f ta.flat : Int)) ∧ Below V.heap.size V w') := fun V h => count_any f (HTX.out V h) (by have := HSZ.out; omega)
    have HCy : Hid (∀ V, Below wz.heap.size wz V → Calls Try.prog 21 #[.agg #[.int .i64 tb.f, .slice ay ny cy], .int .i64 f] V fun e w' => e = .returned (.int .i64 (cntF f tb.flat : Int)) ∧ Below V.heap.size V w') := fun V h => count_any f (HTY.out V h) (by have := HSZ.out; omega)
    have HPz : Hid (∀ V, Below wz.heap.size wz V → Calls Try.prog 24 #[.agg #[.int .i64 77, .slice (some ⟨w5.heap.size, 0, none⟩) 2 2]] V fun e w' => ∃ pa pc, e = .returned (.slice pa (Tm.mk 77 [ta, tb]).size pc) ∧ Below V.heap.size V w') := fun V h => (places_any (HTZ.out V h) (by have := HSZ.out; omega)).mono fun e w' h => by
      obtain ⟨pa, pc, h1, _, h2⟩ := h
      exact ⟨pa, pc, h1, h2⟩
    obtain ⟨Vz, hVz⟩ : ∃ q, q = varsF (Tm.mk 77 [ta, tb]).flat := ⟨_, rfl⟩
    obtain ⟨Vx, hVx⟩ : ∃ q, q = varsF ta.flat := ⟨_, rfl⟩
    obtain ⟨Vy, hVy⟩ : ∃ q, q = varsF tb.flat := ⟨_, rfl⟩
    obtain ⟨Tz, hTz⟩ : ∃ q, q = topF (Tm.mk 77 [ta, tb]).flat := ⟨_, rfl⟩
    obtain ⟨Tx, hTx⟩ : ∃ q, q = topF ta.flat := ⟨_, rfl⟩
    obtain ⟨Ty, hTy⟩ : ∃ q, q = topF tb.flat := ⟨_, rfl⟩
    obtain ⟨Zz, hZz⟩ : ∃ q, q = (Tm.mk 77 [ta, tb]).size := ⟨_, rfl⟩
    obtain ⟨Zx, hZx⟩ : ∃ q, q = ta.size := ⟨_, rfl⟩
    obtain ⟨Zy, hZy⟩ : ∃ q, q = tb.size := ⟨_, rfl⟩
    obtain ⟨Cz, hCz⟩ : ∃ q, q = cntF f (Tm.mk 77 [ta, tb]).flat := ⟨_, rfl⟩
    obtain ⟨Cx, hCx⟩ : ∃ q, q = cntF f ta.flat := ⟨_, rfl⟩
    obtain ⟨Cy, hCy⟩ : ∃ q, q = cntF f tb.flat := ⟨_, rfl⟩
    rw [← hVz] at HVZ HV2
    rw [← hVx] at HVX HV2 HLX
    rw [← hVy] at HVY HV2 HLX
    rw [← hTz] at HTz HT2
    rw [← hTx] at HTx HT2
    rw [← hTy] at HTy HT2
    rw [← hZz] at HZz HSZ HPz
    rw [← hZx] at HZx HSZ
    rw [← hZy] at HZy HSZ
    rw [← hCz] at HCz HC2
    rw [← hCx] at HCx HC2 HLC
    rw [← hCy] at HCy HC2 HLC
    clear hVz hVx hVy hTz hTx hTy hZz hZx hZy hCz hCx hCy HTX HTY HTZ hsm wta wtb
    go_upto_region 7 with fail
    rw [← HWZ.out]
    clear hwz bxz tz tx ty bx by_ c1 c2 c3 c4 bz HWZ b5 hq0 hb0
    obtain ⟨⟨c1, c2⟩, ⟨c3, c4⟩, c5, c6⟩ := HS.out wz (bW _)
    by_cases h77 : f = 77
    · have hb7 : (f == 77) = true := by simp [h77]
      have HC3 : Hid (Cz = 1 + Cx + Cy) := by show _ = _; rw [HC2.out, if_pos h77.symm]
      clear h77 HC2
      go_upto_region 10 with fail
      go_upto_region 11 with (go_at_call 15; refine (HVZ.out _ (bW _)).mono ?_; rintro e w7 ⟨za, zc, rfl, hokz, b7⟩)
      have hq : Below wz.heap.size wz w7 := b7
      go_region_held3 (fun w' => (w'.cell? ⟨gx, 0, none⟩ = some (.int .i64 ta.f) ∧ w'.cell? ⟨gx, 1, none⟩ = some (.slice ax nx cx)) ∧ (w'.cell? ⟨gy, 0, none⟩ = some (.int .i64 tb.f) ∧ w'.cell? ⟨gy, 1, none⟩ = some (.slice ay ny cy)) ∧ (w'.cell? ⟨w5.heap.size + 1, 0, none⟩ = some (.int .i64 77) ∧ w'.cell? ⟨w5.heap.size + 1, 1, none⟩ = some (.slice (some ⟨w5.heap.size, 0, none⟩) 2 2))) (first | (refine HS.out _ ?_; with_reducible exact hq) | (refine HS.out _ ?_; with_reducible exact bD hq))
          (first
            | (go_at_call 15; with_reducible refine Calls.mono (HVX.out _ ?_) ?_; (first | with_reducible exact hq | with_reducible exact bD hq); rintro e w8 ⟨xa, xc, rfl, hokx, b8⟩; replace hokz := prbw hokz (by first | with_reducible exact b8 | exact bN (bD (bW _)) b8); replace hq := bN (by first | with_reducible exact hq | with_reducible exact bD hq) b8; dsimp only)
            | (go_at_call 15; with_reducible refine Calls.mono (HVY.out _ ?_) ?_; (first | with_reducible exact hq | with_reducible exact bD hq); rintro e w9 ⟨ya, yc, rfl, hoky, b9⟩; replace hokz := prbw hokz (by first | with_reducible exact b9 | exact bN (bD (bW _)) b9); replace hokx := prbw hokx (by first | with_reducible exact b9 | exact bN (bD (bW _)) b9); replace hq := bN (by first | with_reducible exact hq | with_reducible exact bD hq) b9; dsimp only))
      go_upto_region 12 with fail
      obtain ⟨lz, hlz⟩ : ∃ q, q = Vz.length := ⟨_, rfl⟩
      obtain ⟨lx, hlx⟩ : ∃ q, q = Vx.length := ⟨_, rfl⟩
      obtain ⟨ly, hly⟩ : ∃ q, q = Vy.length := ⟨_, rfl⟩
      rw [← hlz, ← hlx, ← hly]
      rw [← hlz] at hokz
      rw [← hlx] at hokx
      have hv2 := HV2.out
      have hl2 := HLX.out
      rw [← hlz, ← hlx, ← hly] at hv2
      rw [← hlx, ← hly] at hl2
      have g1 : IntKind.i64.wrap ((lx : Int) + (ly : Int)) = (lx : Int) + (ly : Int) := by simp [IntKind.wrap, IntKind.bits, IntKind.signed]; omega
      have HPRE := hid hv2.1
      have hpl : lx ≤ lz := by rw [hlx, hlz]; exact hv2.1.length_le
      have g2 : decide ((lx : Int) + (ly : Int) < (lz : Int)) = false := decide_eq_false (by omega)
      have g3 : decide ((lz : Int) < (lx : Int)) = false := decide_eq_false (by omega)
      have g4 : decide ((lz : Int) < (ly : Int)) = false := decide_eq_false (by omega)
      have g2' : decide (lx + ly < lz) = false := decide_eq_false (by omega)
      have g3' : decide (lz < lx) = false := decide_eq_false (by omega)
      have g4' : decide (lz < ly) = false := decide_eq_false (by omega)
      have g5 : (Tz != max Tx Ty) = false := by rw [HT2.out]; simp
      have HLL := hid (And.intro hlz hlx)
      have hlx60 : lx ≤ 60 := hl2.1
      have hlz120 : lz ≤ 120 := by omega
      have HT2' := hid HT2.out
      clear hlz hlx hly hv2 hl2 HV2 HLX HT2
      go_cut [69] from 38 to 68 (fun x wcut => x = .bool false ∧ Pr.ok (fun _ => True) wcut ⟨za, lz, zc, Vz⟩ ∧ Pr.ok (fun _ => True) wcut ⟨xa, lx, xc, Vx⟩ ∧ Below wz.heap.size wz wcut)
      case first =>
        go_region_held3 (fun w' => (w'.cell? ⟨gx, 0, none⟩ = some (.int .i64 ta.f) ∧ w'.cell? ⟨gx, 1, none⟩ = some (.slice ax nx cx)) ∧ (w'.cell? ⟨gy, 0, none⟩ = some (.int .i64 tb.f) ∧ w'.cell? ⟨gy, 1, none⟩ = some (.slice ay ny cy)) ∧ (w'.cell? ⟨w5.heap.size + 1, 0, none⟩ = some (.int .i64 77) ∧ w'.cell? ⟨w5.heap.size + 1, 1, none⟩ = some (.slice (some ⟨w5.heap.size, 0, none⟩) 2 2))) (first | (refine HS.out _ ?_; with_reducible exact hq) | (refine HS.out _ ?_; with_reducible exact bD hq))
            (first
                | (go_at_call 20; with_reducible refine Calls.mono (HTz.out _ ?_) ?_; (first | with_reducible exact hq | with_reducible exact bD hq); rintro e v1 ⟨rfl, hv1⟩; replace hokz := prbw hokz (by first | with_reducible exact hv1 | exact bN (bD (bW _)) hv1); replace hokx := prbw hokx (by first | with_reducible exact hv1 | exact bN (bD (bW _)) hv1); replace hq := bN (by first | with_reducible exact hq | with_reducible exact bD hq) hv1; dsimp only)
                | (go_at_call 20; with_reducible refine Calls.mono (HTx.out _ ?_) ?_; (first | with_reducible exact hq | with_reducible exact bD hq); rintro e v1 ⟨rfl, hv1⟩; replace hokz := prbw hokz (by first | with_reducible exact hv1 | exact bN (bD (bW _)) hv1); replace hokx := prbw hokx (by first | with_reducible exact hv1 | exact bN (bD (bW _)) hv1); replace hq := bN (by first | with_reducible exact hq | with_reducible exact bD hq) hv1; dsimp only)
                | (go_at_call 20; with_reducible refine Calls.mono (HTy.out _ ?_) ?_; (first | with_reducible exact hq | with_reducible exact bD hq); rintro e v1 ⟨rfl, hv1⟩; replace hokz := prbw hokz (by first | with_reducible exact hv1 | exact bN (bD (bW _)) hv1); replace hokx := prbw hokx (by first | with_reducible exact hv1 | exact bN (bD (bW _)) hv1); replace hq := bN (by first | with_reducible exact hq | with_reducible exact bD hq) hv1; dsimp only))
        all_goals go_wp2_with fail
        all_goals go_meet
        all_goals refine ⟨?_, hokz, hokx, hq⟩
        all_goals first
          | rfl
          | (have := HT2'.out; congr 1; simp; omega)
      case rest =>
        obtain ⟨rfl, kz, kx, kb⟩ := hcut
        clear hokz hokx hq b7 b8 b9
        go_wp2_with fail
        go_loopw [14] (fun i wr => ∃ k : Nat, i = .int .i64 (k : Int) ∧ k ≤ lx ∧ Pr.ok (fun _ => True) wr ⟨za, lz, zc, Vz⟩ ∧ Pr.ok (fun _ => True) wr ⟨xa, lx, xc, Vx⟩ ∧ Below wz.heap.size wz wr) (fun i _ => lx - (intOf i).toNat)
        case atStart => exact ⟨0, rfl, by omega, kz, kx, kb⟩
        case round =>
          obtain ⟨k, rfl, hk, kz', kx', kb'⟩ := hrel
          clear kz kx kb
          by_cases hlt : k < lx
          · obtain ⟨q1, o1, z1, e1, _, _, m1, d1⟩ := kz'.at (i := k) (by show k < lz; omega)
            obtain ⟨q2, o2, z2, e2, _, _, m2, d2⟩ := kx'.at (i := k) (by show k < lx; omega)
            simp only at e1 e2
            have hzz : z1 = z2 := by
              obtain ⟨rest, hr⟩ := HPRE.out
              have m3 : Vz[k]? = some z2 := by rw [← hr, List.getElem?_append_left (by have := HLL.out; omega)]; exact m2
              rw [m3] at m1
              exact (Option.some.inj m1).symm
            subst hzz
            subst e1
            subst e2
            have HKZ := hid kz'
            have HKX := hid kx'
            have hltz : k < lz := by omega
            clear kz' kx' m1 m2
            go_wp2_with fail
            go_quiet (fail)
            go_wp2_with fail
            go_roundw
            case rel => exact ⟨k + 1, by go_num, by omega, prbw HKZ.out (bDN _ (bW _)), prbw HKX.out (bDN _ (bW _)), bN kb' (bDN _ (bW _))⟩
            case measure => simp [intOf]; omega
          · have hsz2 := HSZ.out
            have hlc := HLC.out
            have hc3 := HC3.out
            have r1 : IntKind.i64.wrap (1 + (Zx : Int)) = 1 + (Zx : Int) := by simp [IntKind.wrap, IntKind.bits, IntKind.signed]; omega
            have r2 : IntKind.i64.wrap (1 + (Zx : Int) + (Zy : Int)) = 1 + (Zx : Int) + (Zy : Int) := by simp [IntKind.wrap, IntKind.bits, IntKind.signed]; omega
            have r3 : IntKind.i64.wrap (1 + (Cx : Int)) = 1 + (Cx : Int) := by simp [IntKind.wrap, IntKind.bits, IntKind.signed]; omega
            have r4 : IntKind.i64.wrap (1 + (Cx : Int) + (Cy : Int)) = 1 + (Cx : Int) + (Cy : Int) := by simp [IntKind.wrap, IntKind.bits, IntKind.signed]; omega
            have r5 : ((Zz : Int) == 1 + (Zx : Int) + (Zy : Int)) = true := by rw [beq_iff_eq]; omega
            have r6 : ((Cz : Int) == 1 + (Cx : Int) + (Cy : Int)) = true := by rw [beq_iff_eq]; omega
            have r7 : ((Zz : Int) == (Zz : Int)) = true := by simp
            clear hsz2 hlc hc3 kz' kx'
            have hq : Below wz.heap.size wz wr := kb'
            go_wp2_with fail
            go_region_held3 (fun w' => (w'.cell? ⟨gx, 0, none⟩ = some (.int .i64 ta.f) ∧ w'.cell? ⟨gx, 1, none⟩ = some (.slice ax nx cx)) ∧ (w'.cell? ⟨gy, 0, none⟩ = some (.int .i64 tb.f) ∧ w'.cell? ⟨gy, 1, none⟩ = some (.slice ay ny cy)) ∧ (w'.cell? ⟨w5.heap.size + 1, 0, none⟩ = some (.int .i64 77) ∧ w'.cell? ⟨w5.heap.size + 1, 1, none⟩ = some (.slice (some ⟨w5.heap.size, 0, none⟩) 2 2))) (first | (refine HS.out _ ?_; with_reducible exact hq) | (refine HS.out _ ?_; with_reducible exact bD hq))
              (first
                | (go_at_call 19; with_reducible refine Calls.mono (HZz.out _ ?_) ?_; (first | with_reducible exact hq | with_reducible exact bD hq); rintro e v1 ⟨rfl, hv1⟩; replace hq := bN (by first | with_reducible exact hq | with_reducible exact bD hq) hv1; dsimp only)
                | (go_at_call 19; with_reducible refine Calls.mono (HZx.out _ ?_) ?_; (first | with_reducible exact hq | with_reducible exact bD hq); rintro e v1 ⟨rfl, hv1⟩; replace hq := bN (by first | with_reducible exact hq | with_reducible exact bD hq) hv1; dsimp only)
                | (go_at_call 19; with_reducible refine Calls.mono (HZy.out _ ?_) ?_; (first | with_reducible exact hq | with_reducible exact bD hq); rintro e v1 ⟨rfl, hv1⟩; replace hq := bN (by first | with_reducible exact hq | with_reducible exact bD hq) hv1; dsimp only)
                | (go_at_call 21; with_reducible refine Calls.mono (HCz.out _ ?_) ?_; (first | with_reducible exact hq | with_reducible exact bD hq); rintro e v1 ⟨rfl, hv1⟩; replace hq := bN (by first | with_reducible exact hq | with_reducible exact bD hq) hv1; dsimp only)
                | (go_at_call 21; with_reducible refine Calls.mono (HCx.out _ ?_) ?_; (first | with_reducible exact hq | with_reducible exact bD hq); rintro e v1 ⟨rfl, hv1⟩; replace hq := bN (by first | with_reducible exact hq | with_reducible exact bD hq) hv1; dsimp only)
                | (go_at_call 21; with_reducible refine Calls.mono (HCy.out _ ?_) ?_; (first | with_reducible exact hq | with_reducible exact bD hq); rintro e v1 ⟨rfl, hv1⟩; replace hq := bN (by first | with_reducible exact hq | with_reducible exact bD hq) hv1; dsimp only)
                | (go_at_call 24; with_reducible refine Calls.mono (HPz.out _ ?_) ?_; (first | with_reducible exact hq | with_reducible exact bD hq); rintro e v1 ⟨pa, pc, rfl, hv1⟩; replace hq := bN (by first | with_reducible exact hq | with_reducible exact bD hq) hv1; dsimp only))
            go_wp2_with fail
            go_ret
            exact ⟨rfl, bN HEZ.out hq⟩
    · have hb7 : (f == 77) = false := by simp [h77]
      have HC3 : Hid (Cz = 0 + Cx + Cy) := by show _ = _; rw [HC2.out, if_neg (fun e => h77 e.symm)]
      clear h77 HC2
      go_upto_region 10 with fail
      go_upto_region 11 with (go_at_call 15; refine (HVZ.out _ (bW _)).mono ?_; rintro e w7 ⟨za, zc, rfl, hokz, b7⟩)
      have hq : Below wz.heap.size wz w7 := b7
      go_region_held3 (fun w' => (w'.cell? ⟨gx, 0, none⟩ = some (.int .i64 ta.f) ∧ w'.cell? ⟨gx, 1, none⟩ = some (.slice ax nx cx)) ∧ (w'.cell? ⟨gy, 0, none⟩ = some (.int .i64 tb.f) ∧ w'.cell? ⟨gy, 1, none⟩ = some (.slice ay ny cy)) ∧ (w'.cell? ⟨w5.heap.size + 1, 0, none⟩ = some (.int .i64 77) ∧ w'.cell? ⟨w5.heap.size + 1, 1, none⟩ = some (.slice (some ⟨w5.heap.size, 0, none⟩) 2 2))) (first | (refine HS.out _ ?_; with_reducible exact hq) | (refine HS.out _ ?_; with_reducible exact bD hq))
          (first
            | (go_at_call 15; with_reducible refine Calls.mono (HVX.out _ ?_) ?_; (first | with_reducible exact hq | with_reducible exact bD hq); rintro e w8 ⟨xa, xc, rfl, hokx, b8⟩; replace hokz := prbw hokz (by first | with_reducible exact b8 | exact bN (bD (bW _)) b8); replace hq := bN (by first | with_reducible exact hq | with_reducible exact bD hq) b8; dsimp only)
            | (go_at_call 15; with_reducible refine Calls.mono (HVY.out _ ?_) ?_; (first | with_reducible exact hq | with_reducible exact bD hq); rintro e w9 ⟨ya, yc, rfl, hoky, b9⟩; replace hokz := prbw hokz (by first | with_reducible exact b9 | exact bN (bD (bW _)) b9); replace hokx := prbw hokx (by first | with_reducible exact b9 | exact bN (bD (bW _)) b9); replace hq := bN (by first | with_reducible exact hq | with_reducible exact bD hq) b9; dsimp only))
      go_upto_region 12 with fail
      obtain ⟨lz, hlz⟩ : ∃ q, q = Vz.length := ⟨_, rfl⟩
      obtain ⟨lx, hlx⟩ : ∃ q, q = Vx.length := ⟨_, rfl⟩
      obtain ⟨ly, hly⟩ : ∃ q, q = Vy.length := ⟨_, rfl⟩
      rw [← hlz, ← hlx, ← hly]
      rw [← hlz] at hokz
      rw [← hlx] at hokx
      have hv2 := HV2.out
      have hl2 := HLX.out
      rw [← hlz, ← hlx, ← hly] at hv2
      rw [← hlx, ← hly] at hl2
      have g1 : IntKind.i64.wrap ((lx : Int) + (ly : Int)) = (lx : Int) + (ly : Int) := by simp [IntKind.wrap, IntKind.bits, IntKind.signed]; omega
      have HPRE := hid hv2.1
      have hpl : lx ≤ lz := by rw [hlx, hlz]; exact hv2.1.length_le
      have g2 : decide ((lx : Int) + (ly : Int) < (lz : Int)) = false := decide_eq_false (by omega)
      have g3 : decide ((lz : Int) < (lx : Int)) = false := decide_eq_false (by omega)
      have g4 : decide ((lz : Int) < (ly : Int)) = false := decide_eq_false (by omega)
      have g2' : decide (lx + ly < lz) = false := decide_eq_false (by omega)
      have g3' : decide (lz < lx) = false := decide_eq_false (by omega)
      have g4' : decide (lz < ly) = false := decide_eq_false (by omega)
      have g5 : (Tz != max Tx Ty) = false := by rw [HT2.out]; simp
      have HLL := hid (And.intro hlz hlx)
      have hlx60 : lx ≤ 60 := hl2.1
      have hlz120 : lz ≤ 120 := by omega
      have HT2' := hid HT2.out
      clear hlz hlx hly hv2 hl2 HV2 HLX HT2
      go_cut [69] from 38 to 68 (fun x wcut => x = .bool false ∧ Pr.ok (fun _ => True) wcut ⟨za, lz, zc, Vz⟩ ∧ Pr.ok (fun _ => True) wcut ⟨xa, lx, xc, Vx⟩ ∧ Below wz.heap.size wz wcut)
      case first =>
        go_region_held3 (fun w' => (w'.cell? ⟨gx, 0, none⟩ = some (.int .i64 ta.f) ∧ w'.cell? ⟨gx, 1, none⟩ = some (.slice ax nx cx)) ∧ (w'.cell? ⟨gy, 0, none⟩ = some (.int .i64 tb.f) ∧ w'.cell? ⟨gy, 1, none⟩ = some (.slice ay ny cy)) ∧ (w'.cell? ⟨w5.heap.size + 1, 0, none⟩ = some (.int .i64 77) ∧ w'.cell? ⟨w5.heap.size + 1, 1, none⟩ = some (.slice (some ⟨w5.heap.size, 0, none⟩) 2 2))) (first | (refine HS.out _ ?_; with_reducible exact hq) | (refine HS.out _ ?_; with_reducible exact bD hq))
            (first
                | (go_at_call 20; with_reducible refine Calls.mono (HTz.out _ ?_) ?_; (first | with_reducible exact hq | with_reducible exact bD hq); rintro e v1 ⟨rfl, hv1⟩; replace hokz := prbw hokz (by first | with_reducible exact hv1 | exact bN (bD (bW _)) hv1); replace hokx := prbw hokx (by first | with_reducible exact hv1 | exact bN (bD (bW _)) hv1); replace hq := bN (by first | with_reducible exact hq | with_reducible exact bD hq) hv1; dsimp only)
                | (go_at_call 20; with_reducible refine Calls.mono (HTx.out _ ?_) ?_; (first | with_reducible exact hq | with_reducible exact bD hq); rintro e v1 ⟨rfl, hv1⟩; replace hokz := prbw hokz (by first | with_reducible exact hv1 | exact bN (bD (bW _)) hv1); replace hokx := prbw hokx (by first | with_reducible exact hv1 | exact bN (bD (bW _)) hv1); replace hq := bN (by first | with_reducible exact hq | with_reducible exact bD hq) hv1; dsimp only)
                | (go_at_call 20; with_reducible refine Calls.mono (HTy.out _ ?_) ?_; (first | with_reducible exact hq | with_reducible exact bD hq); rintro e v1 ⟨rfl, hv1⟩; replace hokz := prbw hokz (by first | with_reducible exact hv1 | exact bN (bD (bW _)) hv1); replace hokx := prbw hokx (by first | with_reducible exact hv1 | exact bN (bD (bW _)) hv1); replace hq := bN (by first | with_reducible exact hq | with_reducible exact bD hq) hv1; dsimp only))
        all_goals go_wp2_with fail
        all_goals go_meet
        all_goals refine ⟨?_, hokz, hokx, hq⟩
        all_goals first
          | rfl
          | (have := HT2'.out; congr 1; simp; omega)
      case rest =>
        obtain ⟨rfl, kz, kx, kb⟩ := hcut
        clear hokz hokx hq b7 b8 b9
        go_wp2_with fail
        go_loopw [14] (fun i wr => ∃ k : Nat, i = .int .i64 (k : Int) ∧ k ≤ lx ∧ Pr.ok (fun _ => True) wr ⟨za, lz, zc, Vz⟩ ∧ Pr.ok (fun _ => True) wr ⟨xa, lx, xc, Vx⟩ ∧ Below wz.heap.size wz wr) (fun i _ => lx - (intOf i).toNat)
        case atStart => exact ⟨0, rfl, by omega, kz, kx, kb⟩
        case round =>
          obtain ⟨k, rfl, hk, kz', kx', kb'⟩ := hrel
          clear kz kx kb
          by_cases hlt : k < lx
          · obtain ⟨q1, o1, z1, e1, _, _, m1, d1⟩ := kz'.at (i := k) (by show k < lz; omega)
            obtain ⟨q2, o2, z2, e2, _, _, m2, d2⟩ := kx'.at (i := k) (by show k < lx; omega)
            simp only at e1 e2
            have hzz : z1 = z2 := by
              obtain ⟨rest, hr⟩ := HPRE.out
              have m3 : Vz[k]? = some z2 := by rw [← hr, List.getElem?_append_left (by have := HLL.out; omega)]; exact m2
              rw [m3] at m1
              exact (Option.some.inj m1).symm
            subst hzz
            subst e1
            subst e2
            have HKZ := hid kz'
            have HKX := hid kx'
            have hltz : k < lz := by omega
            clear kz' kx' m1 m2
            go_wp2_with fail
            go_quiet (fail)
            go_wp2_with fail
            go_roundw
            case rel => exact ⟨k + 1, by go_num, by omega, prbw HKZ.out (bDN _ (bW _)), prbw HKX.out (bDN _ (bW _)), bN kb' (bDN _ (bW _))⟩
            case measure => simp [intOf]; omega
          · have hsz2 := HSZ.out
            have hlc := HLC.out
            have hc3 := HC3.out
            have r1 : IntKind.i64.wrap (1 + (Zx : Int)) = 1 + (Zx : Int) := by simp [IntKind.wrap, IntKind.bits, IntKind.signed]; omega
            have r2 : IntKind.i64.wrap (1 + (Zx : Int) + (Zy : Int)) = 1 + (Zx : Int) + (Zy : Int) := by simp [IntKind.wrap, IntKind.bits, IntKind.signed]; omega
            have r3 : IntKind.i64.wrap (0 + (Cx : Int)) = 0 + (Cx : Int) := by simp [IntKind.wrap, IntKind.bits, IntKind.signed]; omega
            have r4 : IntKind.i64.wrap (0 + (Cx : Int) + (Cy : Int)) = 0 + (Cx : Int) + (Cy : Int) := by simp [IntKind.wrap, IntKind.bits, IntKind.signed]; omega
            have r5 : ((Zz : Int) == 1 + (Zx : Int) + (Zy : Int)) = true := by rw [beq_iff_eq]; omega
            have r6 : ((Cz : Int) == 0 + (Cx : Int) + (Cy : Int)) = true := by rw [beq_iff_eq]; omega
            have r7 : ((Zz : Int) == (Zz : Int)) = true := by simp
            have r8 : IntKind.i64.wrap (Cx : Int) = (Cx : Int) := by simp [IntKind.wrap, IntKind.bits, IntKind.signed]; omega
            have r9 : IntKind.i64.wrap ((Cx : Int) + (Cy : Int)) = (Cx : Int) + (Cy : Int) := by simp [IntKind.wrap, IntKind.bits, IntKind.signed]; omega
            have r10 : ((Cz : Int) == (Cx : Int) + (Cy : Int)) = true := by rw [beq_iff_eq]; omega
            clear hsz2 hlc hc3 kz' kx'
            have hq : Below wz.heap.size wz wr := kb'
            go_wp2_with fail
            go_region_held3 (fun w' => (w'.cell? ⟨gx, 0, none⟩ = some (.int .i64 ta.f) ∧ w'.cell? ⟨gx, 1, none⟩ = some (.slice ax nx cx)) ∧ (w'.cell? ⟨gy, 0, none⟩ = some (.int .i64 tb.f) ∧ w'.cell? ⟨gy, 1, none⟩ = some (.slice ay ny cy)) ∧ (w'.cell? ⟨w5.heap.size + 1, 0, none⟩ = some (.int .i64 77) ∧ w'.cell? ⟨w5.heap.size + 1, 1, none⟩ = some (.slice (some ⟨w5.heap.size, 0, none⟩) 2 2))) (first | (refine HS.out _ ?_; with_reducible exact hq) | (refine HS.out _ ?_; with_reducible exact bD hq))
              (first
                | (go_at_call 19; with_reducible refine Calls.mono (HZz.out _ ?_) ?_; (first | with_reducible exact hq | with_reducible exact bD hq); rintro e v1 ⟨rfl, hv1⟩; replace hq := bN (by first | with_reducible exact hq | with_reducible exact bD hq) hv1; dsimp only)
                | (go_at_call 19; with_reducible refine Calls.mono (HZx.out _ ?_) ?_; (first | with_reducible exact hq | with_reducible exact bD hq); rintro e v1 ⟨rfl, hv1⟩; replace hq := bN (by first | with_reducible exact hq | with_reducible exact bD hq) hv1; dsimp only)
                | (go_at_call 19; with_reducible refine Calls.mono (HZy.out _ ?_) ?_; (first | with_reducible exact hq | with_reducible exact bD hq); rintro e v1 ⟨rfl, hv1⟩; replace hq := bN (by first | with_reducible exact hq | with_reducible exact bD hq) hv1; dsimp only)
                | (go_at_call 21; with_reducible refine Calls.mono (HCz.out _ ?_) ?_; (first | with_reducible exact hq | with_reducible exact bD hq); rintro e v1 ⟨rfl, hv1⟩; replace hq := bN (by first | with_reducible exact hq | with_reducible exact bD hq) hv1; dsimp only)
                | (go_at_call 21; with_reducible refine Calls.mono (HCx.out _ ?_) ?_; (first | with_reducible exact hq | with_reducible exact bD hq); rintro e v1 ⟨rfl, hv1⟩; replace hq := bN (by first | with_reducible exact hq | with_reducible exact bD hq) hv1; dsimp only)
                | (go_at_call 21; with_reducible refine Calls.mono (HCy.out _ ?_) ?_; (first | with_reducible exact hq | with_reducible exact bD hq); rintro e v1 ⟨rfl, hv1⟩; replace hq := bN (by first | with_reducible exact hq | with_reducible exact bD hq) hv1; dsimp only)
                | (go_at_call 24; with_reducible refine Calls.mono (HPz.out _ ?_) ?_; (first | with_reducible exact hq | with_reducible exact bD hq); rintro e v1 ⟨pa, pc, rfl, hv1⟩; replace hq := bN (by first | with_reducible exact hq | with_reducible exact bD hq) hv1; dsimp only))
            go_wp2_with fail
            go_ret
            exact ⟨rfl, bN HEZ.out hq⟩
end Go.Proofs.Ytkebkmpgejbbhaa
