/-
  The walk of TermSame.
-/
import Derived.Test.YtkebkmpgejbbhaaTmDef
namespace Go.Proofs.Ytkebkmpgejbbhaa
open Go.RowKit
set_option linter.unusedVariables false
set_option linter.unusedSimpArgs false

set_option maxRecDepth 100000 in
set_option maxHeartbeats 4000000 in
theorem termSame_walk (ta tb : Tm) (a b : Option Addr) (na ca nb cb : Nat) (f : Int) (w : World) (ha : Tat (fun _ => True) w ta a na ca) (hb : Tat (fun _ => True) w tb b nb cb) (hf : 0 ≤ f ∧ f ≤ 255) :
    Calls Try.prog 8 #[.agg #[.int .i64 ta.f, .slice a na ca], .agg #[.int .i64 tb.f, .slice b nb cb], .int .u8 f] w fun e w' => e = .returned (.bool true) ∧ Below w.heap.size w w' := by
  obtain ⟨w1, hw1⟩ : ∃ w1, w1 = w.alloc (.cells #[.int .i64 ta.f, .slice a na ca] 24) := ⟨_, rfl⟩
  obtain ⟨w2, hw2⟩ : ∃ w2, w2 = w1.alloc (.cells #[.int .i64 tb.f, .slice b nb cb] 24) := ⟨_, rfl⟩
  have s1 : w1.heap.size = w.heap.size + 1 := by rw [hw1]; simp
  have b1 : Below w.heap.size w w1 := by rw [hw1]; exact bA (bW _) _
  have b2 : Below w1.heap.size w1 w2 := by rw [hw2]; exact bA (bW _) _
  have x1 : Bx w2 24 w.heap.size ta a na ca := Bx.bw (by rw [hw1]; exact Bx.new _ _ _ _ _ _) b2
  have x2 : Bx w2 24 (w.heap.size + 1) tb b nb cb := by rw [hw2, ← s1]; exact Bx.new _ _ _ _ _ _
  have hb0 : Below w.heap.size w w2 := bN b1 b2
  have ha2 := ha.bw hb0
  have hb2' := hb.bw hb0
  have HW : Hid (w2 = (w.alloc (.cells #[.int .i64 ta.f, .slice a na ca] 24)).alloc (.cells #[.int .i64 tb.f, .slice b nb cb] 24)) := by show _ = _; rw [hw2, hw1]
  have HX1 : Hid (∀ V, Below w2.heap.size w2 V → Bx V 24 w.heap.size ta a na ca) := fun V h => x1.bw h
  have HX2 : Hid (∀ V, Below w2.heap.size w2 V → Bx V 24 (w.heap.size + 1) tb b nb cb) := fun V h => x2.bw h
  have HC : Hid (∀ V, Below w2.heap.size w2 V → (V.cell? ⟨w.heap.size, 0, none⟩ = some (.int .i64 ta.f) ∧ V.cell? ⟨w.heap.size, 1, none⟩ = some (.slice a na ca)) ∧ (V.cell? ⟨w.heap.size + 1, 0, none⟩ = some (.int .i64 tb.f) ∧ V.cell? ⟨w.heap.size + 1, 1, none⟩ = some (.slice b nb cb))) := fun V h => ⟨(x1.bw h).cells, (x2.bw h).cells⟩
  have HF : Hid (∀ V, Below w2.heap.size w2 V → Calls Try.prog 10 #[.slice (some ⟨V.heap.size, 0, none⟩) 2 2] (V.alloc (.cells #[.int .i64 ta.f, .slice a na ca, .int .i64 tb.f, .slice b nb cb] 24)) fun e w' => e = .returned (.bool (fineB [ta, tb])) ∧ Below V.heap.size V w') := fun V h => (fine_any (las_two (ha2.bw h) (hb2'.bw h)) (by decide)).mono fun e w' h => ⟨h.1, bN (bA (bW _) _) h.2⟩
  have HA : Hid (∀ V, Below w2.heap.size w2 V → Tat (fun _ => True) V ta a na ca ∧ Tat (fun _ => True) V tb b nb cb) := fun V h => ⟨ha2.bw h, hb2'.bw h⟩
  clear hw1 hw2 s1 b1 b2 x1 x2 ha2 hb2' ha hb
  obtain ⟨⟨c1, c2⟩, c3, c4⟩ := HC.out w2 (bW _)
  go_enter Try.func8, Try.ntmps8
  go_wp2_with fail
  rw [← HW.out]
  refine (alive_any w2).mono ?_
  rintro e w3 ⟨rfl, hb3⟩
  clear c1 c2 c3 c4
  obtain ⟨⟨c1, c2⟩, c3, c4⟩ := HC.out w3 hb3
  by_cases hfine : fineB [ta, tb] = false
  · rw [hfine] at HF
    go_wp2_with (go_at_call 10; refine (HF.out _ hb3).mono ?_; rintro e w4 ⟨rfl, hb4⟩)
    go_ret
    exact ⟨rfl, bN (bN hb0 hb3) hb4⟩
  · have hfine' : fineB [ta, tb] = true := by simpa using hfine
    rw [hfine'] at HF
    have hsm : 0 ≤ smallT ta 60 20 ∧ 0 ≤ smallT tb 60 20 := by simpa [fineB] using hfine'
    have wta := fine_wt hsm.1
    have wtb := fine_wt hsm.2
    clear hfine hfine'
    go_wp2_with (go_at_call 10; refine (HF.out _ hb3).mono ?_; rintro e w4 ⟨rfl, hb4⟩)
    have hq0 : Below w2.heap.size w2 w4 := bN hb3 hb4
    clear c1 c2 c3 c4 hb3 hb4 HF
    have HOa : Hid (∀ V, Below w4.heap.size w4 V → Calls Try.prog 11 #[.agg #[.int .i64 ta.f, .slice a na ca]] V (OfSays V ta)) := fun V h => of_any ta _ a na ca V (HA.out V (bN hq0 h)).1 (by omega)
    have HOb : Hid (∀ V, Below w4.heap.size w4 V → Calls Try.prog 11 #[.agg #[.int .i64 tb.f, .slice b nb cb]] V (OfSays V tb)) := fun V h => of_any tb _ b nb cb V (HA.out V (bN hq0 h)).2 (by omega)
    have HC4 : Hid (∀ V, Below w4.heap.size w4 V → (V.cell? ⟨w.heap.size, 0, none⟩ = some (.int .i64 ta.f) ∧ V.cell? ⟨w.heap.size, 1, none⟩ = some (.slice a na ca)) ∧ (V.cell? ⟨w.heap.size + 1, 0, none⟩ = some (.int .i64 tb.f) ∧ V.cell? ⟨w.heap.size + 1, 1, none⟩ = some (.slice b nb cb))) := fun V h => HC.out V (bN hq0 h)
    have X1 : Bx w4 24 w.heap.size ta a na ca := HX1.out w4 hq0
    have X2 : Bx w4 24 (w.heap.size + 1) tb b nb cb := HX2.out w4 hq0
    refine wp_def2 21 23 22 24 7 8 3 4 ta tb w.heap.size (w.heap.size + 1) a b na nb ca cb ?hops ?hs rfl X1 HOa.out rfl X2 HOb.out ?_
    case hops =>
      exact ⟨rfl, by kernel_rfl, fun i hi => match i, hi with | 0, _ => ⟨_, _, _, rfl⟩ | 1, _ => ⟨_, _, _, rfl⟩, fun i hi => match i, hi with | 0, _ => ⟨_, _, _, _, rfl, by kernel_rfl⟩ | 1, _ => ⟨_, _, _, _, rfl, by kernel_rfl⟩, fun i hi => match i, hi with | 0, _ => ⟨_, _, _, rfl⟩ | 1, _ => ⟨_, _, _, rfl⟩, fun i hi => match i, hi with | 0, _ => ⟨_, _, _, rfl, by kernel_rfl, by kernel_rfl⟩ | 1, _ => ⟨_, _, _, rfl, by kernel_rfl, by kernel_rfl⟩⟩
    case hs =>
      show Slots 2 108 _ _ _ _
      exact slots_of (by decide)
    intro w5 ax nx cx gx ay ny cy gy bx tx by_ ty b5
    simp only [List.setIfInBounds_toArray, List.set_cons_succ, List.set_cons_zero]
    have HEND : Hid (Below w.heap.size w w5) := bN (bN hb0 hq0) b5
    have HSZ : Hid (ta.size ≤ 60 ∧ tb.size ≤ 60) := ⟨Nat.le_trans ta.size_wt wta, Nat.le_trans tb.size_wt wtb⟩
    have HXY : Hid (Calls Try.prog 17 #[.agg #[.int .i64 ta.f, .slice ax nx cx], .agg #[.int .i64 tb.f, .slice ay ny cy]] w5 fun e w' => e = .returned (.bool (sameT ta tb)) ∧ Below w5.heap.size w5 w') := same_any _ _ _ _ _ _ _ _ w5 tx ty
    obtain ⟨c1, c2⟩ := bx.cells
    obtain ⟨c3, c4⟩ := by_.cells
    clear HOa HOb X1 X2 HC4 HX1 HX2 HA HC HW
    go_wp2_with (go_at_call 17; refine HXY.out.mono ?_; rintro e w6 ⟨rfl, b6⟩)
    have HB : Hid (∀ V, Below w6.heap.size w6 V → (V.cell? ⟨gx, 0, none⟩ = some (.int .i64 ta.f) ∧ V.cell? ⟨gx, 1, none⟩ = some (.slice ax nx cx)) ∧ (V.cell? ⟨gy, 0, none⟩ = some (.int .i64 tb.f) ∧ V.cell? ⟨gy, 1, none⟩ = some (.slice ay ny cy))) := fun V h => ⟨(bx.bw (bN b6 h)).cells, (by_.bw (bN b6 h)).cells⟩
    have TX := tx.bw b6
    have TY := ty.bw b6
    clear c1 c2 c3 c4
    obtain ⟨⟨c1, c2⟩, c3, c4⟩ := HB.out w6 (bW _)
    have hq : Below w6.heap.size w6 w6 := bW _
    have hff : -9223372036854775808 ≤ f ∧ f ≤ 9223372036854775807 := by omega
    have HF := hid hf
    go_upto_region 7 with fail
    go_cut [10, 11] from 28 to 39 (fun x y wcut => Pq w6 f ta tb ax nx cx x y wcut)
    case first =>
      have hwr0 : IntKind.i64.wrap f = f := by simp [IntKind.wrap, IntKind.bits, IntKind.signed]; omega
      clear HEND HSZ HXY HF hf b6 bx by_ b5 hq0 hb0 tx ty hsm wta wtb
      go_region_held3 (fun w' => (w'.cell? ⟨gx, 0, none⟩ = some (.int .i64 ta.f) ∧ w'.cell? ⟨gx, 1, none⟩ = some (.slice ax nx cx)) ∧ (w'.cell? ⟨gy, 0, none⟩ = some (.int .i64 tb.f) ∧ w'.cell? ⟨gy, 1, none⟩ = some (.slice ay ny cy))) (first | (refine HB.out _ ?_; first | with_reducible exact hq | with_reducible exact bD (hq) | with_reducible exact bA hq _ | with_reducible exact bD (bA hq _) | with_reducible exact bA (bA hq _) _ | with_reducible exact bD (bA (bA hq _) _) | with_reducible exact bA (bA (bA hq _) _) _ | with_reducible exact bD (bA (bA (bA hq _) _) _) | with_reducible exact bA (bA (bA (bA hq _) _) _) _ | with_reducible exact bD (bA (bA (bA (bA hq _) _) _) _)) | (refine HB.out _ (bD ?_); first | (refine bS (bS ?_ ?_ _) ?_ _ <;> first | with_reducible exact bA (bA (bA (bA hq _) _) _) _ | (simp; done) | (simp; omega)) | (refine bS (bS (bS (bS ?_ ?_ _) ?_ _) ?_ _) ?_ _ <;> first | with_reducible exact bA (bA (bA (bA hq _) _) _) _ | (simp; done) | (simp; omega))))
        (fail)
      all_goals go_wp2_with fail
      all_goals go_meet
      all_goals (
        apply pq_all (hf := hff) (hW := bD (bA (bA (bA (bA (bW _) _) _) _) _)) (htx := TX) (hty := TY)
        · (rw [heap_drew]; first | (refine alloc_at ?_; first | with_reducible rfl | (simp only [World.size_alloc]; done)) | (refine (alloc_on ?_).trans ?_; (focus (simp only [World.size_alloc]; omega)); first | (refine alloc_at ?_; first | with_reducible rfl | (simp only [World.size_alloc]; done)) | (refine (alloc_on ?_).trans ?_; (focus (simp only [World.size_alloc]; omega)); first | (refine alloc_at ?_; first | with_reducible rfl | (simp only [World.size_alloc]; done)) | (refine (alloc_on ?_).trans ?_; (focus (simp only [World.size_alloc]; omega)); (refine alloc_at ?_; first | with_reducible rfl | (simp only [World.size_alloc]; done))))))
        · (rw [heap_drew]; first | (refine alloc_at ?_; first | with_reducible rfl | (simp only [World.size_alloc]; done)) | (refine (alloc_on ?_).trans ?_; (focus (simp only [World.size_alloc]; omega)); first | (refine alloc_at ?_; first | with_reducible rfl | (simp only [World.size_alloc]; done)) | (refine (alloc_on ?_).trans ?_; (focus (simp only [World.size_alloc]; omega)); first | (refine alloc_at ?_; first | with_reducible rfl | (simp only [World.size_alloc]; done)) | (refine (alloc_on ?_).trans ?_; (focus (simp only [World.size_alloc]; omega)); (refine alloc_at ?_; first | with_reducible rfl | (simp only [World.size_alloc]; done))))))
        · (rw [heap_drew]; first | (refine alloc_at ?_; first | with_reducible rfl | (simp only [World.size_alloc]; done)) | (refine (alloc_on ?_).trans ?_; (focus (simp only [World.size_alloc]; omega)); first | (refine alloc_at ?_; first | with_reducible rfl | (simp only [World.size_alloc]; done)) | (refine (alloc_on ?_).trans ?_; (focus (simp only [World.size_alloc]; omega)); first | (refine alloc_at ?_; first | with_reducible rfl | (simp only [World.size_alloc]; done)) | (refine (alloc_on ?_).trans ?_; (focus (simp only [World.size_alloc]; omega)); (refine alloc_at ?_; first | with_reducible rfl | (simp only [World.size_alloc]; done))))))
        · (rw [heap_drew]; first | (refine alloc_at ?_; first | with_reducible rfl | (simp only [World.size_alloc]; done)) | (refine (alloc_on ?_).trans ?_; (focus (simp only [World.size_alloc]; omega)); first | (refine alloc_at ?_; first | with_reducible rfl | (simp only [World.size_alloc]; done)) | (refine (alloc_on ?_).trans ?_; (focus (simp only [World.size_alloc]; omega)); first | (refine alloc_at ?_; first | with_reducible rfl | (simp only [World.size_alloc]; done)) | (refine (alloc_on ?_).trans ?_; (focus (simp only [World.size_alloc]; omega)); (refine alloc_at ?_; first | with_reducible rfl | (simp only [World.size_alloc]; done)))))))
    case rest =>
      obtain ⟨gp, gq, rp, rq, rfl, rfl, bp, bq, tp, tq, hrow, b7⟩ := hcut
      have HCL : Hid (Calls Try.prog 23 #[.agg #[.int .i64 f, .slice (some ⟨rp, 0, none⟩) 2 2]] wc (CloneSays wc (.mk f [ta, tb]))) := clone_any (.mk f [ta, tb]) _ _ _ wc tp (by rw [Tm.size_eq]; have := HSZ.out; unfold Tm.ps; split <;> simp [Tm.size] at * <;> omega)
      have hps : (Tm.mk f [ta, tb]).ps = [ta, tb] := Tm.ps_of_sym (t := .mk f [ta, tb]) HF.out.1
      have HCQ : Hid (Calls Try.prog 23 #[.agg #[.int .i64 f, .slice (some ⟨rp, 0, none⟩) 2 2]] wc fun e w7 => ∃ (r c7 : Nat) (u0 u1 : Value), e = .returned (.agg #[.int .i64 f, .slice (some ⟨r, 0, none⟩) 2 c7]) ∧ wc.heap.size ≤ r ∧ r < w7.heap.size ∧ 2 ≤ c7 ∧ Below wc.heap.size wc w7 ∧ w7.cell? ⟨r, 0, none⟩ = some u0 ∧ w7.cell? ⟨r, 1, none⟩ = some u1 ∧ w7.frozen? ⟨r, 0, none⟩ = false ∧ w7.frozen? ⟨r, 1, none⟩ = false ∧ Las (fun _ => True) ((w7.setCell ⟨r, 0, none⟩ (.int .i64 999)).setCell ⟨r, 1, none⟩ (.slice none 0 0)) [⟨999, []⟩, tb.strip] (some ⟨r, 0, none⟩) 2 c7) := HCL.out.mono fun e w7 hcs => by
        obtain ⟨a7, c7, h1, h2, h3⟩ := hcs
        rw [hps] at h1 h2
        obtain ⟨r, h4, h5, h6, h7, k4, k5, k6⟩ := own_store 999 (by decide) h2
        subst h4
        have hlt : r < w7.heap.size := (h2.lt rfl).2
        obtain ⟨u0, e0⟩ := Option.isSome_iff_exists.1 h6
        obtain ⟨u1, e1⟩ := Option.isSome_iff_exists.1 h7
        exact ⟨r, c7, u0, u1, h1, h5, hlt, k6.2.1, h3, e0, e1, k4, k5, k6⟩
      obtain ⟨d1, d2⟩ := bp.cells
      clear c1 c2 c3 c4 HCL
      go_upto_region 8 with fail
      go_upto_region 10 with (go_at_call 23; refine HCQ.out.mono ?_; rintro e w7 ⟨r, c7, u0, u1, rfl, hr1, hr2, hr3, b8, e1, e2, e3, e4, hlas⟩)
      obtain ⟨w9, hw9⟩ : ∃ w9, w9 = ((w7.setCell ⟨r, 0, none⟩ (.int .i64 999)).setCell ⟨r, 1, none⟩ (.slice none 0 0)).alloc (.cells #[.int .i64 f, .slice (some ⟨r, 0, none⟩) 2 c7] 29) := ⟨_, rfl⟩
      rw [← hw9]
      have b9 : Below wc.heap.size wc w9 := by rw [hw9]; exact bA (bS (bS b8 (p := ⟨r, 0, none⟩) hr1 _) (p := ⟨r, 1, none⟩) hr1 _) _
      have tc9 : Tat (fun _ => True) w9 (.mk f [⟨999, []⟩, tb.strip]) (some ⟨r, 0, none⟩) 2 c7 := tat_iff.2 ⟨hff, by rw [hw9]; exact hlas.bw (bA (bW _) _)⟩
      have bc9 : Bx w9 29 w7.heap.size (.mk f [⟨999, []⟩, tb.strip]) (some ⟨r, 0, none⟩) 2 c7 := by
        rw [hw9, show w7.heap.size = ((w7.setCell ⟨r, 0, none⟩ (.int .i64 999)).setCell ⟨r, 1, none⟩ (.slice none 0 0)).heap.size by simp]
        exact Bx.new _ _ (.mk f [⟨999, []⟩, tb.strip]) _ _ _
      have b69 : Below w6.heap.size w6 w9 := bN b7 b9
      obtain ⟨⟨c1, c2⟩, c3, c4⟩ := HB.out w9 b69
      clear hw9 hlas e1 e2 e3 e4 HCQ hps d1 d2
      -- v
      obtain ⟨wv, hwv⟩ : ∃ wv, wv = (w9.alloc (.cells #[.int .i64 ta.f, .slice ax nx cx] 29)).alloc (.cells #[.int .i64 (-1 - f), .slice (some ⟨w9.heap.size, 0, none⟩) 1 1] 29) := ⟨_, rfl⟩
      have HWV := hid hwv
      have bv9 : Below w9.heap.size w9 wv := by rw [hwv]; exact bA (bA (bW _) _) _
      have hfv : -9223372036854775808 ≤ -1 - f ∧ -1 - f ≤ 9223372036854775807 := by have := HF.out; omega
      have tv9 : Tat (fun _ => True) wv (.mk (-1 - f) [ta]) (some ⟨w9.heap.size, 0, none⟩) 1 1 := by
        refine tat_iff.2 ⟨hfv, ?_⟩
        rw [hwv]
        exact (las_one (TX.bw b69)).bw (bA (bW _) _)
      have bvv : Bx wv 29 (w9.heap.size + 1) (.mk (-1 - f) [ta]) (some ⟨w9.heap.size, 0, none⟩) 1 1 := by
        rw [hwv, show w9.heap.size + 1 = (w9.alloc (.cells #[.int .i64 ta.f, .slice ax nx cx] 29)).heap.size by simp]
        exact Bx.new _ _ (.mk (-1 - f) [ta]) _ _ _
      clear hwv
      have hneg : -1 - f ≤ -1 := by have := HF.out; omega
      have hf0 := HF.out.1
      have hf1 := HF.out.2
      go_upto_region 11 with fail
      rw [← HWV.out]
      have hrl : rp < wc.heap.size := by
        obtain ⟨b', off', s', a', n', c', h1, _, h2, _⟩ := tp.las.at (i := 0) (by decide)
        cases h1
        exact h2
      have HS : Hid (∀ V, Below wv.heap.size wv V → (V.cell? ⟨gx, 0, none⟩ = some (.int .i64 ta.f) ∧ V.cell? ⟨gx, 1, none⟩ = some (.slice ax nx cx)) ∧ (V.cell? ⟨gp, 0, none⟩ = some (.int .i64 f) ∧ V.cell? ⟨gp, 1, none⟩ = some (.slice (some ⟨rp, 0, none⟩) 2 2)) ∧ (V.cell? ⟨gq, 0, none⟩ = some (.int .i64 f) ∧ V.cell? ⟨gq, 1, none⟩ = some (.slice (some ⟨rq, 0, none⟩) 2 2)) ∧ (V.cell? ⟨w7.heap.size, 0, none⟩ = some (.int .i64 f) ∧ V.cell? ⟨w7.heap.size, 1, none⟩ = some (.slice (some ⟨r, 0, none⟩) 2 c7)) ∧ (V.cell? ⟨w9.heap.size + 1, 0, none⟩ = some (.int .i64 (-1 - f)) ∧ V.cell? ⟨w9.heap.size + 1, 1, none⟩ = some (.slice (some ⟨w9.heap.size, 0, none⟩) 1 1)) ∧ (V.cell? ⟨rp, 0, none⟩ = some (.int .i64 ta.f) ∧ V.cell? ⟨rp, 1, none⟩ = some (.slice ax nx cx))) := fun V h => by
        have h6 : Below w6.heap.size w6 V := bN (bN b69 bv9) h
        have hc6 : Below wc.heap.size wc V := bN (bN b9 bv9) h
        refine ⟨(HB.out V h6).1, (bp.bw hc6).cells, (bq.bw hc6).cells, (bc9.bw (bN bv9 h)).cells, (bvv.bw h).cells, ?_⟩
        obtain ⟨q1, q2⟩ := hrow
        exact ⟨(hc6.cell (p := ⟨rp, 0, none⟩) hrl).trans q1, (hc6.cell (p := ⟨rp, 1, none⟩) hrl).trans q2⟩
      have TXv : Hid (∀ V, Below wv.heap.size wv V → Tat (fun _ => True) V ta ax nx cx) := fun V h => TX.bw (bN (bN b69 bv9) h)
      have TPv : Hid (∀ V, Below wv.heap.size wv V → Tat (fun _ => True) V (.mk f [ta, tb]) (some ⟨rp, 0, none⟩) 2 2) := fun V h => tp.bw (bN (bN b9 bv9) h)
      have TQv : Hid (∀ V, Below wv.heap.size wv V → Tat (fun _ => True) V (.mk f [tb, ta]) (some ⟨rq, 0, none⟩) 2 2) := fun V h => tq.bw (bN (bN b9 bv9) h)
      have H1 : Hid (∀ V, Below wv.heap.size wv V → Calls Try.prog 17 #[.agg #[.int .i64 f, .slice (some ⟨rp, 0, none⟩) 2 2], .agg #[.int .i64 f, .slice (some ⟨rq, 0, none⟩) 2 2]] V fun e w' => e = .returned (.bool (sameT ta tb)) ∧ Below V.heap.size V w') := fun V h => by
        rw [← same_pq ta tb hf0]; exact same_any _ _ _ _ _ _ _ _ V (TPv.out V h) (TQv.out V h)
      have H2 : Hid (∀ V, Below wv.heap.size wv V → Calls Try.prog 17 #[.agg #[.int .i64 ta.f, .slice ax nx cx], .agg #[.int .i64 ta.f, .slice ax nx cx]] V fun e w' => e = .returned (.bool true) ∧ Below V.heap.size V w') := fun V h => by
        have h1 := same_any ta ta _ _ _ _ _ _ V (TXv.out V h) (TXv.out V h)
        rw [(sameT_iff ta ta).2 rfl] at h1
        exact h1
      have H3 : Hid (∀ V, Below wv.heap.size wv V → Calls Try.prog 17 #[.agg #[.int .i64 f, .slice (some ⟨r, 0, none⟩) 2 c7], .agg #[.int .i64 f, .slice (some ⟨rp, 0, none⟩) 2 2]] V fun e w' => e = .returned (.bool (sameT ta ⟨999, []⟩)) ∧ Below V.heap.size V w') := fun V h => by
        rw [← same_cp ta tb hf0]; exact same_any _ _ _ _ _ _ _ _ V (tc9.bw (bN bv9 h)) (TPv.out V h)
      have H4 : Hid (∀ V, Below wv.heap.size wv V → Calls Try.prog 17 #[.agg #[.int .i64 ta.f, .slice ax nx cx], .agg #[.int .i64 999, .slice none 0 0]] V fun e w' => e = .returned (.bool (sameT ta ⟨999, []⟩)) ∧ Below V.heap.size V w') := fun V h => same_any ta ⟨999, []⟩ _ _ _ _ _ _ V (TXv.out V h) (tat_nil _ (by decide))
      have H5 : Hid (∀ V, Below wv.heap.size wv V → Calls Try.prog 17 #[.agg #[.int .i64 (-1 - f), .slice (some ⟨w9.heap.size, 0, none⟩) 1 1], .agg #[.int .i64 (-1 - f), .slice none 0 0]] V fun e w' => e = .returned (.bool true) ∧ Below V.heap.size V w') := fun V h => by
        rw [← same_var (f := -1 - f) [ta] [] (by omega)]; exact same_any _ _ _ _ _ _ _ _ V (tv9.bw h) (tat_nil _ hfv)
      have H6 : Hid (∀ V, Below wv.heap.size wv V → Calls Try.prog 24 #[.agg #[.int .i64 (-1 - f), .slice (some ⟨w9.heap.size, 0, none⟩) 1 1]] V fun e w' => ∃ pa pc, e = .returned (.slice pa 1 pc) ∧ Below V.heap.size V w') := fun V h => by
        have hz : (Tm.mk (-1 - f) [ta]).size = 1 := by rw [Tm.size_eq, Tm.ps_of_var (t := .mk (-1 - f) [ta]) (by show -1 - f < 0; omega)]; rfl
        refine (places_any (tv9.bw h) (by rw [hz]; decide)).mono ?_
        rintro e w' ⟨pa, pc, h1, _, h2⟩
        rw [hz] at h1
        exact ⟨pa, pc, h1, h2⟩
      have H7 : Hid (∀ V, Below wv.heap.size wv V → Calls Try.prog 18 #[.agg #[.int .i64 f, .slice (some ⟨rp, 0, none⟩) 2 2], .agg #[.int .i64 f, .slice (some ⟨rq, 0, none⟩) 2 2]] V fun e w' => e = .returned (.int .i64 (cmpT (.mk f [ta, tb]) (.mk f [tb, ta]))) ∧ Below V.heap.size V w') := fun V h => compare_any _ _ _ _ _ _ _ _ V (TPv.out V h) (TQv.out V h)
      have H8 : Hid (∀ V, Below wv.heap.size wv V → Calls Try.prog 17 #[.agg #[.int .i64 f, .slice (some ⟨rp, 0, none⟩) 2 2], .agg #[.int .i64 f, .slice (some ⟨V.heap.size, 0, none⟩) 1 1]] (V.alloc (.cells #[.int .i64 ta.f, .slice ax nx cx] 29)) fun e w' => e = .returned (.bool false) ∧ Below V.heap.size V w') := fun V h => by
        have h1 := same_any (.mk f [ta, tb]) (.mk f [ta]) _ _ _ _ _ _ (V.alloc (.cells #[.int .i64 ta.f, .slice ax nx cx] 29)) ((TPv.out V h).bw (bA (bW _) _)) (tat_iff.2 ⟨hff, las_one (TXv.out V h)⟩)
        rw [same_len _ _ hf0 (by simp)] at h1
        exact h1.mono fun e w' h2 => ⟨h2.1, bN (bA (bW _) _) h2.2⟩
      have HK : Hid ((cmpT (.mk f [ta, tb]) (.mk f [tb, ta]) == 0) = sameT ta tb) := by
        have := same_pq ta tb hf0
        unfold sameT at this ⊢
        exact this
      obtain ⟨K0, hK0⟩ : ∃ K0, K0 = cmpT (.mk f [ta, tb]) (.mk f [tb, ta]) := ⟨_, rfl⟩
      obtain ⟨sm, hsm'⟩ : ∃ sm, sm = sameT ta tb := ⟨_, rfl⟩
      obtain ⟨zz, hzz⟩ : ∃ zz, zz = sameT ta ⟨999, []⟩ := ⟨_, rfl⟩
      rw [← hK0] at H7 HK
      rw [← hsm'] at H1 HK ⊢
      rw [← hzz] at H3 H4
      have hkk := HK.out
      have hwr : IntKind.i64.wrap f = f := by simp [IntKind.wrap, IntKind.bits, IntKind.signed]; omega
      have hwr2 : IntKind.i64.wrap (-1 - f) = -1 - f := by simp [IntKind.wrap, IntKind.bits, IntKind.signed]; omega
      have hss : (sm == sm) = true := by simp
      have hz1 : (!zz == !zz) = true := by simp
      have hkb : ((K0 == 0) == sm) = true := by rw [hkk]; simp
      have HE9 : Hid (Below w.heap.size w wv) := bN (bN (bN HEND.out b6) b69) bv9
      clear hK0 hsm' hzz TXv TPv TQv tv9 bvv bv9 tc9 bc9 b9 b69 bp bq tp tq b7 b8 HB TX TY tx ty bx by_ b5 b6 hq0 hb0 hsm wta wtb HSZ HXY HWV hrow hrl HK hq c1 c2 c3 c4
      have hq : Below wv.heap.size wv wv := bW _
      go_region_held3 (fun w' => (w'.cell? ⟨gx, 0, none⟩ = some (.int .i64 ta.f) ∧ w'.cell? ⟨gx, 1, none⟩ = some (.slice ax nx cx)) ∧ (w'.cell? ⟨gp, 0, none⟩ = some (.int .i64 f) ∧ w'.cell? ⟨gp, 1, none⟩ = some (.slice (some ⟨rp, 0, none⟩) 2 2)) ∧ (w'.cell? ⟨gq, 0, none⟩ = some (.int .i64 f) ∧ w'.cell? ⟨gq, 1, none⟩ = some (.slice (some ⟨rq, 0, none⟩) 2 2)) ∧ (w'.cell? ⟨w7.heap.size, 0, none⟩ = some (.int .i64 f) ∧ w'.cell? ⟨w7.heap.size, 1, none⟩ = some (.slice (some ⟨r, 0, none⟩) 2 c7)) ∧ (w'.cell? ⟨w9.heap.size + 1, 0, none⟩ = some (.int .i64 (-1 - f)) ∧ w'.cell? ⟨w9.heap.size + 1, 1, none⟩ = some (.slice (some ⟨w9.heap.size, 0, none⟩) 1 1)) ∧ (w'.cell? ⟨rp, 0, none⟩ = some (.int .i64 ta.f) ∧ w'.cell? ⟨rp, 1, none⟩ = some (.slice ax nx cx))) (first | (refine HS.out _ ?_; with_reducible exact hq) | (refine HS.out _ ?_; with_reducible exact bD hq) | (refine HS.out _ ?_; with_reducible exact bA hq _) | (refine HS.out _ ?_; with_reducible exact bA (bD hq) _) | (refine HS.out _ ?_; with_reducible exact bD (bA hq _)))
        (first
          | (go_at_call 17; with_reducible refine Calls.mono (H1.out _ ?_) ?_; (first | with_reducible exact hq | with_reducible exact bD hq); rintro e v1 ⟨rfl, hv1⟩; replace hq := bN (by first | with_reducible exact hq | with_reducible exact bD hq) hv1; clear hv1; dsimp only)
          | (go_at_call 17; with_reducible refine Calls.mono (H2.out _ ?_) ?_; (first | with_reducible exact hq | with_reducible exact bD hq); rintro e v1 ⟨rfl, hv1⟩; replace hq := bN (by first | with_reducible exact hq | with_reducible exact bD hq) hv1; clear hv1; dsimp only)
          | (go_at_call 17; with_reducible refine Calls.mono (H3.out _ ?_) ?_; (first | with_reducible exact hq | with_reducible exact bD hq); rintro e v1 ⟨rfl, hv1⟩; replace hq := bN (by first | with_reducible exact hq | with_reducible exact bD hq) hv1; clear hv1; dsimp only)
          | (go_at_call 17; with_reducible refine Calls.mono (H4.out _ ?_) ?_; (first | with_reducible exact hq | with_reducible exact bD hq); rintro e v1 ⟨rfl, hv1⟩; replace hq := bN (by first | with_reducible exact hq | with_reducible exact bD hq) hv1; clear hv1; dsimp only)
          | (go_at_call 17; with_reducible refine Calls.mono (H5.out _ ?_) ?_; (first | with_reducible exact hq | with_reducible exact bD hq); rintro e v1 ⟨rfl, hv1⟩; replace hq := bN (by first | with_reducible exact hq | with_reducible exact bD hq) hv1; clear hv1; dsimp only)
          | (go_at_call 24; with_reducible refine Calls.mono (H6.out _ ?_) ?_; (first | with_reducible exact hq | with_reducible exact bD hq); rintro e v1 ⟨pa, pc, rfl, hv1⟩; replace hq := bN (by first | with_reducible exact hq | with_reducible exact bD hq) hv1; clear hv1; dsimp only)
          | (go_at_call 18; with_reducible refine Calls.mono (H7.out _ ?_) ?_; (first | with_reducible exact hq | with_reducible exact bD hq); rintro e v1 ⟨rfl, hv1⟩; replace hq := bN (by first | with_reducible exact hq | with_reducible exact bD hq) hv1; clear hv1; dsimp only)
          | (go_at_call 17; with_reducible refine Calls.mono (H8.out _ ?_) ?_; (first | with_reducible exact hq | with_reducible exact bD hq); rintro e v1 ⟨rfl, hv1⟩; replace hq := bN (by first | with_reducible exact hq | with_reducible exact bD hq) hv1; clear hv1; dsimp only))
      go_wp2_with fail
      go_ret
      exact ⟨rfl, bN HE9.out hq⟩
end Go.Proofs.Ytkebkmpgejbbhaa
