/-
  The walk of the law on names: which names files may have, that 64 may be, and that renaming over a file leaves one.
-/
import Derived.Test.YtngkapddobgfaaaDiskModel
namespace Go.Proofs.Ytngkapddobgfaaa
open Go.RowKit Go.Maps
set_option linter.unusedVariables false

def nmK (i : Nat) : List UInt8 := [102, UInt8.ofNat (33 + i)]
def mkK (i : Nat) : ActL := ⟨0, nmK i, [], [], 0, 0⟩
def LN (k : Nat) : List FileL := (List.range k).map fun i => (nmK i, [])
def actA : ActL := ⟨1, [102, 33], [], [97, 98], 0, 0⟩
def actR : ActL := ⟨3, [102, 33], [102, 34], [], 0, 0⟩

theorem ln_step : ∀ k < 64, wrongL 100 (LN k) (mkK k) = 0 ∧ doneF (LN k) (mkK k) = LN (k + 1) := by decide +kernel
theorem ln_full : ∀ k < 80, 64 ≤ k → wrongL 100 (LN 64) (mkK k) = 4 := by decide +kernel
theorem ln_rest : ∀ k < 65, 2 ≤ k → wrongL 100 (LN k) actA = 0 ∧ wrongL 100 (doneF (LN k) actA) actR = 0 ∧ getG (doneF (doneF (LN k) actA) actR) [102, 34] = some [97, 98] ∧
    (doneF (doneF (LN k) actA) actR).length + 1 = (doneF (LN k) actA).length ∧ wrongL 100 (doneF (doneF (LN k) actA) actR) actR = 5 := by decide +kernel

theorem ln_min {j : Nat} (hj : j < 80) : wrongL 100 (LN (min j 64)) (mkK j) = (if j < 64 then 0 else 4) ∧ stepL 100 (LN (min j 64)) (mkK j) = LN (min (j + 1) 64) := by
  by_cases h : j < 64
  · obtain ⟨h1, h2⟩ := ln_step j h
    rw [Nat.min_eq_left (by omega), Nat.min_eq_left (by omega), if_pos h, h1]
    exact ⟨rfl, by unfold stepL; rw [if_pos h1, h2]⟩
  · have h1 := ln_full j hj (by omega)
    rw [Nat.min_eq_right (by omega), Nat.min_eq_right (by omega), if_neg h, h1]
    exact ⟨rfl, by unfold stepL; rw [h1]; rfl⟩

theorem first_make (nm : List UInt8) : doE (newS 100) ⟨0, nm, [], [], 0, 0⟩ = if badN nm then 1 else 0 := by
  rw [(idle_do (idle_new 100) ⟨0, nm, [], [], 0, 0⟩).2.2.1]
  unfold wrongL
  cases badN nm
  · rfl
  · rfl
theorem bad_size (nm : ByteArray) : badN nm.toList = (decide (nm.size < 1) || decide (16 < nm.size)) := by unfold badN; rw [size_list]

def nF : ByteArray := { data := #[102, 33] }
def nG : ByteArray := { data := #[102, 34] }
theorem nF_list : nF.toList = [102, 33] := by rw [ByteArray.toList_eq]; rfl
theorem nG_list : nG.toList = [102, 34] := by rw [ByteArray.toList_eq]; rfl
theorem nmK_list (j : Nat) : (strOfNums [102, 33 + (j : Int)]).toList = nmK j := by
  rw [ByteArray.toList_eq, strOfNums_data]
  show [UInt8.ofNat 102, UInt8.ofNat (33 + (j : Int)).toNat] = _
  rw [show (33 + (j : Int)).toNat = 33 + j by omega]
  rfl
theorem ln_length (k : Nat) : (LN k).length = k := by simp [LN]

set_option maxRecDepth 100000 in
set_option maxHeartbeats 1000000 in
theorem diskNames_walk (nm : ByteArray) (N : Nat) (w : World) (hN : N ≤ 255) (hnm : nm.size ≤ maxLen) :
    Calls Try.prog 7 #[.string nm, .int .u8 (N : Int)] w fun e w' => e = .returned (.bool true) ∧ Below w.heap.size w w' := by
  obtain ⟨B, hB⟩ : ∃ B, B = w.heap.size := ⟨_, rfl⟩
  rw [← hB]
  have hBw : B ≤ w.heap.size := by omega
  have halive := alive_any w
  rw [← hB] at halive
  clear hB
  by_cases h60 : 60 < nm.size
  · go_enter Try.func7, Try.ntmps7
    go_wp2_with fail
    refine halive.mono ?_
    rintro e w1 ⟨rfl, hb1⟩
    go_wp2
    go_ret
    exact ⟨rfl, hb1⟩
  · have hfm := first_make nm.toList
    have hbs := bad_size nm
    have hk80 : N % 80 < 80 := Nat.mod_lt _ (by omega)
    obtain ⟨k, hk⟩ : ∃ k, k = N % 80 := ⟨_, rfl⟩
    have hkI : Int.tmod (N : Int) 80 = (k : Int) := by rw [Int.tmod_eq_emod_of_nonneg (by omega)]; omega
    rw [← hk] at hk80
    clear hk
    obtain ⟨C, hC⟩ : ∃ C : Int, C = if badN nm.toList then 1 else 0 := ⟨_, rfl⟩
    rw [← hC] at hfm
    have hcase : (nm.size < 1 ∧ C = 1) ∨ (¬ nm.size < 1 ∧ 16 < nm.size ∧ C = 1) ∨ (¬ nm.size < 1 ∧ ¬ 16 < nm.size ∧ C = 0) := by
      by_cases q1 : nm.size < 1
      · exact .inl ⟨q1, by rw [hC, hbs, decide_eq_true q1]; rfl⟩
      · by_cases q2 : 16 < nm.size
        · exact .inr (.inl ⟨q1, q2, by rw [hC, hbs, decide_eq_true q2, Bool.or_true]; rfl⟩)
        · exact .inr (.inr ⟨q1, q2, by rw [hC, hbs, decide_eq_false q1, decide_eq_false q2]; rfl⟩)
    clear hC hbs
    go_enter Try.func7, Try.ntmps7
    go_wp2_with fail
    refine halive.mono ?_
    rintro e w1 ⟨rfl, hb1⟩
    have hs1 := hb1.size
    go_wp2_with fail
    refine (new_t (Old B) 100 w1 (fun i hi => Nat.lt_of_lt_of_le hi (by omega)) (by omega) (by omega)).mono ?_
    rintro e w2 ⟨rfl, hD2, hb2⟩
    have hm := make_t _ _ _ w2 hD2 nm (by decide) hnm
    rw [show (100 : Int).toNat = 100 from rfl, hfm] at hm
    have hs2 := hb2.size
    have HB2 : Hid (Below B w w2) := hb1.trans (hb2.mono (by omega))
    clear hfm halive hb1 hb2 hD2
    go_wp2_with fail
    refine hm.mono ?_
    rintro e w3 ⟨rfl, hD3, hk3⟩
    have hb3 : Below B w w3 := HB2.out.trans (hk3.old (by omega))
    have HB3 : Hid (Below B w w3) := hb3
    have hs3 := hb3.size
    clear hm hD3 hk3 hb3 HB2
    have hnew := new_t (Old B) 100 w3 (fun i hi => Nat.lt_of_lt_of_le hi (by omega)) (by omega) (by omega)
    rw [show (100 : Int).toNat = 100 from rfl] at hnew
    rcases hcase with ⟨q1, rfl⟩ | ⟨q1, q2, rfl⟩ | ⟨q1, q2, rfl⟩
    all_goals (
      go_wp2_with fail
      refine hnew.mono ?_
      rintro e w4 ⟨rfl, hD4, hb4⟩
      have hb4' : Below B w w4 := HB3.out.trans (hb4.mono (by omega))
      have HB4 : Hid (Below B w w4) := hb4'
      have hs4 := hb4'.size
      clear hnew hb4 hb4' HB3
      go_wp2_with fail
      go_loopw [12] (fun iv wr => ∃ (j : Nat) (st : St), iv = .int .i64 (j : Int) ∧ j ≤ k ∧ DkT (Old B) wr w3.heap.size st ∧ Idle 100 st ∧ seenF st = LN (min j 64) ∧ st.deeds ≤ j ∧ Below B w wr) (fun iv _ => k - (intOf iv).toNat)
      case atStart => exact ⟨0, newS 100, rfl, Nat.zero_le _, hD4, idle_new 100, rfl, Nat.le_refl _, HB4.out⟩
      case round =>
        obtain ⟨j, st, rfl, hjk, hDj, hidle, hseen, hdj, hbj⟩ := hrel
        by_cases hlt : j < k
        · obtain ⟨i1, i2, i3, i4, i5, i6⟩ := idle_do hidle (mkK j)
          obtain ⟨l1, l2⟩ := ln_min (show j < 80 by omega)
          rw [hseen, l2] at i2
          rw [hseen, l1] at i3
          have hz := bs_new wr (0, 0) [102, 33 + (j : Int)] (by intro z hz; simp at hz; omega) wr.heap.size rfl
          have hstr := run_str hz 2
          simp only [cb, List.map, List.length_cons, List.length_nil, Nat.zero_add] at hstr
          have hba : Below wr.heap.size wr (wr.alloc (.cells #[.int .u8 102, .int .u8 (33 + (j : Int))] 5)) := (Below.refl _ _).alloc (Nat.le_refl _) _
          have hmk := make_t _ _ _ _ (hDj.below hba) (strOfNums [102, 33 + (j : Int)]) (by omega) (by rw [strOfNums_size]; unfold maxLen; show 2 ≤ _; omega)
          rw [nmK_list, show (⟨0, nmK j, [], [], 0, 0⟩ : ActL) = mkK j from rfl] at hmk
          have hsj := hbj.size
          have HBA : Hid (Below B w (wr.alloc (.cells #[.int .u8 102, .int .u8 (33 + (j : Int))] 5))) := hbj.trans (hba.mono (by omega))
          have HX : Hid (Idle 100 (doS st (mkK j)) ∧ seenF (doS st (mkK j)) = LN (min (j + 1) 64) ∧ (doS st (mkK j)).deeds ≤ j + 1) := ⟨i1, i2, by omega⟩
          clear hz hba hDj hbj hidle hseen l1 l2 i1 i2 i4 i5 i6
          by_cases h64 : j < 64
          · rw [if_pos h64] at i3
            rw [i3] at hmk
            clear i3
            go_wp2_with fail
            refine hmk.mono ?_
            rintro e w6 ⟨rfl, hD6, hk6⟩
            have hb6 : Below B w w6 := HBA.out.trans (hk6.old (by simp; omega))
            clear hmk hk6 hstr
            go_wp2
            go_roundw
            case rel => exact ⟨j + 1, _, by go_num, by omega, hD6, HX.out.1, HX.out.2.1, HX.out.2.2, hb6⟩
            case measure => simp [intOf]; omega
          · rw [if_neg h64] at i3
            rw [i3] at hmk
            clear i3
            go_wp2_with fail
            refine hmk.mono ?_
            rintro e w6 ⟨rfl, hD6, hk6⟩
            have hb6 : Below B w w6 := HBA.out.trans (hk6.old (by simp; omega))
            clear hmk hk6 hstr
            go_wp2
            go_roundw
            case rel => exact ⟨j + 1, _, by go_num, by omega, hD6, HX.out.1, HX.out.2.1, HX.out.2.2, hb6⟩
            case measure => simp [intOf]; omega
        · obtain rfl : j = k := by omega
          have hsj := hbj.size
          have HBJ : Hid (Below B w wr) := hbj
          by_cases hk2 : j < 2
          · have hln : (seenF st).length = j := by rw [hseen, ln_length]; omega
            have hnm2 := names_t _ _ _ _ hDj (by omega)
            rw [hln] at hnm2
            clear hbj hseen hln
            go_wp2_with fail
            refine hnm2.mono ?_
            rintro e w6 ⟨v6, rfl, hrow6, hD6, hk6, _⟩
            obtain ⟨a6, c6, rfl, _⟩ := ownsRow_cs hrow6
            have hb6 : Below B w w6 := HBJ.out.trans (hk6.old (by omega))
            go_wp2
            go_ret
            exact ⟨rfl, hb6⟩
          · obtain ⟨r1, r2, r3, r4, r5⟩ := ln_rest (min j 64) (by omega) (by omega)
            obtain ⟨i1, i2, i3, i4, i5, i6⟩ := idle_do hidle actA
            obtain ⟨j1, j2, j3, j4, j5, j6⟩ := idle_do i1 actR
            obtain ⟨k1, k2, k3, k4, k5, k6⟩ := idle_do j1 actR
            rw [hseen, stepL, if_pos r1] at i2
            rw [hseen, r1] at i3
            rw [i2, stepL, if_pos r2] at j2
            rw [i2, r2] at j3
            rw [j2, r5] at k3
            have e1 : readE (doS (doS st actA) actR) [102, 34] = 0 := by rw [idle_read j1, j2, r3]; rfl
            have e2 : readB (doS (doS st actA) actR) [102, 34] = [97, 98] := by
              unfold readB; rw [e1, if_pos rfl, bytes_get, j2, r3]; rfl
            have e3 : (seenF (doS (doS st actA) actR)).length + 1 = (seenF (doS st actA)).length := by rw [j2, i2]; exact r4
            obtain ⟨SA, hSA⟩ : ∃ SA, SA = doS st actA := ⟨_, rfl⟩
            rw [← hSA] at i1 j1 j2 j3 j4 k3 e1 e2 e3 k4
            obtain ⟨SR, hSR⟩ : ∃ SR, SR = doS SA actR := ⟨_, rfl⟩
            rw [← hSR] at j1 j4 k3 e1 e2 e3 k4
            have hdA : SA.deeds ≤ 1000 := by rw [hSA]; omega
            have hdR : SR.deeds ≤ 2000 := by omega
            obtain ⟨M, hM⟩ : ∃ M, M = (seenF SR).length := ⟨_, rfl⟩
            rw [← hM] at e3
            have hA : nF.size ≤ maxLen := by unfold maxLen; show 2 ≤ _; omega
            have hG : nG.size ≤ maxLen := by unfold maxLen; show 2 ≤ _; omega
            have hlen2 : M ≤ 100 := by
              have h5 : (seenF SA).length ≤ 64 := by
                obtain ⟨_, S5, ⟨lm5, E5, v5, rs5, hD5, _⟩, _⟩ := hDj
                have h6 := (ok_of_right hD5.run.fold hD5.room (a := actA) (by decide) (by decide) (.inr rfl) (by rw [wrong_up hidle.1, hidle.2.2, show seenF st = LN (min j 64) from hseen]; exact r1)).2.2.1
                rw [hSA, i2]
                rw [show seenF st = LN (min j 64) from hseen] at h6
                exact h6
              omega
            have HF : Hid (SA = doS st actA ∧ SR = doS SA actR ∧ M = (seenF SR).length ∧ M + 1 = (seenF SA).length) := ⟨hSA, hSR, hM, e3⟩
            clear r1 r2 r3 r4 r5 i1 i2 i4 i5 i6 j1 j2 j4 j5 j6 k1 k2 k4 k5 k6 hSA hSR hM e3 hidle hseen hbj
            have kc := Go.Joins.run_convert_bytes_const_at (P := Try.prog) wr 32 5 (cb [97, 98]).toArray 2 2 wr.heap.size rfl Try.underlying32 Try.underlying5
            have hbs2 := bs_new wr ((cb [97, 98]).toArray.size, (cb [97, 98]).toArray.size + 1) [97, 98] (by decide) wr.heap.size rfl
            have hk3 : Kp (fun _ => False) wr (wr.alloc (.cells (cb [97, 98]).toArray 5 ((cb [97, 98]).toArray.size, (cb [97, 98]).toArray.size + 1))) := (Kp.refl _ _).alloc _
            have hD5 := hDj.grow (T' := fun i => Old B i ∨ i = wr.heap.size) hk3 (fun i hi => by
              have h5 : wr.heap.size + 1 = (wr.alloc (.cells (cb [97, 98]).toArray 5 ((cb [97, 98]).toArray.size, (cb [97, 98]).toArray.size + 1))).heap.size := by simp
              rw [← h5]
              rcases hi with e | e
              · unfold Old at e; omega
              · omega) (fun i hi => by rcases hi with e | e; exact .inl e; exact .inr (by omega))
            have ha := append_t _ _ _ _ hD5 nF (some ⟨wr.heap.size, 0, none⟩) 2 2 [97, 98] (by omega) hA (fun e => by cases e) hbs2 (fun x hx _ => by cases hx; exact .inr rfl) (by omega)
            rw [nF_list, show (⟨1, [102, 33], [], [97, 98], 0, 0⟩ : ActL) = actA from rfl, i3, ← HF.out.1] at ha
            have HK3 : Hid (Kp (fun _ => False) wr (wr.alloc (.cells (cb [97, 98]).toArray 5 ((cb [97, 98]).toArray.size, (cb [97, 98]).toArray.size + 1)))) := hk3
            simp only [cb, List.map] at kc ha
            clear hD5 hbs2 hk3 hDj i3
            go_wp2_with fail
            refine ha.mono ?_
            rintro e w6 ⟨rfl, hD6, hk6⟩
            have hB6 : Below B w w6 := HBJ.out.trans ((HK3.out.below (B := B) (by omega) (fun _ e => e.elim)).trans (hk6.below (Nat.le_trans (by omega) HK3.out.size) (fun i e => by
              rcases Nat.lt_or_ge i B with h | h
              · exact absurd (.inl h) e
              · exact h)))
            have hD6' : DkT (Old B) w6 w3.heap.size SA := DkT.more hD6 (fun i hi => Nat.lt_of_lt_of_le hi (by have := hB6.size; omega)) (fun i hi => .inl hi)
            have HB6 : Hid (Below B w w6) := hB6
            have hs6 := hB6.size
            clear ha kc hk6 hD6 hB6 HBJ HK3
            have hn6 := names_t _ _ _ _ hD6' (by omega)
            rw [← HF.out.2.2.2] at hn6
            clear hD6'
            go_wp2_with fail
            refine hn6.mono ?_
            rintro e w7 ⟨v7, rfl, hrow7, hD7, hk7, _⟩
            obtain ⟨a7, c7, rfl, _⟩ := ownsRow_cs hrow7
            have hb7 : Below B w w7 := HB6.out.trans (hk7.old (by omega))
            have HB7 : Hid (Below B w w7) := hb7
            have hs7 := hb7.size
            clear hn6 hrow7 hk7 hb7 HB6
            have hrn := rename_t _ _ _ _ hD7 nF nG (by omega) hA hG
            rw [nF_list, nG_list, show (⟨3, [102, 33], [102, 34], [], 0, 0⟩ : ActL) = actR from rfl, j3, ← HF.out.2.1] at hrn
            clear hD7 j3
            go_wp2_with fail
            refine hrn.mono ?_
            rintro e w8 ⟨rfl, hD8, hk8⟩
            have hb8 : Below B w w8 := HB7.out.trans (hk8.old (by omega))
            have HB8 : Hid (Below B w w8) := hb8
            have hs8 := hb8.size
            clear hrn hk8 hb8 HB7
            have hrd := read_t _ _ _ _ hD8 nG (by omega) hG
            rw [nG_list, e1, e2] at hrd
            clear hD8 e1 e2
            go_wp2_with fail
            refine hrd.mono ?_
            rintro e w9 ⟨⟨sa, sn, sc⟩, rfl, hf9, hg9, hD9, hk9, hst9⟩
            have hb9 : Below B w w9 := HB8.out.trans (hk9.old (by omega))
            have HB9 : Hid (Below B w w9) := hb9
            have hs9 := hb9.size
            have hT9 := hst9 (fun i => Old B i ∨ (⟨sa, sn, sc⟩ : Sl).blk = some i) (fun i hi => by
              rcases hi with e | e
              · unfold Old at e; omega
              · exact hf9.lt e) (fun i hi => by
              rcases hi with e | e
              · exact .inl e
              · exact .inr (hg9 i e))
            have hn9 := names_t _ _ _ _ hT9 (by omega)
            rw [← HF.out.2.2.1] at hn9
            unfold Sl.val
            have hMs : ((M + 1 : Nat) : Int) - 1 = (M : Int) := by omega
            clear hst9 hT9 hD9 hk9 hb9 hg9 hrd HB8
            go_wp2_with fail
            refine hn9.mono ?_
            rintro e w10 ⟨v10, rfl, hrow10, hD10, hk10, _⟩
            obtain ⟨a10, c10, rfl, _⟩ := ownsRow_cs hrow10
            have hf10 := hf9.kp hk10 (fun g hg e => e (.inr hg))
            have hb10 : Below B w w10 := HB9.out.trans (hk10.below (by omega) (fun i e => by
              rcases Nat.lt_or_ge i B with h | h
              · exact absurd (.inl h) e
              · exact h))
            have HB10 : Hid (Below B w w10) := hb10
            have hs10 := hb10.size
            have hstr := run_str hf10.bs sc
            have hx : (strOfNums [97, 98]).toList = [97, 98] := by rw [ByteArray.toList_eq]; rfl
            have hrn := rename_t _ _ _ _ hD10 nF nG (by omega) hA hG
            rw [nF_list, nG_list, show (⟨3, [102, 33], [102, 34], [], 0, 0⟩ : ActL) = actR from rfl, k3] at hrn
            clear hn9 hrow10 hf9 hb10 HB9 hD10
            go_wp2_with fail
            refine hrn.mono ?_
            rintro e w11 ⟨rfl, hD11, hk11⟩
            have hb11 : Below B w w11 := HB10.out.trans (hk11.below (by omega) (fun i e => by
              rcases Nat.lt_or_ge i B with h | h
              · exact absurd (.inl h) e
              · exact h))
            go_wp2
            go_ret
            exact ⟨rfl, hb11⟩)
end Go.Proofs.Ytngkapddobgfaaa
