/-
  The walk of the law on what goes down: it does nothing, it is up behind a crash, room is never passed; and what no disk answers.
-/
import Derived.Test.YtngkapddobgfaaaDiskLaw2
import Derived.Test.YtngkapddobgfaaaDiskNil
namespace Go.Proofs.Ytngkapddobgfaaa
open Go.RowKit Go.Maps
set_option linter.unusedVariables false

/-- A disk that is armed: how many deeds there may be. -/
def Arms (R N : Nat) (st : St) : Prop := st.room = R ∧ ((st.down = false ∧ st.armed + st.deeds = 1 + N ∧ 1 ≤ st.armed) ∨ (st.down = true ∧ st.deeds = N))
theorem Arms.deeds {R N : Nat} {st : St} (h : Arms R N st) : st.deeds ≤ N := by
  rcases h.2 with ⟨_, h2, h3⟩ | ⟨_, h2⟩ <;> omega
theorem arms_do {R N : Nat} {st : St} (h : Arms R N st) (a : ActL) : Arms R N (doS st a) ∧ (doE st a ≠ 0 → seenF (doS st a) = seenF st ∧ (doS st a).deeds = st.deeds) ∧ (st.down = true → doE st a = 3) := by
  unfold doS doE
  rcases h with ⟨h1, ⟨h2, h3, h4⟩ | ⟨h2, h3⟩⟩
  · refine ⟨?_, ?_, fun e => by rw [h2] at e; cases e⟩
    · by_cases h0 : wrongF st a = 0
      · rw [if_pos h0]
        unfold waitF
        by_cases ha : st.armed = 1
        · rw [if_pos ha]; exact ⟨h1, .inr ⟨rfl, by simp only; omega⟩⟩
        · rw [if_neg ha]; exact ⟨h1, .inl ⟨h2, by simp only; omega, by simp only; omega⟩⟩
      · rw [if_neg h0]; exact ⟨h1, .inl ⟨h2, h3, h4⟩⟩
    · intro he
      by_cases h0 : wrongF st a = 0
      · rw [if_pos h0] at he ⊢
        unfold countE at he
        unfold waitF
        by_cases ha : st.armed = 1
        · rw [if_pos ha]; exact ⟨rfl, rfl⟩
        · rw [if_neg ha] at he; exact absurd rfl he
      · rw [if_neg h0]; exact ⟨rfl, rfl⟩
  · have hw : wrongF st a = 3 := by unfold wrongF; rw [h2]; rfl
    rw [hw]
    exact ⟨⟨h1, .inr ⟨h2, h3⟩⟩, fun _ => ⟨rfl, rfl⟩, fun _ => rfl⟩
theorem arms_sync {R N : Nat} {st : St} (h : Arms R N st) : Arms R N (syncS st) ∧ (syncE st ≠ 0 → seenF (syncS st) = seenF st ∧ (syncS st).deeds = st.deeds) ∧ (st.down = true → syncE st = 3) := by
  unfold syncS syncE
  rcases h with ⟨h1, ⟨h2, h3, h4⟩ | ⟨h2, h3⟩⟩
  · rw [h2]
    simp only [Bool.false_eq_true, if_false]
    refine ⟨?_, ?_, fun e => e.elim⟩
    · by_cases ha : st.armed = 1
      · rw [if_pos ha]; unfold countF; rw [if_pos ha]; exact ⟨h1, .inr ⟨rfl, by simp only; omega⟩⟩
      · rw [if_neg ha]; unfold settleF countF; rw [if_neg ha]; exact ⟨h1, .inl ⟨h2, by simp only; omega, by simp only; omega⟩⟩
    · intro he
      unfold countE at he
      by_cases ha : st.armed = 1
      · rw [if_pos ha]; unfold countF; rw [if_pos ha]; exact ⟨rfl, rfl⟩
      · rw [if_neg ha] at he; exact absurd rfl he
  · rw [h2]
    exact ⟨⟨h1, .inr ⟨h2, h3⟩⟩, fun _ => ⟨rfl, rfl⟩, fun _ => rfl⟩
theorem arms_play {R N : Nat} {st : St} (h : Arms R N st) (a : ActL) (hk : a.kind < 6) : Arms R N (playS st a) ∧ (playE st a ≠ 0 → seenF (playS st a) = seenF st ∧ (playS st a).deeds = st.deeds) ∧ (st.down = true → playE st a = 3) := by
  unfold playS playE
  by_cases h5 : a.kind < 5
  · rw [if_pos h5, if_pos h5]; exact arms_do h (deedA a)
  · rw [if_neg h5, if_neg h5, if_pos (by omega), if_pos (by omega)]; exact arms_sync h
theorem playE_small (st : St) (a : ActL) : 0 ≤ playE st a ∧ playE st a ≤ 6 := by
  unfold playE
  have h1 := doE_small st (deedA a)
  have h2 := syncE_small st
  have h3 := readE_small st a.name
  repeat' split
  all_goals omega

def nB : ByteArray := { data := #[98] }

set_option maxRecDepth 100000 in
set_option maxHeartbeats 2000000 in
theorem diskArms_walk (R : Nat) (a0 : Option Addr) (n0 c0 : Nat) (r0 : List ARef) (M : Nat) (w : World) (h0 : As w a0 n0 c0 r0) (hR : R ≤ 255) (hM : M ≤ 255) :
    Calls Try.prog 6 #[.int .u8 (R : Int), .slice a0 n0 c0, .int .u8 (M : Int)] w fun e w' => e = .returned (.bool true) ∧ Below w.heap.size w w' := by
  obtain ⟨B, hB⟩ : ∃ B, B = w.heap.size := ⟨_, rfl⟩
  rw [← hB]
  have hBw : B ≤ w.heap.size := by omega
  have hwB : w.heap.size ≤ B := by omega
  have halive := alive_any w
  rw [← hB] at halive
  clear hB
  have hc0 := h0.2.1
  have HA0 : Hid (As w a0 n0 c0 r0) := h0
  have hf0 : ∀ w', Below B w w' → Calls Try.prog 10 #[.slice a0 n0 c0] w' fun e w'' => e = .returned (.bool (farF r0)) ∧ w'' = w' := fun w' hb => far_any a0 n0 c0 r0 w' (h0.below hb hwB)
  cases e0 : farF r0 with
  | true =>
    rw [e0] at hf0
    clear e0 h0
    go_enter Try.func6, Try.ntmps6
    go_wp2_with fail
    refine halive.mono ?_
    rintro e w1 ⟨rfl, hb1⟩
    go_wp2_with fail
    refine (hf0 w1 hb1).mono ?_
    rintro e w2 ⟨rfl, rfl⟩
    go_wp2
    go_ret
    exact ⟨rfl, hb1⟩
  | false =>
  rw [e0] at hf0
  obtain ⟨hn0, hr0⟩ := near_of e0
  have hl0 := h0.1
  have HR0 : Hid (∀ r ∈ r0, r.n ≤ 200 ∧ r.name.size ≤ 60 ∧ r.to.size ≤ 60 ∧ 0 ≤ r.kind ∧ r.kind ≤ 8) := hr0
  have hq0 : n0 ≤ 60 := by omega
  clear e0 h0 hr0 hn0 hl0
  obtain ⟨N, hN⟩ : ∃ N, N = M % 20 := ⟨_, rfl⟩
  have hNI : Int.tmod (M : Int) 20 = (N : Int) := by rw [Int.tmod_eq_emod_of_nonneg (by omega)]; omega
  have hNl : N < 20 := by omega
  clear hN
  go_enter Try.func6, Try.ntmps6
  go_wp2_with fail
  refine halive.mono ?_
  rintro e w1 ⟨rfl, hb1⟩
  go_wp2_with fail
  refine (hf0 w1 hb1).mono ?_
  rintro e w3 ⟨rfl, rfl⟩
  have hs1 := hb1.size
  have hnew := new_t (Old B) (R : Int) w3 (fun i hi => Nat.lt_of_lt_of_le hi (by omega)) (by omega) (by omega)
  rw [show ((R : Int)).toNat = R from rfl] at hnew
  clear halive hf0
  go_wp2_with fail
  refine hnew.mono ?_
  rintro e w4 ⟨rfl, hD4, hb4⟩
  have hb4' : Below B w w4 := hb1.trans (hb4.mono (by omega))
  have hs4 := hb4'.size
  obtain ⟨p, hp⟩ : ∃ p, p = w3.heap.size := ⟨_, rfl⟩
  rw [← hp] at hD4 ⊢
  have harm := arm_t _ _ _ _ hD4 (1 + (N : Int)) (by omega)
  have HB4 : Hid (Below B w w4) := hb4'
  clear hnew hb4 hb4' hb1 hp hs1 hD4
  go_wp2_with fail
  refine harm.mono ?_
  rintro e w5 ⟨rfl, hD5, hk5⟩
  have hb5 : Below B w w5 := HB4.out.trans (hk5.old (by omega))
  have HB5 : Hid (Below B w w5) := hb5
  have HA5 : Hid (Arms R N (armF (newS R) (1 + (N : Int)))) := ⟨rfl, .inl ⟨rfl, by show (1 + (N : Int)).toNat + 0 = 1 + N; omega, by show 1 ≤ (1 + (N : Int)).toNat; omega⟩⟩
  clear harm hk5 hb5 HB4 hs4
  go_wp2_with fail
  go_loopw [9] (fun iv wr => ∃ (j : Nat) (st : St), iv = .int .i64 (j : Int) ∧ j ≤ n0 ∧ DkT (Old B) wr p st ∧ Arms R N st ∧ Below B w wr) (fun iv _ => n0 - (intOf iv).toNat)
  case atStart => exact ⟨0, _, rfl, Nat.zero_le _, hD5, HA5.out, HB5.out⟩
  case round =>
    obtain ⟨j, st, rfl, hj, hDj, harms, hbj⟩ := hrel
    by_cases hlt : j < n0
    · obtain ⟨b, off, r, rfl, hr, hinn, hbb, hc⟩ := (HA0.out.below hbj hwB).at hlt
      have hrm : r ∈ r0 := List.mem_of_getElem? hr
      obtain ⟨m1, m2, m3, m4, m5'⟩ := HR0.out r hrm
      have hin0 := HA0.out.2.2.2.2.2 r hrm
      have hsj := hbj.size
      have d0 := hc 0 (by omega)
      have d1 := hc 1 (by omega)
      have d2 := hc 2 (by omega)
      have d3 := hc 3 (by omega)
      have d4 := hc 4 (by omega)
      have d5 := hc 5 (by omega)
      simp only [ARef.cells, List.getElem?_cons_zero, List.getElem?_cons_succ, Nat.add_zero] at d0 d1 d2 d3 d4 d5
      by_cases hk5 : 5 < r.kind
      · clear hc hinn hin0 hrm hr m1 m2 m3
        go_wp2
        go_roundw
        case rel => exact ⟨j + 1, st, by go_num, by omega, hDj, harms, hbj⟩
        case measure => simp [intOf]; omega
      · have hP := arms_play harms r.act (show r.kind < 6 by omega)
        have hdN := harms.deeds
        have hub : usedF (seenF st) ≤ R := by have := (DkT.deeds hDj).2.1.2.2; have := harms.1; omega
        have hu1 := used_t _ _ _ _ hDj (by omega)
        obtain ⟨s2, hs2⟩ : ∃ s2, s2 = playS st r.act := ⟨_, rfl⟩
        obtain ⟨e1, e2⟩ := playE_small st r.act
        obtain ⟨EE, hEE⟩ : ∃ EE, EE = playE st r.act := ⟨_, rfl⟩
        rw [← hs2, ← hEE] at hP
        rw [← hEE] at e1 e2
        obtain ⟨U1, hU1⟩ : ∃ U1, U1 = usedF (seenF st) := ⟨_, rfl⟩
        obtain ⟨D1, hD1⟩ : ∃ D1, D1 = st.deeds := ⟨_, rfl⟩
        obtain ⟨U2, hU2⟩ : ∃ U2, U2 = usedF (seenF s2) := ⟨_, rfl⟩
        obtain ⟨D2, hD2⟩ : ∃ D2, D2 = s2.deeds := ⟨_, rfl⟩
        have HP : Hid (Arms R N s2 ∧ (EE ≠ 0 → seenF s2 = seenF st ∧ s2.deeds = st.deeds) ∧ (st.down = true → EE = 3)) := hP
        have HU2 : Hid (U2 = usedF (seenF s2)) := hU2
        have HD2 : Hid (D2 = s2.deeds) := hD2
        have hD2N : D2 ≤ N := by rw [hD2]; exact hP.1.deeds
        have hDD : D1 ≤ N := by omega
        have hsame : EE ≠ 0 → U2 = U1 ∧ D2 = D1 := fun h => by rw [hU2, hU1, hD2, hD1, (hP.2.1 h).1, (hP.2.1 h).2]; exact ⟨rfl, rfl⟩
        have hdwn := hP.2.2
        have HDE : Hid (D1 = st.deeds ∧ U1 = usedF (seenF st)) := ⟨hD1, hU1⟩
        have HES : Hid (EE = playE st r.act ∧ s2 = playS st r.act) := ⟨hEE, hs2⟩
        rw [← hU1] at hu1 hub
        have hin2 : ∀ w', Below B w w' → r.inn w' := fun w' hb => hin0.below hb hwB
        have hcell : ∀ w', Below B wr w' → ∀ o, w'.cell? ⟨b, o, none⟩ = wr.cell? ⟨b, o, none⟩ := fun w' hb o => World.cell?_of_block (hb.block b (by
          have h5 := HA0.out.at hlt
          obtain ⟨b', off', r', e5, _, _, hb5, _⟩ := h5
          cases e5
          omega))
        have HBJ : Hid (Below B w wr) := hbj
        clear hc hinn hr hP hs2 hEE hU1 hD1 hU2 hD2 hbj hDj harms
        go_wp2_with fail
        refine hu1.mono ?_
        rintro e w6 ⟨rfl, hD6, hk6⟩
        have hb6q : Below B wr w6 := hk6.old (by omega)
        have hb6 : Below B w w6 := HBJ.out.trans hb6q
        have hs6 := hb6.size
        have HB6 : Hid (Below B w w6) := hb6
        have hde := deeds_t _ _ _ _ hD6
        have hup := up_t _ _ _ _ hD6
        rw [← HDE.out.1] at hde
        have hdo := do_t (Old B) p st r _ hD6 (by have := HDE.out.1; omega) (hin2 w6 hb6) m4 m5' (by omega) (fun x hx h0 => by have := hin0.2.2.2.2.2 x hx h0; unfold Old; omega)
        rw [← HES.out.1, ← HES.out.2] at hdo
        rw [← hcell w6 hb6q] at d0 d1 d2 d3 d4 d5
        clear hu1 hk6 hb6 hb6q hcell hin2
        go_wp2_with fail
        refine hde.mono ?_
        rintro e w6' ⟨rfl, rfl⟩
        go_wp2_with fail
        refine hup.mono ?_
        rintro e w6'' ⟨rfl, rfl⟩
        go_wp2_with fail
        refine hdo.mono ?_
        rintro e w7 ⟨⟨sa7, sn7, sc7⟩, rfl, _, hD7, hk7⟩
        have hb7 : Below B w w7 := HB6.out.trans (hk7.old (by omega))
        have hs7 := hb7.size
        have HB7 : Hid (Below B w w7) := hb7
        have hU2R : U2 ≤ R := by have h5 := (DkT.deeds hD7).2.1.2.2; have := HP.out.1.1; rw [← HU2.out] at h5; omega
        unfold Sl.val
        clear hde hup hdo hk7 hb7 hD6 d0 d1 d2 d3 d4 d5 hin0 hrm
        by_cases hE0 : EE = 0
        · have hdn : st.down = false := by
            cases hd : st.down
            · rfl
            · have := hdwn hd; omega
          subst hE0
          rw [hdn]
          clear hsame hdwn hdn
          have hu8 := used_t _ _ _ _ hD7 (by have := HP.out.1.deeds; omega)
          rw [← HU2.out] at hu8
          go_wp2_with fail
          refine hu8.mono ?_
          rintro e w8 ⟨rfl, hD8, hk8⟩
          have hb8 : Below B w w8 := HB7.out.trans (hk8.old (by omega))
          have hs8 := hb8.size
          have HB8 : Hid (Below B w w8) := hb8
          have hdd8 := deeds_t _ _ _ _ hD8
          rw [← HD2.out] at hdd8
          clear hu8 hk8 hb8
          go_wp2_with fail
          refine hdd8.mono ?_
          rintro e w8q ⟨rfl, rfl⟩
          clear hdd8
          go_wp2
          go_roundw
          case rel => exact ⟨j + 1, _, by go_num, by omega, hD8, HP.out.1, HB8.out⟩
          case measure => simp [intOf]; omega
        · obtain ⟨hUU, hDD2⟩ := hsame hE0
          have hb0 : (EE == 0) = false := by simpa using hE0
          cases hd : st.down with
          | false =>
            clear hsame hdwn hd
            have hb1 : decide (EE = 0) = false := by simpa using hE0
            subst hUU
            subst hDD2
            have hu8 := used_t _ _ _ _ hD7 (by have := HP.out.1.deeds; omega)
            rw [← HU2.out] at hu8
            go_wp2_with fail
            refine hu8.mono ?_
            rintro e w8 ⟨rfl, hD8, hk8⟩
            have hb8 : Below B w w8 := HB7.out.trans (hk8.old (by omega))
            have hs8 := hb8.size
            have HB8 : Hid (Below B w w8) := hb8
            have hdd8 := deeds_t _ _ _ _ hD8
            rw [← HD2.out] at hdd8
            clear hu8 hk8 hb8
            go_wp2_with fail
            refine hdd8.mono ?_
            rintro e w8q ⟨rfl, rfl⟩
            clear hdd8
            have hu9 := used_t _ _ _ _ hD8 (by have := HP.out.1.deeds; omega)
            rw [← HU2.out] at hu9
            go_wp2_with fail
            refine hu9.mono ?_
            rintro e w9 ⟨rfl, hD9, hk9⟩
            have hb9 : Below B w w9 := HB8.out.trans (hk9.old (by omega))
            have hs9 := hb9.size
            have HB9 : Hid (Below B w w9) := hb9
            have hdd9 := deeds_t _ _ _ _ hD9
            rw [← HD2.out] at hdd9
            clear hu9 hk9 hb9
            go_wp2_with fail
            refine hdd9.mono ?_
            rintro e w9q ⟨rfl, rfl⟩
            clear hdd9
            go_wp2
            go_roundw
            case rel => exact ⟨j + 1, _, by go_num, by omega, hD9, HP.out.1, HB9.out⟩
            case measure => simp [intOf]; omega
          | true =>
            have hE3 := hdwn hd
            subst hE3
            clear hsame hdwn hd hE0
            subst hUU
            subst hDD2
            have hu8 := used_t _ _ _ _ hD7 (by have := HP.out.1.deeds; omega)
            rw [← HU2.out] at hu8
            go_wp2_with fail
            refine hu8.mono ?_
            rintro e w8 ⟨rfl, hD8, hk8⟩
            have hb8 : Below B w w8 := HB7.out.trans (hk8.old (by omega))
            have hs8 := hb8.size
            have HB8 : Hid (Below B w w8) := hb8
            have hdd8 := deeds_t _ _ _ _ hD8
            rw [← HD2.out] at hdd8
            clear hu8 hk8 hb8
            go_wp2_with fail
            refine hdd8.mono ?_
            rintro e w8q ⟨rfl, rfl⟩
            clear hdd8
            have hu9 := used_t _ _ _ _ hD8 (by have := HP.out.1.deeds; omega)
            rw [← HU2.out] at hu9
            go_wp2_with fail
            refine hu9.mono ?_
            rintro e w9 ⟨rfl, hD9, hk9⟩
            have hb9 : Below B w w9 := HB8.out.trans (hk9.old (by omega))
            have hs9 := hb9.size
            have HB9 : Hid (Below B w w9) := hb9
            have hdd9 := deeds_t _ _ _ _ hD9
            rw [← HD2.out] at hdd9
            clear hu9 hk9 hb9
            go_wp2_with fail
            refine hdd9.mono ?_
            rintro e w9q ⟨rfl, rfl⟩
            clear hdd9
            go_wp2
            go_roundw
            case rel => exact ⟨j + 1, _, by go_num, by omega, hD9, HP.out.1, HB9.out⟩
            case measure => simp [intOf]; omega
    · have hsj := hbj.size
      have hdN := harms.deeds
      have hcr := crash_t _ _ _ _ hDj 0 0 (by omega)
      have HBJ : Hid (Below B w wr) := hbj
      clear hbj hDj harms
      go_wp2_with fail
      refine hcr.mono ?_
      rintro e v0 ⟨rfl, hD0, hk0⟩
      have hb0 : Below B w v0 := HBJ.out.trans (hk0.old (by omega))
      have hs0 := hb0.size
      have HB0 : Hid (Below B w v0) := hb0
      clear hcr hk0 hb0
      go_wp2_with fail
      refine (arm_nil 1 v0).mono ?_
      rintro e v0' ⟨rfl, rfl⟩
      go_wp2_with fail
      refine (crash_nil 1 1 v0').mono ?_
      rintro e v0'' ⟨rfl, rfl⟩
      go_wp2_with fail
      refine (read_nil nA v0'').mono ?_
      rintro e v1 ⟨rfl, hq1⟩
      have hb1 : Below B w v1 := HB0.out.trans (hq1.mono (by omega))
      have hs1 := hb1.size
      have HB1 : Hid (Below B w v1) := hb1
      have hD1 := hD0.below hq1
      have hupd := up_t _ _ _ _ hD1
      rw [show (!(crashF st 0 0).down) = true from rfl] at hupd
      clear hq1 hb1 hD0 hD1 HB0
      go_wp2_with fail
      refine hupd.mono ?_
      rintro e v1' ⟨rfl, rfl⟩
      clear hupd
      go_wp2_with fail
      refine (make_nil nA v1').mono ?_
      rintro e v2 ⟨rfl, hq2⟩
      have hb2 : Below B w v2 := HB1.out.trans (hq2.mono (by omega))
      have hs2 := hb2.size
      have HB2 : Hid (Below B w v2) := hb2
      clear hq2 hb2
      go_wp2_with fail
      refine (append_nil nA none 0 0 v2).mono ?_
      rintro e v3 ⟨rfl, hq3⟩
      have hb3 : Below B w v3 := HB2.out.trans (hq3.mono (by omega))
      have hs3 := hb3.size
      have HB3 : Hid (Below B w v3) := hb3
      clear hq3 hb3
      go_wp2_with fail
      refine (cut_nil nA 0 v3).mono ?_
      rintro e v4 ⟨rfl, hq4⟩
      have hb4 : Below B w v4 := HB3.out.trans (hq4.mono (by omega))
      have hs4 := hb4.size
      have HB4 : Hid (Below B w v4) := hb4
      clear hq4 hb4
      go_wp2_with fail
      refine (rename_nil nA nB v4).mono ?_
      rintro e v5 ⟨rfl, hq5⟩
      have hb5 : Below B w v5 := HB4.out.trans (hq5.mono (by omega))
      have hs5 := hb5.size
      have HB5 : Hid (Below B w v5) := hb5
      clear hq5 hb5
      go_wp2_with fail
      refine (remove_nil nA v5).mono ?_
      rintro e v6 ⟨rfl, hq6⟩
      have hb6 : Below B w v6 := HB5.out.trans (hq6.mono (by omega))
      have hs6 := hb6.size
      have HB6 : Hid (Below B w v6) := hb6
      clear hq6 hb6
      go_wp2_with fail
      refine (sync_nil v6).mono ?_
      rintro e v7 ⟨rfl, rfl⟩
      go_wp2_with fail
      refine (up_nil v7).mono ?_
      rintro e v8 ⟨rfl, rfl⟩
      go_wp2_with fail
      refine (used_nil v8).mono ?_
      rintro e v9 ⟨rfl, hq9⟩
      have hb9 : Below B w v9 := HB6.out.trans (hq9.mono (by omega))
      have hs9 := hb9.size
      have HB9 : Hid (Below B w v9) := hb9
      clear hq9 hb9
      go_wp2_with fail
      refine (waits_nil v9).mono ?_
      rintro e v10 ⟨rfl, rfl⟩
      go_wp2_with fail
      refine (deeds_nil v10).mono ?_
      rintro e v11 ⟨rfl, rfl⟩
      go_wp2_with fail
      refine (names_nil v11).mono ?_
      rintro e v12 ⟨rfl, hq12⟩
      have hb12 : Below B w v12 := HB9.out.trans (hq12.mono (by omega))
      have hs12 := hb12.size
      have HB12 : Hid (Below B w v12) := hb12
      clear hq12 hb12
      go_wp2
      go_ret
      exact ⟨rfl, HB12.out⟩
end Go.Proofs.Ytngkapddobgfaaa
