/-
  The walk of the law on what lasts: what was synced is there behind any crash, and one that keeps all changes nothing that is seen.
-/
import Derived.Test.YtngkapddobgfaaaDiskRead
namespace Go.Proofs.Ytngkapddobgfaaa
open Go.RowKit Go.Maps
set_option linter.unusedVariables false

theorem As.below {B : Nat} {w w' : World} {a : Option Addr} {n c : Nat} {rs : List ARef} (h : As w a n c rs) (hb : Below B w w') (hB : w.heap.size ≤ B) : As w' a n c rs :=
  ⟨h.1, h.2.1, h.2.2.1, h.2.2.2.1, h.2.2.2.2.1.below hb hB, fun r hr => (h.2.2.2.2.2 r hr).below hb hB⟩

theorem near_of {rs : List ARef} (h : farF rs = false) : rs.length ≤ 60 ∧ ∀ r ∈ rs, r.n ≤ 200 ∧ r.name.size ≤ 60 ∧ r.to.size ≤ 60 ∧ 0 ≤ r.kind ∧ r.kind ≤ 8 := by
  unfold farF at h
  rw [Bool.or_eq_false_iff] at h
  refine ⟨by have := of_decide_eq_false h.1; omega, fun r hr => ?_⟩
  have h2 := List.any_eq_false.1 h.2 r hr
  unfold farA at h2
  simp at h2
  omega

theorem idle_sync {room : Nat} {st : St} (h : Idle room st) : Idle room (syncS st) ∧ syncE st = 0 ∧ seenF (syncS st) = seenF st ∧ (syncS st).waits = [] ∧ (syncS st).deeds = st.deeds + 1 := by
  obtain ⟨h1, h2, h3⟩ := h
  have ha : st.armed ≠ 1 := by omega
  unfold syncS syncE countE
  rw [h1, if_neg ha]
  simp only [Bool.false_eq_true, if_false]
  unfold settleF countF
  rw [if_neg ha]
  exact ⟨⟨h1, by simp only; omega, h3⟩, by rw [if_neg ha], rfl, rfl, rfl⟩
theorem idle_crash {room : Nat} {st : St} (h : st.room = room) (keep torn : Int) : Idle room (crashF st keep torn) ∧ (crashF st keep torn).waits = [] ∧ (crashF st keep torn).deeds = st.deeds ∧ seenF (crashF st keep torn) = foldF st.last (crashW st keep torn) := ⟨⟨rfl, rfl, h⟩, rfl, rfl, rfl⟩
theorem crash_none {st : St} (h : st.waits = []) (keep torn : Int) : seenF (crashF st keep torn) = seenF st := by
  rw [(idle_crash rfl keep torn).2.2.2]
  unfold crashW seenF
  rw [h]
  simp
theorem crash_all {st : St} (torn : Int) : seenF (crashF st (st.waits.length : Int) torn) = seenF st := by
  rw [(idle_crash rfl _ torn).2.2.2]
  have : cutZ (st.waits.length : Int) st.waits.length = (st.waits.length : Int) := by unfold cutZ; repeat' split <;> omega
  unfold crashW seenF
  rw [this, show ((st.waits.length : Int)).toNat = st.waits.length from rfl, List.getElem?_eq_none (Nat.le_refl _), List.take_length]
theorem play_fine {room : Nat} {st : St} (h : Idle room st) (hg : Good st) (a : ActL) (hk : a.kind < 6) : Idle room (playS st a) ∧ Good (playS st a) ∧ (playS st a).deeds ≤ st.deeds + 1 := by
  unfold playS
  by_cases h5 : a.kind < 5
  · rw [if_pos h5]
    obtain ⟨i1, _, _, i4, _, _⟩ := idle_do h (deedA a)
    exact ⟨i1, good_do hg _, i4⟩
  · rw [if_neg h5, if_pos (by omega)]
    obtain ⟨i1, _, _, _, i5⟩ := idle_sync h
    exact ⟨i1, good_sync hg, by omega⟩

theorem Kp.oldT {T : Nat → Prop} {B : Nat} {a w : World} (h : Kp (fun i => ¬ T i) a w) (hB : B ≤ a.heap.size) (hT : ∀ i, Old B i → T i) : Below B a w := h.below hB (fun i e => by
  rcases Nat.lt_or_ge i B with h' | h'
  · exact absurd (hT i h') e
  · exact h')
theorem same_rows {b1 b2 : Nat} {w : World} {a1 a2 : Option Addr} {n c1 c2 : Nat} {ss : List ByteArray} (h1 : w.ownsRow b1 9 1 (.slice a1 n c1) n (ss.map Value.string)) (h2 : w.ownsRow b2 9 1 (.slice a2 n c2) n (ss.map Value.string)) (hn : n ≤ 1000000) :
    Calls Try.prog 23 #[.slice a1 n c1, .slice a2 n c2] w fun e w' => e = .returned (.bool true) ∧ Below w.heap.size w w' := by
  obtain ⟨_, _, e1, _, _, _, k1⟩ := ownsRow_cs h1
  obtain ⟨_, _, e2, _, _, _, k2⟩ := ownsRow_cs h2
  cases e1
  cases e2
  have hl := h1.1
  rw [List.length_map] at hl
  exact same_yes a1 a2 n c1 c2 ss w (by omega) k1 k2 hn

set_option maxRecDepth 100000 in
set_option maxHeartbeats 2000000 in
theorem diskLasts_walk (a0 : Option Addr) (n0 c0 : Nat) (r0 : List ARef) (a1 : Option Addr) (n1 c1 : Nat) (r1 : List ARef) (keep torn : Int) (w : World) (h0 : As w a0 n0 c0 r0) (h1 : As w a1 n1 c1 r1) :
    Calls Try.prog 4 #[.slice a0 n0 c0, .slice a1 n1 c1, .int .i64 keep, .int .i64 torn] w fun e w' => e = .returned (.bool true) ∧ Below w.heap.size w w' := by
  obtain ⟨B, hB⟩ : ∃ B, B = w.heap.size := ⟨_, rfl⟩
  rw [← hB]
  have hBw : B ≤ w.heap.size := by omega
  have hwB : w.heap.size ≤ B := by omega
  have halive := alive_any w
  rw [← hB] at halive
  clear hB
  have hc0 := h0.2.1
  have hc1 := h1.2.1
  have HA0 : Hid (As w a0 n0 c0 r0) := h0
  have HA1 : Hid (As w a1 n1 c1 r1) := h1
  have hf0 : ∀ w', Below B w w' → Calls Try.prog 10 #[.slice a0 n0 c0] w' fun e w'' => e = .returned (.bool (farF r0)) ∧ w'' = w' := fun w' hb => far_any a0 n0 c0 r0 w' (h0.below hb hwB)
  have hf1 : ∀ w', Below B w w' → Calls Try.prog 10 #[.slice a1 n1 c1] w' fun e w'' => e = .returned (.bool (farF r1)) ∧ w'' = w' := fun w' hb => far_any a1 n1 c1 r1 w' (h1.below hb hwB)
  cases e0 : farF r0 with
  | true =>
    rw [e0] at hf0
    clear e0 h0 h1
    go_enter Try.func4, Try.ntmps4
    go_wp2_with fail
    refine halive.mono ?_
    rintro e w1 ⟨rfl, hb1⟩
    go_wp2_with fail
    refine (hf0 w1 hb1).mono ?_
    rintro e w2 ⟨rfl, rfl⟩
    go_wp2
    go_ret
    exact ⟨rfl, hb1⟩
  | false =>
  cases e1 : farF r1 with
  | true =>
    rw [e0] at hf0
    rw [e1] at hf1
    clear e0 e1 h0 h1
    go_enter Try.func4, Try.ntmps4
    go_wp2_with fail
    refine halive.mono ?_
    rintro e w1 ⟨rfl, hb1⟩
    go_wp2_with fail
    refine (hf0 w1 hb1).mono ?_
    rintro e w2 ⟨rfl, rfl⟩
    go_wp2_with fail
    refine (hf1 w2 hb1).mono ?_
    rintro e w3 ⟨rfl, rfl⟩
    go_wp2
    go_ret
    exact ⟨rfl, hb1⟩
  | false =>
  rw [e0] at hf0
  rw [e1] at hf1
  obtain ⟨hn0, hr0⟩ := near_of e0
  obtain ⟨hn1, hr1⟩ := near_of e1
  have hl0 := h0.1
  have hl1 := h1.1
  have HR0 : Hid (∀ r ∈ r0, r.n ≤ 200 ∧ r.name.size ≤ 60 ∧ r.to.size ≤ 60 ∧ 0 ≤ r.kind ∧ r.kind ≤ 8) := hr0
  have HR1 : Hid (∀ r ∈ r1, r.n ≤ 200 ∧ r.name.size ≤ 60 ∧ r.to.size ≤ 60 ∧ 0 ≤ r.kind ∧ r.kind ≤ 8) := hr1
  have hq0 : n0 ≤ 60 := by omega
  have hq1 : n1 ≤ 60 := by omega
  clear e0 e1 h0 h1 hr0 hr1 hn0 hn1 hl0 hl1
  go_enter Try.func4, Try.ntmps4
  go_wp2_with fail
  refine halive.mono ?_
  rintro e w1 ⟨rfl, hb1⟩
  go_wp2_with fail
  refine (hf0 w1 hb1).mono ?_
  rintro e w2 ⟨rfl, rfl⟩
  go_wp2_with fail
  refine (hf1 w2 hb1).mono ?_
  rintro e w3 ⟨rfl, rfl⟩
  have hs1 := hb1.size
  have hnew := new_t (Old B) 1048576 w3 (fun i hi => Nat.lt_of_lt_of_le hi (by omega)) (by omega) (by omega)
  rw [show (1048576 : Int).toNat = 1048576 from rfl] at hnew
  clear halive hf0 hf1
  go_wp2_with fail
  refine hnew.mono ?_
  rintro e w4 ⟨rfl, hD4, hb4⟩
  have hb4' : Below B w w4 := hb1.trans (hb4.mono (by omega))
  obtain ⟨p, hp⟩ : ∃ p, p = w3.heap.size := ⟨_, rfl⟩
  rw [← hp] at hD4 ⊢
  have HB4 : Hid (Below B w w4) := hb4'
  clear hnew hb4 hb4' hb1 hp hs1
  go_wp2_with fail
  go_loopw [11] (fun iv wr => ∃ (j : Nat) (st : St), iv = .int .i64 (j : Int) ∧ j ≤ n0 ∧ DkT (Old B) wr p st ∧ Idle 1048576 st ∧ Good st ∧ st.deeds ≤ j ∧ Below B w wr) (fun iv _ => n0 - (intOf iv).toNat)
  case atStart => exact ⟨0, newS 1048576, rfl, Nat.zero_le _, hD4, idle_new _, good_new _, Nat.le_refl _, HB4.out⟩
  case round =>
    obtain ⟨j, st, rfl, hj, hDj, hid, hgd, hdd, hbj⟩ := hrel
    by_cases hlt : j < n0
    · obtain ⟨b, off, r, rfl, hr, hinn, hbb, hc⟩ := (HA0.out.below hbj hwB).at hlt
      have d0 : wr.cell? ⟨b, off + j * 6, none⟩ = some (.int .i64 r.kind) := hc 0 (by omega)
      have d1 : wr.cell? ⟨b, off + j * 6 + 1, none⟩ = some (.string r.name) := hc 1 (by omega)
      have d2 : wr.cell? ⟨b, off + j * 6 + 2, none⟩ = some (.string r.to) := hc 2 (by omega)
      have d3 : wr.cell? ⟨b, off + j * 6 + 3, none⟩ = some (.slice r.a r.n r.c) := hc 3 (by omega)
      have d4 : wr.cell? ⟨b, off + j * 6 + 4, none⟩ = some (.int .i64 r.num) := hc 4 (by omega)
      have d5 : wr.cell? ⟨b, off + j * 6 + 5, none⟩ = some (.int .i64 r.torn) := hc 5 (by omega)
      have hrm : r ∈ r0 := List.mem_of_getElem? hr
      obtain ⟨m1, m2, m3, m4, m5⟩ := HR0.out r hrm
      have hin0 := HA0.out.2.2.2.2.2 r hrm
      have hsj := hbj.size
      by_cases hk6 : r.kind < 6
      · have hdo := do_t (Old B) p st r wr hDj (by omega) hinn m4 m5 (by omega) (fun x hx h0 => by have := hin0.2.2.2.2.2 x hx h0; unfold Old; omega)
        have HP : Hid (Idle 1048576 (playS st r.act) ∧ Good (playS st r.act) ∧ (playS st r.act).deeds ≤ st.deeds + 1) := play_fine hid hgd r.act hk6
        have HBJ : Hid (Below B w wr) := hbj
        clear hc hinn hin0 hrm hr hid hgd hDj hbj m1 m2 m3
        go_wp2_with fail
        refine hdo.mono ?_
        rintro e w6 ⟨⟨sa, sn, sc⟩, rfl, _, hD6, hk6'⟩
        have hb6 : Below B w w6 := HBJ.out.trans (hk6'.old (by omega))
        unfold Sl.val
        clear hdo hk6'
        go_wp2
        go_roundw
        case rel => exact ⟨j + 1, _, by go_num, by omega, hD6, HP.out.1, HP.out.2.1, by have := HP.out.2.2; omega, hb6⟩
        case measure => simp [intOf]; omega
      · clear hc hinn hin0 hrm hr m1 m2 m3
        go_wp2
        go_roundw
        case rel => exact ⟨j + 1, st, by go_num, by omega, hDj, hid, hgd, by omega, hbj⟩
        case measure => simp [intOf]; omega
    · have hsj := hbj.size
      have HBJ : Hid (Below B w wr) := hbj
      have hdd2 : st.deeds ≤ 60 := by omega
      have hsy := sync_t _ _ _ _ hDj (by omega)
      obtain ⟨y1, y2, y3, y4, y5⟩ := idle_sync hid
      have yg := good_sync hgd
      rw [y2] at hsy
      obtain ⟨s1, hs1⟩ : ∃ s1, s1 = syncS st := ⟨_, rfl⟩
      rw [← hs1] at hsy y1 y4 y5 yg
      have hd1 : s1.deeds ≤ 61 := by omega
      clear hDj hbj hid hgd hdd hs1 y2 y3 y5 hdd2
      go_wp2_with fail
      refine hsy.mono ?_
      rintro e w5 ⟨rfl, hD5, hk5⟩
      have hb5 : Below B w w5 := HBJ.out.trans (hk5.old (by omega))
      have hs5 := hb5.size
      have HB5 : Hid (Below B w w5) := hb5
      have hwt := waits_t _ _ _ _ hD5
      rw [y4, List.length_nil] at hwt
      clear hsy hk5 hb5 HBJ
      go_wp2_with fail
      refine hwt.mono ?_
      rintro e w5' ⟨rfl, rfl⟩
      have hrd := readAll_t _ _ _ _ hD5 (by omega) y1.1 yg
      obtain ⟨_, hok1, _⟩ := hD5.deeds
      have hlen1 : (seenF s1).length ≤ 64 := hok1.2.1
      obtain ⟨L, hL⟩ : ∃ L, L = seenF s1 := ⟨_, rfl⟩
      rw [← hL] at hrd hlen1
      have HL : Hid (L = seenF s1) := hL
      clear hwt hok1 hD5 hL
      go_wp2_with fail
      refine hrd.mono ?_
      rintro e w6 ⟨v6, rfl, hrow6, hD6, hk6⟩
      obtain ⟨a6, c6, rfl, _⟩ := ownsRow_cs hrow6
      have hb6 : Below B w w6 := HB5.out.trans (hk6.old (by omega))
      have hs6 := hb6.size
      have HB6 : Hid (Below B w w6) := hb6
      have hcr := crash_t _ _ _ _ hD6 keep torn (by omega)
      have z1 := crash_none y4 keep torn
      obtain ⟨z2, z3, z4, _⟩ := idle_crash y1.2.2 keep torn
      have z5 := good_crash yg keep torn
      obtain ⟨s2, hs2⟩ : ∃ s2, s2 = crashF s1 keep torn := ⟨_, rfl⟩
      rw [← hs2] at hcr z1 z2 z3 z4 z5
      rw [← HL.out] at z1
      have hd2 : s2.deeds ≤ 61 := by omega
      clear hrd hk6 hb6 HB5 hs2 HL y1 y4 yg hd1 z4 z3
      go_wp2_with fail
      refine hcr.mono ?_
      rintro e w7 ⟨rfl, hD7, hk7⟩
      have hb7 : Below B w w7 := HB6.out.trans (hk7.oldT (by omega) (fun i hi => .inl hi))
      have hs7 := hb7.size
      have HB7 : Hid (Below B w w7) := hb7
      have hrow7 := row1_kp hrow6 hk7 (fun g hg e => e (.inr hg))
      have hrd := readAll_t _ _ _ _ hD7 (by omega) z2.1 z5
      rw [z1] at hrd
      clear hcr hk7 hb7 HB6 hD6 hrow6
      go_wp2_with fail
      refine hrd.mono ?_
      rintro e w8 ⟨v8, rfl, hrow8, hD8, hk8⟩
      obtain ⟨a8, c8, rfl, _⟩ := ownsRow_cs hrow8
      have hb8 : Below B w w8 := HB7.out.trans (hk8.oldT (by omega) (fun i hi => .inl hi))
      have hs8 := hb8.size
      have HB8 : Hid (Below B w w8) := hb8
      have hrow78 := row1_kp hrow7 hk8 (fun g hg e => e (.inr hg))
      have hsm := same_rows hrow8 hrow78 (by omega)
      have hD8' : DkT (Old B) w8 p s2 := DkT.more hD8 (fun i hi => Nat.lt_of_lt_of_le hi (by omega)) (fun i hi => .inl (.inl hi))
      clear hrd hk8 hb8 HB7 hD7 hrow7 hrow8 hrow78 hD8
      go_wp2_with fail
      refine hsm.mono ?_
      rintro e w9 ⟨rfl, hbq9⟩
      have hb9 : Below B w w9 := HB8.out.trans (hbq9.mono (by omega))
      have hD9 := hD8'.below hbq9
      have HB9 : Hid (Below B w w9) := hb9
      clear hsm hD8' HB8 hb9 hbq9 z1 hlen1
      go_wp2_with fail
      go_loopw [13] (fun iv wr => ∃ (j : Nat) (st : St), iv = .int .i64 (j : Int) ∧ j ≤ n1 ∧ DkT (Old B) wr p st ∧ Idle 1048576 st ∧ Good st ∧ st.deeds ≤ 61 + j ∧ Below B w wr) (fun iv _ => n1 - (intOf iv).toNat)
      case atStart => exact ⟨0, s2, rfl, Nat.zero_le _, hD9, z2, z5, hd2, HB9.out⟩
      case round =>
        obtain ⟨j2, st2, rfl, hj2, hDj, hid, hgd, hdd, hbj⟩ := hrel
        by_cases hlt2 : j2 < n1
        · obtain ⟨b, off, r, rfl, hr, hinn, hbb, hc⟩ := (HA1.out.below hbj hwB).at hlt2
          have d0 := hc 0 (by omega)
          have d1 := hc 1 (by omega)
          have d2 := hc 2 (by omega)
          have d3 := hc 3 (by omega)
          have d4 := hc 4 (by omega)
          have d5 := hc 5 (by omega)
          simp only [ARef.cells, List.getElem?_cons_zero, List.getElem?_cons_succ, Nat.add_zero] at d0 d1 d2 d3 d4 d5
          have hrm : r ∈ r1 := List.mem_of_getElem? hr
          obtain ⟨m1, m2, m3, m4, m5⟩ := HR1.out r hrm
          have hin0 := HA1.out.2.2.2.2.2 r hrm
          have hsj := hbj.size
          by_cases hk5 : r.kind < 5
          · have hdo := do_t (Old B) p st2 r _ hDj (by omega) hinn m4 m5 (by omega) (fun x hx h0 => by have := hin0.2.2.2.2.2 x hx h0; unfold Old; omega)
            have HP : Hid (Idle 1048576 (playS st2 r.act) ∧ Good (playS st2 r.act) ∧ (playS st2 r.act).deeds ≤ st2.deeds + 1) := play_fine hid hgd r.act (by show r.kind < 6; omega)
            have HBK := hbj
            clear hc hinn hin0 hrm hr hid hgd hDj m1 m2 m3
            go_wp2_with fail
            refine hdo.mono ?_
            rintro e w10 ⟨⟨sa, sn, sc⟩, rfl, _, hD10, hk10⟩
            have hb10 : Below B w w10 := HBK.trans (hk10.old (by omega))
            unfold Sl.val
            clear hdo hk10
            go_wp2
            go_roundw
            case rel => exact ⟨j2 + 1, _, by go_num, by omega, hD10, HP.out.1, HP.out.2.1, by have := HP.out.2.2; omega, hb10⟩
            case measure => simp [intOf]; omega
          · clear hc hinn hin0 hrm hr m1 m2 m3
            go_wp2
            go_roundw
            case rel => exact ⟨j2 + 1, st2, by go_num, by omega, hDj, hid, hgd, by omega, hbj⟩
            case measure => simp [intOf]; omega
        · have hsj := hbj.size
          have HBK := hbj
          have hdd2 : st2.deeds ≤ 200 := by omega
          have hrd := readAll_t _ _ _ _ hDj (by omega) hid.1 hgd
          obtain ⟨hwl, hok2, _⟩ := hDj.deeds
          have hlen2 : (seenF st2).length ≤ 64 := hok2.2.1
          obtain ⟨L2, hL2⟩ : ∃ L2, L2 = seenF st2 := ⟨_, rfl⟩
          rw [← hL2] at hrd hlen2
          obtain ⟨n2, hn2⟩ : ∃ n2, n2 = st2.waits.length := ⟨_, rfl⟩
          have HN2 : Hid (n2 = st2.waits.length) := hn2
          have HL2 : Hid (L2 = seenF st2) := hL2
          clear hok2 hn2 hL2 hDj hbj
          go_wp2_with fail
          refine hrd.mono ?_
          rintro e w10 ⟨v10, rfl, hrow10, hD10, hk10⟩
          obtain ⟨a10, c10, rfl, _⟩ := ownsRow_cs hrow10
          have hb10 : Below B w w10 := HBK.trans (hk10.old (by omega))
          have hs10 := hb10.size
          have HB10 : Hid (Below B w w10) := hb10
          have hwt := waits_t _ _ _ _ hD10
          rw [← HN2.out] at hwt
          clear hrd hk10 hb10
          go_wp2_with fail
          refine hwt.mono ?_
          rintro e w10' ⟨rfl, rfl⟩
          have hcr := crash_t _ _ _ _ hD10 (n2 : Int) torn (by omega)
          have x1 : seenF (crashF st2 (n2 : Int) torn) = L2 := by rw [HN2.out, HL2.out]; exact crash_all torn
          obtain ⟨x2, x3, x4, _⟩ := idle_crash hid.2.2 (n2 : Int) torn
          have x5 := good_crash hgd (n2 : Int) torn
          obtain ⟨s3, hs3⟩ : ∃ s3, s3 = crashF st2 (n2 : Int) torn := ⟨_, rfl⟩
          rw [← hs3] at hcr x1 x2 x3 x4 x5
          have hd3 : s3.deeds ≤ 200 := by omega
          clear hwt hs3 x4 hD10
          go_wp2_with fail
          refine hcr.mono ?_
          rintro e w11 ⟨rfl, hD11, hk11⟩
          have hb11 : Below B w w11 := HB10.out.trans (hk11.oldT (by omega) (fun i hi => .inl hi))
          have hs11 := hb11.size
          have HB11 : Hid (Below B w w11) := hb11
          have hrow11 := row1_kp hrow10 hk11 (fun g hg e => e (.inr hg))
          have hrd := readAll_t _ _ _ _ hD11 (by omega) x2.1 x5
          rw [x1] at hrd
          clear hcr hk11 hb11 hrow10 HB10
          go_wp2_with fail
          refine hrd.mono ?_
          rintro e w12 ⟨v12, rfl, hrow12, hD12, hk12⟩
          obtain ⟨a12, c12, rfl, _⟩ := ownsRow_cs hrow12
          have hb12 : Below B w w12 := HB11.out.trans (hk12.oldT (by omega) (fun i hi => .inl hi))
          have hs12 := hb12.size
          have HB12 : Hid (Below B w w12) := hb12
          have hrow112 := row1_kp hrow11 hk12 (fun g hg e => e (.inr hg))
          have hsm := same_rows hrow12 hrow112 (by omega)
          have hD12' : DkT (fun i => Old B i ∨ (Value.slice a10 (L2.length * 2) c10).ownBlock = some i) w12 p s3 := DkT.more hD12 (fun i hi => by
            rcases hi with e | e
            · unfold Old at e; omega
            · exact (hrow112.lt i e).2) (fun i hi => .inl hi)
          clear hrd hk12 hb12 hrow11 hrow12 HB11 hD11 hD12
          go_wp2_with fail
          refine hsm.mono ?_
          rintro e w13 ⟨rfl, hbq13⟩
          have hb13 : Below B w w13 := HB12.out.trans (hbq13.mono (by omega))
          have hs13 := hb13.size
          have HB13 : Hid (Below B w w13) := hb13
          have hD13 := hD12'.below hbq13
          have hrow13 := row1_kp hrow112 (Kp.of_below (S := fun _ => False) hbq13) (fun _ _ e => e)
          have hwt := waits_t _ _ _ _ hD13
          rw [x3, List.length_nil] at hwt
          clear hsm hD12' hb13 hbq13 hrow112 HB12
          go_wp2_with fail
          refine hwt.mono ?_
          rintro e w13' ⟨rfl, rfl⟩
          have hcr := crash_t _ _ _ _ hD13 0 torn (by omega)
          have u1 : seenF (crashF s3 0 torn) = L2 := by rw [crash_none x3]; exact x1
          obtain ⟨u2, u3, u4, _⟩ := idle_crash x2.2.2 0 torn
          have u5 := good_crash x5 0 torn
          obtain ⟨s4, hs4⟩ : ∃ s4, s4 = crashF s3 0 torn := ⟨_, rfl⟩
          rw [← hs4] at hcr u1 u2 u4 u5
          have hd4 : s4.deeds ≤ 200 := by omega
          clear hwt hs4 u4 u3 hD13 x1 x2 x3 x5
          go_wp2_with fail
          refine hcr.mono ?_
          rintro e w14 ⟨rfl, hD14, hk14⟩
          have hb14 : Below B w w14 := HB13.out.trans (hk14.oldT (by omega) (fun i hi => .inl hi))
          have hs14 := hb14.size
          have HB14 : Hid (Below B w w14) := hb14
          have hrow14 := row1_kp hrow13 hk14 (fun g hg e => e (.inr hg))
          have hrd := readAll_t _ _ _ _ hD14 (by omega) u2.1 u5
          rw [u1] at hrd
          clear hcr hk14 hb14 hrow13 HB13
          go_wp2_with fail
          refine hrd.mono ?_
          rintro e w15 ⟨v15, rfl, hrow15, hD15, hk15⟩
          obtain ⟨a15, c15, rfl, _⟩ := ownsRow_cs hrow15
          have hb15 : Below B w w15 := HB14.out.trans (hk15.oldT (by omega) (fun i hi => .inl hi))
          have hs15 := hb15.size
          have HB15 : Hid (Below B w w15) := hb15
          have hsm := same_rows hrow15 (row1_kp hrow14 hk15 (fun g hg e => e (.inr hg))) (by omega)
          clear hrd hk15 hb15 hrow14 HB14 hD14 hD15 hrow15
          go_wp2_with fail
          refine hsm.mono ?_
          rintro e w16 ⟨rfl, hbq16⟩
          go_wp2
          go_ret
          exact ⟨rfl, HB15.out.trans (hbq16.mono (by omega))⟩
end Go.Proofs.Ytngkapddobgfaaa
