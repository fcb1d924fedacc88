/-
  The walk of the law on two disks: with the same deeds they have the same files, wherever one of them was synced.
-/
import Derived.Test.YtngkapddobgfaaaDiskLaw2
namespace Go.Proofs.Ytngkapddobgfaaa
open Go.RowKit Go.Maps
set_option linter.unusedVariables false

/-- Two disks apart from each other and from T. -/
def Two (T : Nat → Prop) (w : World) (pa : Nat) (sa : St) (pb : Nat) (sb : St) : Prop :=
  (∀ i, T i → i < w.heap.size) ∧ ∃ Sa Sb, Dk w Sa pa sa ∧ Dk w Sb pb sb ∧ (∀ i, Sa i → ¬ T i) ∧ (∀ i, Sb i → ¬ T i) ∧ ∀ i, Sa i → ¬ Sb i

theorem Two.swap {T : Nat → Prop} {w : World} {pa : Nat} {sa : St} {pb : Nat} {sb : St} (h : Two T w pa sa pb sb) : Two T w pb sb pa sa := by
  obtain ⟨h1, Sa, Sb, h2, h3, h4, h5, h6⟩ := h
  exact ⟨h1, Sb, Sa, h3, h2, h5, h4, fun i hi e => h6 i e hi⟩
theorem Two.mono {T T' : Nat → Prop} {w : World} {pa : Nat} {sa : St} {pb : Nat} {sb : St} (h : Two T w pa sa pb sb) (hs : ∀ i, T' i → T i) : Two T' w pa sa pb sb := by
  obtain ⟨h1, Sa, Sb, h2, h3, h4, h5, h6⟩ := h
  exact ⟨fun i hi => h1 i (hs i hi), Sa, Sb, h2, h3, fun i hi e => h4 i hi (hs i e), fun i hi e => h5 i hi (hs i e), h6⟩
theorem Dk.kp {S S1 : Nat → Prop} {w w' : World} {p : Nat} {st : St} (h : Dk w S p st) (hk : Kp S1 w w') (hn : ∀ i, S i → ¬ S1 i) : Dk w' S p st := by
  obtain ⟨lm, E, v, rs, hD, hS, hSl⟩ := h
  exact ⟨lm, E, v, rs, hD.kp hk (fun i hi e => absurd e (hn i (hS i hi))) (fun e he => (hD.last.fl e he).kp hk (fun g hg => hn g (hS g (.inr (.inr (.inl ⟨e, he, hg⟩)))))), hS, fun i hi => Nat.lt_of_lt_of_le (hSl i hi) hk.size⟩
theorem Two.first {T : Nat → Prop} {w : World} {pa : Nat} {sa : St} {pb : Nat} {sb : St} (h : Two T w pa sa pb sb) : ∃ T' : Nat → Prop, (∀ i, T i → T' i) ∧ DkT T' w pa sa ∧ (∀ w' sa', DkT T' w' pa sa' → Kp (fun i => ¬ T' i) w w' → Two T w' pa sa' pb sb) ∧
    ∀ (V : Nat → Prop) w' sa', (∀ i, V i → w.heap.size ≤ i) → DkT (fun i => T' i ∨ V i) w' pa sa' → Kp (fun i => ¬ T' i) w w' → Two (fun i => T i ∨ V i) w' pa sa' pb sb := by
  obtain ⟨h1, Sa, Sb, h2, h3, h4, h5, h6⟩ := h
  have hSb : ∀ i, Sb i → i < w.heap.size := by obtain ⟨_, _, _, _, _, _, hl⟩ := h3; exact hl
  have key : ∀ (V : Nat → Prop) w' sa', (∀ i, V i → w.heap.size ≤ i) → DkT (fun i => (T i ∨ Sb i) ∨ V i) w' pa sa' → Kp (fun i => ¬ (T i ∨ Sb i)) w w' → Two (fun i => T i ∨ V i) w' pa sa' pb sb := by
    intro V w' sa' hV hD hk
    obtain ⟨k1, S', k2, k3⟩ := hD
    refine ⟨fun i hi => k1 i (by rcases hi with e | e; exact .inl (.inl e); exact .inr e), S', Sb, k2, h3.kp hk (fun i hi e => e (.inr hi)), fun i hi e => k3 i hi (by rcases e with e | e; exact .inl (.inl e); exact .inr e), fun i hi e => ?_, fun i hi e => k3 i hi (.inl (.inr e))⟩
    rcases e with e | e
    · exact h5 i hi e
    · have := hV i e
      have := hSb i hi
      omega
  refine ⟨fun i => T i ∨ Sb i, fun i hi => .inl hi, ⟨fun i hi => by rcases hi with e | e; exact h1 i e; exact hSb i e, Sa, h2, fun i hi e => by rcases e with e | e; exact h4 i hi e; exact h6 i hi e⟩, fun w' sa' hD hk => ?_, key⟩
  refine (key (fun _ => False) w' sa' (fun _ e => e.elim) (hD.more (fun i hi => hD.1 i (by rcases hi with e | e; exact e; exact e.elim)) (fun i hi => by rcases hi with e | e; exact e; exact e.elim)) hk).mono (fun i hi => .inl hi)
theorem Two.below {T : Nat → Prop} {w w' : World} {pa : Nat} {sa : St} {pb : Nat} {sb : St} (h : Two T w pa sa pb sb) (hb : Below w.heap.size w w') : Two T w' pa sa pb sb := by
  obtain ⟨h1, Sa, Sb, h2, h3, h4, h5, h6⟩ := h
  have hk : Kp (fun _ => False) w w' := Kp.of_below hb
  exact ⟨fun i hi => Nat.lt_of_lt_of_le (h1 i hi) hb.size, Sa, Sb, h2.kp hk (fun _ _ e => e), h3.kp hk (fun _ _ e => e), h4, h5, h6⟩
theorem two_new {B : Nat} {w w' : World} {pa : Nat} {sa : St} {pb : Nat} {sb : St} (h : DkT (Old B) w pa sa) (hB : B ≤ w.heap.size) (hn : Dk w' (fun i => i = pb) pb sb) (hb : Below w.heap.size w w') (hp : pb = w.heap.size) : Two (Old B) w' pa sa pb sb := by
  obtain ⟨h1, Sa, h2, h3⟩ := h
  have hSa : ∀ i, Sa i → i < w.heap.size := by obtain ⟨_, _, _, _, _, _, hl⟩ := h2; exact hl
  exact ⟨fun i hi => Nat.lt_of_lt_of_le (h1 i hi) hb.size, Sa, fun i => i = pb, h2.kp (Kp.of_below (S := fun _ => False) hb) (fun _ _ e => e), hn, h3, fun i hi e => by unfold Old at e; have hi' : i = pb := hi; omega, fun i hi e => by have := hSa i hi; have e' : i = pb := e; omega⟩

/-- What both disks have in common. -/
def Like (sa sb : St) : Prop := Idle 1048576 sa ∧ Idle 1048576 sb ∧ Good sa ∧ Good sb ∧ seenF sa = seenF sb ∧ sb.waits.length ≤ sa.waits.length ∧ sa.deeds ≤ sb.deeds
theorem do_counts {room : Nat} {st : St} (h : Idle room st) (a : ActL) : (doS st a).waits.length = st.waits.length + (if wrongL room (seenF st) a = 0 then 1 else 0) ∧ (doS st a).deeds = st.deeds + (if wrongL room (seenF st) a = 0 then 1 else 0) := by
  obtain ⟨h1, h2, h3⟩ := h
  have hw := wrong_up h1 a
  rw [h3] at hw
  have ha : st.armed ≠ 1 := by omega
  unfold doS
  rw [hw]
  by_cases h0 : wrongL room (seenF st) a = 0
  · rw [if_pos h0, if_pos h0]
    unfold waitF
    rw [if_neg ha]
    exact ⟨by simp, rfl⟩
  · rw [if_neg h0, if_neg h0]
    exact ⟨rfl, rfl⟩
theorem Like.play {sa sb : St} (h : Like sa sb) (a : ActL) (hk : a.kind < 5) : Like (playS sa a) (playS sb a) ∧ playE sa a = playE sb a ∧ (playS sb a).deeds ≤ sb.deeds + 1 := by
  obtain ⟨h1, h2, h3, h4, h5, h6, h7⟩ := h
  unfold playS playE
  rw [if_pos hk, if_pos hk, if_pos hk, if_pos hk]
  obtain ⟨i1, i2, i3, _, _, _⟩ := idle_do h1 (deedA a)
  obtain ⟨j1, j2, j3, j4, _, _⟩ := idle_do h2 (deedA a)
  obtain ⟨c1, c2⟩ := do_counts h1 (deedA a)
  obtain ⟨d1, d2⟩ := do_counts h2 (deedA a)
  rw [h5] at i2 i3 c1 c2
  exact ⟨⟨i1, j1, good_do h3 _, good_do h4 _, by rw [i2, j2], by omega, by omega⟩, by rw [i3, j3], j4⟩
theorem Like.sync {sa sb : St} (h : Like sa sb) : Like sa (crashF (syncS sb) 0 0) ∧ syncE sb = 0 ∧ (crashF (syncS sb) 0 0).deeds = sb.deeds + 1 ∧ (syncS sb).deeds = sb.deeds + 1 := by
  obtain ⟨h1, h2, h3, h4, h5, h6, h7⟩ := h
  obtain ⟨i1, i2, i3, i4, i5⟩ := idle_sync h2
  obtain ⟨j1, j2, j3, _⟩ := idle_crash i1.2.2 0 0
  exact ⟨⟨h1, j1, h3, good_crash (good_sync h4) 0 0, by rw [crash_none i4, i3, h5], by rw [j2]; exact Nat.zero_le _, by omega⟩, i2, by omega, i5⟩

set_option maxRecDepth 100000 in
set_option maxHeartbeats 2000000 in
theorem diskTwo_walk (a0 : Option Addr) (n0 c0 : Nat) (r0 : List ARef) (N : Nat) (w : World) (h0 : As w a0 n0 c0 r0) (hN : N ≤ 255) :
    Calls Try.prog 8 #[.slice a0 n0 c0, .int .u8 (N : Int)] w fun e w' => e = .returned (.bool true) ∧ Below w.heap.size w w' := by
  obtain ⟨B, hB⟩ : ∃ B, B = w.heap.size := ⟨_, rfl⟩
  rw [← hB]
  have hBw : B ≤ w.heap.size := by omega
  have hwB : w.heap.size ≤ B := by omega
  have halive := alive_any w
  rw [← hB] at halive
  clear hB
  have hc0 := h0.2.1
  have HA0 : Hid (As w a0 n0 c0 r0) := h0
  have hf0 : ∀ w', Below B w w' → Calls Try.prog 10 #[.slice a0 n0 c0] w' fun e w'' => e = .returned (.bool (farF r0)) ∧ w'' = w' := fun w' hb => far_any a0 n0 c0 r0 w' (h0.below hb hwB)
  cases e0 : farF r0 with
  | true =>
    rw [e0] at hf0
    clear e0 h0
    go_enter Try.func8, Try.ntmps8
    go_wp2_with fail
    refine halive.mono ?_
    rintro e w1 ⟨rfl, hb1⟩
    go_wp2_with fail
    refine (hf0 w1 hb1).mono ?_
    rintro e w2 ⟨rfl, rfl⟩
    go_wp2
    go_ret
    exact ⟨rfl, hb1⟩
  | false =>
  rw [e0] at hf0
  obtain ⟨hn0, hr0⟩ := near_of e0
  have hl0 := h0.1
  have HR0 : Hid (∀ r ∈ r0, r.n ≤ 200 ∧ r.name.size ≤ 60 ∧ r.to.size ≤ 60 ∧ 0 ≤ r.kind ∧ r.kind ≤ 8) := hr0
  have hq0 : n0 ≤ 60 := by omega
  clear e0 h0 hr0 hn0 hl0
  obtain ⟨m5, hm5⟩ : ∃ m5, m5 = N % 5 := ⟨_, rfl⟩
  have hm5I : Int.tmod (N : Int) 5 = (m5 : Int) := by rw [Int.tmod_eq_emod_of_nonneg (by omega)]; omega
  have hm5l : m5 < 5 := by omega
  clear hm5
  go_enter Try.func8, Try.ntmps8
  go_wp2_with fail
  refine halive.mono ?_
  rintro e w1 ⟨rfl, hb1⟩
  go_wp2_with fail
  refine (hf0 w1 hb1).mono ?_
  rintro e w3 ⟨rfl, rfl⟩
  have hs1 := hb1.size
  have hnew := new_t (Old B) 1048576 w3 (fun i hi => Nat.lt_of_lt_of_le hi (by omega)) (by omega) (by omega)
  rw [show (1048576 : Int).toNat = 1048576 from rfl] at hnew
  clear halive hf0
  go_wp2_with fail
  refine hnew.mono ?_
  rintro e w4 ⟨rfl, hD4, hb4⟩
  have hb4' : Below B w w4 := hb1.trans (hb4.mono (by omega))
  have hs4 := hb4'.size
  obtain ⟨pa, hpa⟩ : ∃ pa, pa = w3.heap.size := ⟨_, rfl⟩
  rw [← hpa] at hD4 ⊢
  have hnew2 := new_any 1048576 w4 (by omega) (by omega)
  rw [show (1048576 : Int).toNat = 1048576 from rfl] at hnew2
  have HB4 : Hid (Below B w w4) := hb4'
  clear hnew hb4 hb4' hb1 hpa
  go_wp2_with fail
  refine hnew2.mono ?_
  rintro e w5 ⟨rfl, hD5, hb5⟩
  have hb5' : Below B w w5 := HB4.out.trans (hb5.mono (by omega))
  obtain ⟨pb, hpb⟩ : ∃ pb, pb = w4.heap.size := ⟨_, rfl⟩
  rw [← hpb] at hD5 ⊢
  have hTwo := two_new hD4 (by omega) hD5 hb5 hpb
  have HB5 : Hid (Below B w w5) := hb5'
  clear hnew2 hb5 hb5' hpb hD4 hD5 HB4 hs1 hs4
  go_wp2_with fail
  go_loopw [9] (fun iv wr => ∃ (j : Nat) (sa sb : St), iv = .int .i64 (j : Int) ∧ j ≤ n0 ∧ Two (Old B) wr pa sa pb sb ∧ Like sa sb ∧ sb.deeds ≤ 2 * j ∧ Below B w wr) (fun iv _ => n0 - (intOf iv).toNat)
  case atStart => exact ⟨0, newS 1048576, newS 1048576, rfl, Nat.zero_le _, hTwo, ⟨idle_new _, idle_new _, good_new _, good_new _, rfl, Nat.le_refl _, Nat.le_refl _⟩, Nat.le_refl _, HB5.out⟩
  case round =>
    obtain ⟨j, sa, sb, rfl, hj, hT, hlk, hdd, hbj⟩ := hrel
    by_cases hlt : j < n0
    · obtain ⟨b, off, r, rfl, hr, hinn, hbb, hc⟩ := (HA0.out.below hbj hwB).at hlt
      have hrm : r ∈ r0 := List.mem_of_getElem? hr
      obtain ⟨m1, m2, m3, m4, m5'⟩ := HR0.out r hrm
      have hin0 := HA0.out.2.2.2.2.2 r hrm
      have hsj := hbj.size
      have d0 := hc 0 (by omega)
      have d1 := hc 1 (by omega)
      have d2 := hc 2 (by omega)
      have d3 := hc 3 (by omega)
      have d4 := hc 4 (by omega)
      have d5 := hc 5 (by omega)
      simp only [ARef.cells, List.getElem?_cons_zero, List.getElem?_cons_succ, Nat.add_zero] at d0 d1 d2 d3 d4 d5
      by_cases hk4 : 4 < r.kind
      · clear hc hinn hin0 hrm hr m1 m2 m3
        go_wp2
        go_roundw
        case rel => exact ⟨j + 1, sa, sb, by go_num, by omega, hT, hlk, by omega, hbj⟩
        case measure => simp [intOf]; omega
      · obtain ⟨hlk2, hpe, hdb⟩ := hlk.play r.act (show r.kind < 5 by omega)
        have hds := hlk.2.2.2.2.2.2
        obtain ⟨T1, ht1, hDa, hbk1, _⟩ := hT.first
        have hdo1 := do_t T1 pa sa r _ hDa (by omega) hinn m4 m5' (by omega) (fun x hx h0 => ht1 _ (by have := hin0.2.2.2.2.2 x hx h0; unfold Old; omega))
        have hin2 : ∀ w', Below B w w' → r.inn w' := fun w' hb => hin0.below hb hwB
        have hcell : ∀ w', Below B wr w' → ∀ o, w'.cell? ⟨b, o, none⟩ = wr.cell? ⟨b, o, none⟩ := fun w' hb o => World.cell?_of_block (hb.block b (by
          have h5 := HA0.out.at hlt
          obtain ⟨b', off', r', e5, _, _, hb5, _⟩ := h5
          cases e5
          omega))
        rw [hpe] at hdo1
        obtain ⟨EE, hEE⟩ : ∃ EE, EE = playE sb r.act := ⟨_, rfl⟩
        rw [← hEE] at hdo1
        have HE : Hid (EE = playE sb r.act) := hEE
        have HBJ : Hid (Below B w wr) := hbj
        clear hc hinn hr hT hbj hpe hEE hDa
        go_wp2_with fail
        refine hdo1.mono ?_
        rintro e w6 ⟨⟨sa6, sn6, sc6⟩, rfl, _, hD6, hk6⟩
        have hb6q : Below B wr w6 := hk6.oldT (by omega) ht1
        have hb6 : Below B w w6 := HBJ.out.trans hb6q
        have hs6 := hb6.size
        have hT6 := hbk1 w6 _ hD6 hk6
        obtain ⟨T2, ht2, hDb, hbk2, _⟩ := hT6.swap.first
        have hdo2 := do_t T2 pb sb r _ hDb (by omega) (hin2 w6 hb6) m4 m5' (by omega) (fun x hx h0 => ht2 _ (by have := hin0.2.2.2.2.2 x hx h0; unfold Old; omega))
        rw [← HE.out] at hdo2
        rw [← hcell w6 hb6q] at d0 d1 d2 d3 d4 d5
        have HB6 : Hid (Below B w w6) := hb6
        unfold Sl.val
        clear hdo1 hk6 hD6 hbk1 hb6 hb6q hT6 hDb
        go_wp2_with fail
        refine hdo2.mono ?_
        rintro e w7 ⟨⟨sa7, sn7, sc7⟩, rfl, _, hD7, hk7⟩
        have hb7 : Below B w w7 := HB6.out.trans (hk7.oldT (by omega) ht2)
        have hs7 := hb7.size
        have hT7 := (hbk2 w7 _ hD7 hk7).swap
        have HB7 : Hid (Below B w w7) := hb7
        unfold Sl.val
        clear hdo2 hk7 hD7 hbk2 hb7 d0 d1 d2 d3 d4 d5
        obtain ⟨y1, y2, y3, y4⟩ := hlk2.sync
        obtain ⟨T3, ht3, hDb3, hbk3, _⟩ := hT7.swap.first
        have hsy := sync_t _ _ _ _ hDb3 (by omega)
        rw [y2] at hsy
        have HY : Hid (Like (playS sa r.act) (crashF (syncS (playS sb r.act)) 0 0) ∧ (crashF (syncS (playS sb r.act)) 0 0).deeds ≤ 2 * (j + 1) ∧ (syncS (playS sb r.act)).deeds ≤ 1000) := ⟨y1, by omega, by omega⟩
        clear y1 y2 y3 y4 hDb3
        go_wp2_with fail
        case roundEnd => exact ⟨⟨j + 1, _, _, by go_num, by omega, hT7, hlk2, by omega, HB7.out⟩, by simp [intOf]; omega⟩
        refine hsy.mono ?_
        rintro e w8 ⟨rfl, hD8, hk8⟩
        have hb8 : Below B w w8 := HB7.out.trans (hk8.oldT (by omega) ht3)
        have hs8 := hb8.size
        have hT8 := (hbk3 w8 _ hD8 hk8).swap
        have HB8 : Hid (Below B w w8) := hb8
        obtain ⟨T4, ht4, hDb4, hbk4, _⟩ := hT8.swap.first
        have hcr := crash_t _ _ _ _ hDb4 0 0 (by have := HY.out.2.2; omega)
        clear hsy hk8 hD8 hbk3 hb8 hT7 hDb4 HB7 hT8
        go_wp2_with fail
        refine hcr.mono ?_
        rintro e w9 ⟨rfl, hD9, hk9⟩
        have hb9 : Below B w w9 := HB8.out.trans (hk9.oldT (by omega) ht4)
        have hT9 := (hbk4 w9 _ hD9 hk9).swap
        clear hcr hk9 hD9 hbk4
        go_wp2
        go_roundw
        case rel => exact ⟨j + 1, _, _, by go_num, by omega, hT9, HY.out.1, HY.out.2.1, hb9⟩
        case measure => simp [intOf]; omega
    · have hsj := hbj.size
      have hdb : sb.deeds ≤ 200 := by omega
      obtain ⟨l1, l2, l3, l4, l5, l6, l7⟩ := hlk
      obtain ⟨T1, ht1, hDa, _, hbv1⟩ := hT.first
      have hrd := readAll_t _ _ _ _ hDa (by omega) l1.1 l3
      obtain ⟨_, hok, _⟩ := hDa.deeds
      have hlen : (seenF sa).length ≤ 64 := hok.2.1
      have hus : usedF (seenF sa) ≤ 1073741824 := by have := hok.2.2; have := l1.2.2; omega
      obtain ⟨L, hL⟩ : ∃ L, L = seenF sa := ⟨_, rfl⟩
      have hL2 : seenF sb = L := by rw [hL, l5]
      rw [← hL] at hrd hlen hus
      have HL : Hid (L = seenF sa ∧ seenF sb = L) := ⟨hL, hL2⟩
      have HBJ : Hid (Below B w wr) := hbj
      clear hok hDa hT hbj l5 hL hL2
      go_wp2_with fail
      refine hrd.mono ?_
      rintro e w6 ⟨v6, rfl, hrow6, hD6, hk6⟩
      obtain ⟨a6, c6, rfl, _⟩ := ownsRow_cs hrow6
      have hb6 : Below B w w6 := HBJ.out.trans (hk6.oldT (by omega) ht1)
      have hs6 := hb6.size
      have HB6 : Hid (Below B w w6) := hb6
      have hT6 := hbv1 (fun i => (Value.slice a6 (L.length * 2) c6).ownBlock = some i) w6 sa (fun i hi => (hrow6.lt i hi).1) hD6 hk6
      obtain ⟨T2, ht2, hDb, hbk2, hbv2⟩ := hT6.swap.first
      have hrd2 := readAll_t _ _ _ _ hDb (by omega) l2.1 l4
      rw [HL.out.2] at hrd2
      clear hrd hk6 hD6 hb6 hbv1 hT6 hDb
      go_wp2_with fail
      refine hrd2.mono ?_
      rintro e w7 ⟨v7, rfl, hrow7, hD7, hk7⟩
      obtain ⟨a7, c7, rfl, _⟩ := ownsRow_cs hrow7
      have hb7 : Below B w w7 := HB6.out.trans (hk7.oldT (by omega) (fun i hi => ht2 i (.inl hi)))
      have hs7 := hb7.size
      have HB7 : Hid (Below B w w7) := hb7
      have hrow67 := row1_kp hrow6 hk7 (fun g hg e => e (ht2 g (.inr hg)))
      have hT7 := (hbv2 (fun i => (Value.slice a7 (L.length * 2) c7).ownBlock = some i) w7 sb (fun i hi => (hrow7.lt i hi).1) hD7 hk7).swap.mono (T' := Old B) (fun i hi => .inl (.inl hi))
      have hsm := same_rows hrow67 hrow7 (by omega)
      clear hrd2 hk7 hD7 hb7 hbv2 hbk2 hrow6 hrow7 hrow67
      go_wp2_with fail
      refine hsm.mono ?_
      rintro e w8 ⟨rfl, hbq8⟩
      have hb8 : Below B w w8 := HB7.out.trans (hbq8.mono (by omega))
      have hs8 := hb8.size
      have HB8 : Hid (Below B w w8) := hb8
      have hT8 := hT7.below hbq8
      obtain ⟨T3, ht3, hDa3, hbk3, _⟩ := hT8.first
      have hu1 := used_t _ _ _ _ hDa3 (by omega)
      rw [← HL.out.1] at hu1
      clear hsm hT7 hbq8 hb8 hT8 hDa3
      go_wp2_with fail
      refine hu1.mono ?_
      rintro e w9 ⟨rfl, hD9, hk9⟩
      have hb9 : Below B w w9 := HB8.out.trans (hk9.oldT (by omega) ht3)
      have hs9 := hb9.size
      have HB9 : Hid (Below B w w9) := hb9
      have hT9 := hbk3 w9 _ hD9 hk9
      obtain ⟨T4, ht4, hDb4, hbk4, _⟩ := hT9.swap.first
      have hu2 := used_t _ _ _ _ hDb4 (by omega)
      rw [HL.out.2] at hu2
      clear hu1 hk9 hD9 hb9 hbk3 hDb4 hT9
      go_wp2_with fail
      refine hu2.mono ?_
      rintro e w10 ⟨rfl, hD10, hk10⟩
      have hb10 : Below B w w10 := HB9.out.trans (hk10.oldT (by omega) ht4)
      have HB10 : Hid (Below B w w10) := hb10
      have hT10 := (hbk4 w10 _ hD10 hk10).swap
      obtain ⟨T5, _, hDa5, _, _⟩ := hT10.first
      obtain ⟨T6, _, hDb6, _, _⟩ := hT10.swap.first
      have wa := waits_t _ _ _ _ hDa5
      have wb := waits_t _ _ _ _ hDb6
      have da := deeds_t _ _ _ _ hDa5
      have db := deeds_t _ _ _ _ hDb6
      clear hu2 hk10 hD10 hb10 hbk4 hDa5 hDb6 hT10
      obtain ⟨X1, hX1⟩ : ∃ X, X = sa.waits.length := ⟨_, rfl⟩
      obtain ⟨X2, hX2⟩ : ∃ X, X = sb.waits.length := ⟨_, rfl⟩
      obtain ⟨X3, hX3⟩ : ∃ X, X = sa.deeds := ⟨_, rfl⟩
      obtain ⟨X4, hX4⟩ : ∃ X, X = sb.deeds := ⟨_, rfl⟩
      rw [← hX1] at wa l6
      rw [← hX2] at wb l6
      rw [← hX3] at da l7
      rw [← hX4] at db l7
      clear hX1 hX2 hX3 hX4
      go_wp2_with fail
      refine wb.mono ?_
      rintro e w11 ⟨rfl, rfl⟩
      go_wp2_with fail
      refine wa.mono ?_
      rintro e w12 ⟨rfl, rfl⟩
      go_wp2_with fail
      refine db.mono ?_
      rintro e w13 ⟨rfl, rfl⟩
      go_wp2_with fail
      refine da.mono ?_
      rintro e w14 ⟨rfl, rfl⟩
      go_wp2
      go_ret
      exact ⟨rfl, HB10.out⟩
end Go.Proofs.Ytngkapddobgfaaa
