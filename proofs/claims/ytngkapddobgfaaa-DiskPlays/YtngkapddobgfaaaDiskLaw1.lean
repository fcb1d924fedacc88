/-
  The walk of the law on any calls: what the document's disk answers, ours does, and both hold the same behind each call.
-/
import Derived.Test.YtngkapddobgfaaaDiskTwin
import Derived.Test.YtngkapddobgfaaaDiskNil
import Derived.Deep.CutRange
namespace Go.Proofs.Ytngkapddobgfaaa
open Go.RowKit Go.Maps
set_option linter.unusedVariables false

theorem bytes_used (L : List FileL) (k : List UInt8) : (bytesF L k).length ≤ usedF L := by
  rw [bytes_get]
  cases h : getG L k with
  | none => simp
  | some b =>
    obtain ⟨i, hi⟩ := List.getElem?_of_mem (getG_mem h)
    have e := usedF_take_succ L i _ hi
    have e2 := usedF_take_le L (i + 1)
    show b.length ≤ _
    simp only at e
    omega
theorem play_bytes (st : St) (a : ActL) : (playB st a).length ≤ usedF (seenF st) := by
  unfold playB readB
  split
  · split
    · exact bytes_used _ _
    · simp
  · simp

set_option maxRecDepth 100000 in
set_option maxHeartbeats 1000000 in
theorem diskPlays_walk (room : Int) (a0 : Option Addr) (n0 c0 : Nat) (r0 : List ARef) (w : World) (h0 : As w a0 n0 c0 r0) (hlo : -9223372036854775808 ≤ room) (hhi : room ≤ 9223372036854775807) :
    Calls Try.prog 3 #[.int .i64 room, .slice a0 n0 c0] w fun e w' => e = .returned (.bool true) ∧ Below w.heap.size w w' := by
  obtain ⟨B, hB⟩ : ∃ B, B = w.heap.size := ⟨_, rfl⟩
  rw [← hB]
  have hBw : B ≤ w.heap.size := by omega
  have hwB : w.heap.size ≤ B := by omega
  have halive := alive_any w
  rw [← hB] at halive
  clear hB
  have hc0 := h0.2.1
  have HA0 : Hid (As w a0 n0 c0 r0) := h0
  have hf0 : ∀ w', Below B w w' → Calls Try.prog 10 #[.slice a0 n0 c0] w' fun e w'' => e = .returned (.bool (farF r0)) ∧ w'' = w' := fun w' hb => far_any a0 n0 c0 r0 w' (h0.below hb hwB)
  cases e0 : farF r0 with
  | true =>
    rw [e0] at hf0
    clear e0 h0
    go_enter Try.func3, Try.ntmps3
    go_wp2_with fail
    refine halive.mono ?_
    rintro e w1 ⟨rfl, hb1⟩
    go_wp2_with fail
    refine (hf0 w1 (by first | exact hb1 | exact hb1.drew)).mono ?_
    rintro e w2 ⟨rfl, rfl⟩
    go_wp2
    go_ret
    exact ⟨rfl, hb1⟩
  | false =>
  rw [e0] at hf0
  obtain ⟨hn0, hr0⟩ := near_of e0
  have hl0 := h0.1
  have HR0 : Hid (∀ r ∈ r0, r.n ≤ 200 ∧ r.name.size ≤ 60 ∧ r.to.size ≤ 60 ∧ 0 ≤ r.kind ∧ r.kind ≤ 8) := hr0
  have hq0 : n0 ≤ 60 := by omega
  clear e0 h0 hr0 hn0 hl0
  by_cases hroom : room < 0 ∨ 1073741824 < room
  · have hnew : ∀ w', Calls Try.prog 11 #[.int .i64 room] w' fun e w'' => e = .returned (.tuple #[.pointer none, .int .u8 1]) ∧ w'' = w' := fun w' => new_bad room w' hroom
    go_enter Try.func3, Try.ntmps3
    go_wp2_with fail
    refine halive.mono ?_
    rintro e w1 ⟨rfl, hb1⟩
    go_wp2_with fail
    refine (hf0 w1 hb1).mono ?_
    rintro e w2 ⟨rfl, rfl⟩
    go_wp2_with fail
    refine (hnew _).mono ?_
    rintro e w3 ⟨rfl, rfl⟩
    clear halive hf0 hnew
    rcases hroom with h1 | h1
    · have t1 : decide (room < 0) = true := by simp [h1]
      go_wp2
      go_ret
      exact ⟨rfl, hb1⟩
    · have t1 : decide (room < 0) = false := by simp; omega
      have t2 : decide (1073741824 < room) = true := by simp [h1]
      go_wp2
      go_ret
      exact ⟨rfl, hb1⟩
  have hr1 : 0 ≤ room := by omega
  have hr2 : room ≤ 1073741824 := by omega
  clear hroom
  obtain ⟨rm, rfl⟩ : ∃ rm : Nat, room = (rm : Int) := ⟨room.toNat, by omega⟩
  go_enter Try.func3, Try.ntmps3
  go_wp2_with fail
  refine halive.mono ?_
  rintro e w1 ⟨rfl, hb1⟩
  go_wp2_with fail
  refine (hf0 w1 hb1).mono ?_
  rintro e w2 ⟨rfl, rfl⟩
  have hs1 := hb1.size
  have hnew := new_t (Old B) (rm : Int) w2 (fun i hi => Nat.lt_of_lt_of_le hi (by omega)) hr1 hr2
  rw [show ((rm : Int)).toNat = rm from rfl] at hnew
  clear halive hf0
  go_wp2_with fail
  refine hnew.mono ?_
  rintro e w4 ⟨rfl, hD4, hb4⟩
  have hb4' : Below B w w4 := hb1.trans (hb4.mono (by omega))
  obtain ⟨p, hp⟩ : ∃ p, p = w2.heap.size := ⟨_, rfl⟩
  rw [← hp] at hD4 ⊢
  have HB4 : Hid (Below B w w4) := hb4'
  clear hnew hb4 hb4' hb1 hp hs1
  obtain ⟨w5, hw5⟩ : ∃ w5, w5 = w4.alloc (.cells #[.int .i64 (rm : Int), .slice none 0 0, .slice none 0 0, .int .i64 0, .bool false, .int .i64 0] 31) := ⟨_, rfl⟩
  obtain ⟨M, hM⟩ : ∃ M, M = w4.heap.size := ⟨_, rfl⟩
  have hs4 := HB4.out.size
  have hb5 : Below w4.heap.size w4 w5 := by rw [hw5]; exact (Below.refl _ _).alloc (Nat.le_refl _) _
  have hs5 : w5.heap.size = M + 1 := by rw [hw5, hM]; simp
  have hbox : w5.heap[M]? = some (.cells #[.int .i64 (rm : Int), .slice none 0 0, .slice none 0 0, .int .i64 0, .bool false, .int .i64 0] 31 (0, 0)) := by rw [hw5, hM]; exact World.alloc_heap_new _ _
  have hMB : B ≤ M := by omega
  have HST : Hid (∃ (T : Nat → Prop) (j : Nat) (st : St) (la : Option Addr) (ln lc : Nat) (rs : List FRef) (wa : Option Addr) (wn wc : Nat) (ws : List ARef) (armed : Int) (down : Bool) (deeds : Int), Value.int .i64 0 = .int .i64 (j : Int) ∧ j ≤ n0 ∧ st.room = rm ∧ Good st ∧ DkT (fun i => T i ∨ i = M) w5 p st ∧ Doc T w5 j st la ln lc rs wa wn wc ws armed down deeds ∧ ¬ T M ∧ (∀ i, i < B → T i) ∧ w5.heap[M]? = some (.cells #[.int .i64 (rm : Int), .slice la ln lc, .slice wa wn wc, .int .i64 armed, .bool down, .int .i64 deeds] 31 (0, 0)) ∧ Below B w w5) := by
    refine ⟨Old B, 0, newS rm, none, 0, 0, [], none, 0, 0, [], 0, false, 0, rfl, Nat.zero_le _, rfl, good_new _, hD4.grow (Kp.of_below hb5) (fun i hi => ?_) (fun i hi => ?_), ⟨Fs.nil _, ⟨rfl, Nat.le_refl _, by omega, fun _ => ⟨rfl, rfl⟩, .inl rfl, by simp⟩, rfl, twin_new rm, ⟨fun x hx => (by cases hx), by simp⟩, ⟨fun x hx => (by cases hx), by simp⟩, ⟨Nat.le_refl _, Nat.le_refl _⟩⟩, fun e => ?_, fun i hi => hi, hbox, HB4.out.trans (hb5.mono (by omega))⟩
    · unfold Old at hi; omega
    · unfold Old at hi ⊢; omega
    · unfold Old at e; omega
  clear hbox hb5 hD4
  go_wp2_with fail
  rw [← hw5, ← hM]
  clear hw5 hM
  go_loopw [8] (fun iv wr => ∃ (T : Nat → Prop) (j : Nat) (st : St) (la : Option Addr) (ln lc : Nat) (rs : List FRef) (wa : Option Addr) (wn wc : Nat) (ws : List ARef) (armed : Int) (down : Bool) (deeds : Int), iv = .int .i64 (j : Int) ∧ j ≤ n0 ∧ st.room = rm ∧ Good st ∧ DkT (fun i => T i ∨ i = M) wr p st ∧ Doc T wr j st la ln lc rs wa wn wc ws armed down deeds ∧ ¬ T M ∧ (∀ i, i < B → T i) ∧ wr.heap[M]? = some (.cells #[.int .i64 (rm : Int), .slice la ln lc, .slice wa wn wc, .int .i64 armed, .bool down, .int .i64 deeds] 31 (0, 0)) ∧ Below B w wr) (fun iv _ => n0 - (intOf iv).toNat)
  case atStart => exact HST.out
  case round =>
    clear HST
    obtain ⟨T, j, st, la, ln, lc, rs, wa, wn, wq, ws, armed, down, deeds, rfl, hj, hrm, hgd, hDk, hDoc, hTM, hTB, hbox, hbj⟩ := hrel
    by_cases hlt : j < n0
    · obtain ⟨b, off, r, rfl, hr, hinn, hbb, hc⟩ := (HA0.out.below hbj hwB).at hlt
      have d0 : wr.cell? ⟨b, off + j * 6, none⟩ = some (.int .i64 r.kind) := hc 0 (by omega)
      have d1 : wr.cell? ⟨b, off + j * 6 + 1, none⟩ = some (.string r.name) := hc 1 (by omega)
      have d2 : wr.cell? ⟨b, off + j * 6 + 2, none⟩ = some (.string r.to) := hc 2 (by omega)
      have d3 : wr.cell? ⟨b, off + j * 6 + 3, none⟩ = some (.slice r.a r.n r.c) := hc 3 (by omega)
      have d4 : wr.cell? ⟨b, off + j * 6 + 4, none⟩ = some (.int .i64 r.num) := hc 4 (by omega)
      have d5 : wr.cell? ⟨b, off + j * 6 + 5, none⟩ = some (.int .i64 r.torn) := hc 5 (by omega)
      obtain ⟨b2, hb2⟩ : ∃ b2 off2, some (⟨b, off, none⟩ : Addr) = some ⟨b2, off2, none⟩ ∧ b2 < B := by
        obtain ⟨b2, off2, _, e2, _, _, h2, _⟩ := HA0.out.at hlt
        exact ⟨b2, off2, e2, by omega⟩
      have hbB : b < B := by
        obtain ⟨off2, e2, h2⟩ := hb2
        cases e2; exact h2
      clear hb2 b2
      have hrm' : r ∈ r0 := List.mem_of_getElem? hr
      obtain ⟨m1, m2, m3, m4, m5⟩ := HR0.out r hrm'
      have hin0 := HA0.out.2.2.2.2.2 r hrm'
      have hrT : ∀ x, r.a = some x → 0 < r.n → T x.block := fun x hx h0 => hTB _ (by have := hin0.2.2.2.2.2 x hx h0; omega)
      have hsj := hbj.size
      obtain ⟨f0, f1, f2, f3, f4, f5, ff⟩ := six_cells hbox
      have hMlt : M < wr.heap.size := by
        rcases Nat.lt_or_ge M wr.heap.size with h | h
        · exact h
        · rw [Array.getElem?_eq_none h] at hbox; cases hbox
      have hTlt : ∀ i, T i → i < wr.heap.size := fun i hi => hDk.1 i (.inl hi)
      have HRUN := Hid.mk' (And.intro hDk.run hDk.deeds.2.2)
      obtain ⟨E, hE⟩ : ∃ E, E = playE st r.act := ⟨_, rfl⟩
      have HDO : Hid (∀ w', Below wr.heap.size wr w' → Calls Try.prog 12 #[.agg #[.int .i64 (rm : Int), .slice la ln lc, .slice wa wn wq, .int .i64 armed, .bool down, .int .i64 deeds], .agg #[.int .i64 r.kind, .string r.name, .string r.to, .slice r.a r.n r.c, .int .i64 r.num, .int .i64 r.torn]] w' (fun e w'' => ∃ la' ln' lc' rs' wa' wn' wq' ws' armed' down' deeds' b' bn' bc', e = .returned (.tuple #[.agg #[.int .i64 (rm : Int), .slice la' ln' lc', .slice wa' wn' wq', .int .i64 armed', .bool down', .int .i64 deeds'], .int .i64 E, .slice b' bn' bc']) ∧ Bs w'' b' bn' (playB st r.act) ∧ (∀ x, b' = some x → 0 < bn' → T x.block ∨ w'.heap.size ≤ x.block) ∧ Doc (fun i => T i ∨ (w'.heap.size ≤ i ∧ i < w''.heap.size)) w'' (j + 1) (playS st r.act) la' ln' lc' rs' wa' wn' wq' ws' armed' down' deeds' ∧ Below w'.heap.size w' w'')) := fun w' hb => by
        have h5 := refDo_twin T j st la ln lc rs wa wn wq ws armed down deeds r w' (hDoc.below hb) (by omega) HRUN.out.1 HRUN.out.2 (hinn.below hb (Nat.le_refl _)) hrT m4 m5 (by omega)
        unfold refDisk ARef.val at h5
        unfold DoEnd refDisk at h5
        rw [hrm, ← hE] at h5
        exact h5
      have HK : Hid (∀ w', Below wr.heap.size wr w' → w'.cell? ⟨M, 0, none⟩ = some (.int .i64 (rm : Int)) ∧ w'.cell? ⟨M, 1, none⟩ = some (.slice la ln lc) ∧ w'.cell? ⟨M, 2, none⟩ = some (.slice wa wn wq) ∧ w'.cell? ⟨M, 3, none⟩ = some (.int .i64 armed) ∧ w'.cell? ⟨M, 4, none⟩ = some (.bool down) ∧ w'.cell? ⟨M, 5, none⟩ = some (.int .i64 deeds) ∧ w'.cell? ⟨b, off + j * 6, none⟩ = some (.int .i64 r.kind) ∧ w'.cell? ⟨b, off + j * 6 + 1, none⟩ = some (.string r.name) ∧ w'.cell? ⟨b, off + j * 6 + 2, none⟩ = some (.string r.to) ∧ w'.cell? ⟨b, off + j * 6 + 3, none⟩ = some (.slice r.a r.n r.c) ∧ w'.cell? ⟨b, off + j * 6 + 4, none⟩ = some (.int .i64 r.num) ∧ w'.cell? ⟨b, off + j * 6 + 5, none⟩ = some (.int .i64 r.torn)) := fun w' hb => by
        obtain ⟨z0, z1, z2, z3, z4, z5, _⟩ := six_cells ((hb.block M hMlt).trans hbox)
        have hq := hb.block b (by omega)
        exact ⟨z0, z1, z2, z3, z4, z5, (World.cell?_of_block hq).trans d0, (World.cell?_of_block hq).trans d1, (World.cell?_of_block hq).trans d2, (World.cell?_of_block hq).trans d3, (World.cell?_of_block hq).trans d4, (World.cell?_of_block hq).trans d5⟩
      have B0 : Below wr.heap.size wr (wr.alloc (.cells #[.int .i64 0, .slice none 0 0, .slice none 0 0, .int .i64 0, .bool false, .int .i64 0] 31)).drew := ((Below.refl _ _).alloc (Nat.le_refl _) _).drew
      have HZB : Hid ((wr.alloc (.cells #[.int .i64 0, .slice none 0 0, .slice none 0 0, .int .i64 0, .bool false, .int .i64 0] 31)).drew.heap[wr.heap.size]? = some (.cells #[.int .i64 0, .slice none 0 0, .slice none 0 0, .int .i64 0, .bool false, .int .i64 0] 31 (0, 0)) ∧ wr.heap.size < (wr.alloc (.cells #[.int .i64 0, .slice none 0 0, .slice none 0 0, .int .i64 0, .bool false, .int .i64 0] 31)).drew.heap.size) := ⟨World.alloc_heap_new _ _, by show wr.heap.size < (wr.alloc _).heap.size; simp⟩
      have hS0 := HK.out wr.drew (Below.refl _ _).drew
      have hSx := HK.out wr (Below.refl _ _)
      have hSa := HK.out _ B0
      have ix1 : (j : Int) < (n0 : Int) := by omega
      have ix2 : (0 : Int) ≤ (j : Int) := by omega
      have HI := Hid.mk' (And.intro hinn (And.intro hDk (And.intro hgd (And.intro hbj (And.intro hbox (And.intro hE hDoc))))))
      have HC := Hid.mk' (And.intro d0 (And.intro d1 (And.intro d2 (And.intro d3 (And.intro d4 d5)))))
      clear hc hin0 hrm' hr m2 m3 d0 d1 d2 d3 d4 d5 f0 f1 f2 f3 f4 f5 ff hbox hinn hDk hgd hbj hE hDoc
      go_upto_region 12 with fail
      go_cut [9, 10, 11] from 44 to 53 (fun x9 x10 x11 wcut => DoB (rm : Int) E T j st r.act wr x9 x10 x11 wcut)
      case first =>
        go_region_held3 (fun w' => w'.cell? ⟨M, 0, none⟩ = some (.int .i64 (rm : Int)) ∧ w'.cell? ⟨M, 1, none⟩ = some (.slice la ln lc) ∧ w'.cell? ⟨M, 2, none⟩ = some (.slice wa wn wq) ∧ w'.cell? ⟨M, 3, none⟩ = some (.int .i64 armed) ∧ w'.cell? ⟨M, 4, none⟩ = some (.bool down) ∧ w'.cell? ⟨M, 5, none⟩ = some (.int .i64 deeds) ∧ w'.cell? ⟨b, off + j * 6, none⟩ = some (.int .i64 r.kind) ∧ w'.cell? ⟨b, off + j * 6 + 1, none⟩ = some (.string r.name) ∧ w'.cell? ⟨b, off + j * 6 + 2, none⟩ = some (.string r.to) ∧ w'.cell? ⟨b, off + j * 6 + 3, none⟩ = some (.slice r.a r.n r.c) ∧ w'.cell? ⟨b, off + j * 6 + 4, none⟩ = some (.int .i64 r.num) ∧ w'.cell? ⟨b, off + j * 6 + 5, none⟩ = some (.int .i64 r.torn)) (first | with_reducible exact hS0 | with_reducible exact hSx | with_reducible exact hSa | with_reducible exact hS5 | with_reducible exact hS5a | with_reducible exact hS5b | with_reducible exact hS5c)
          (first
            | (go_at_call 12; refine (HDO.out _ (Below.refl _ _).drew).mono ?_; rintro e w5 ⟨la5, ln5, lc5, rs5, wa5, wn5, wq5, ws5, armed5, down5, deeds5, b5, bn5, bc5, rfl, hbs5, hbt5, hD5, hb5⟩; have hb5' : Below wr.heap.size wr w5 := (Below.refl wr.heap.size wr).drew.trans hb5; have hbt5' : ∀ x, b5 = some x → 0 < bn5 → T x.block ∨ wr.heap.size ≤ x.block := hbt5; have hD5' : Doc (fun i => T i ∨ (wr.heap.size ≤ i ∧ i < w5.heap.size)) w5 (j + 1) (playS st r.act) la5 ln5 lc5 rs5 wa5 wn5 wq5 ws5 armed5 down5 deeds5 := hD5; have hS5 := HK.out _ hb5'; have hS5a := HK.out _ (hb5'.trans ((Below.refl wr.heap.size w5).alloc hb5'.size (.cells #[.int .i64 0, .slice none 0 0, .slice none 0 0, .int .i64 0, .bool false, .int .i64 0] 31))); have hS5b := HK.out _ (hb5'.trans ((Below.refl wr.heap.size w5).alloc hb5'.size (.cells #[.int .i64 (rm : Int), .slice la5 ln5 lc5, .slice wa5 wn5 wq5, .int .i64 armed5, .bool down5, .int .i64 deeds5] 31))); have hS5c := HK.out _ ((((((hb5'.setCell (p := ⟨wr.heap.size, 0, none⟩) (Nat.le_refl _) (.int .i64 (rm : Int))).setCell (p := ⟨wr.heap.size, 1, none⟩) (Nat.le_refl _) (.slice la5 ln5 lc5)).setCell (p := ⟨wr.heap.size, 2, none⟩) (Nat.le_refl _) (.slice wa5 wn5 wq5)).setCell (p := ⟨wr.heap.size, 3, none⟩) (Nat.le_refl _) (.int .i64 armed5)).setCell (p := ⟨wr.heap.size, 4, none⟩) (Nat.le_refl _) (.bool down5)).setCell (p := ⟨wr.heap.size, 5, none⟩) (Nat.le_refl _) (.int .i64 deeds5)); dsimp only)
            | (go_at_call 12; refine (HDO.out _ B0).mono ?_; rintro e w5 ⟨la5, ln5, lc5, rs5, wa5, wn5, wq5, ws5, armed5, down5, deeds5, b5, bn5, bc5, rfl, hbs5, hbt5, hD5, hb5⟩; have hb5' : Below wr.heap.size wr w5 := B0.trans (hb5.mono B0.size); have hS5 := HK.out _ hb5'; have hS5a := HK.out _ (hb5'.trans ((Below.refl wr.heap.size w5).alloc hb5'.size (.cells #[.int .i64 0, .slice none 0 0, .slice none 0 0, .int .i64 0, .bool false, .int .i64 0] 31))); have hS5b := HK.out _ (hb5'.trans ((Below.refl wr.heap.size w5).alloc hb5'.size (.cells #[.int .i64 (rm : Int), .slice la5 ln5 lc5, .slice wa5 wn5 wq5, .int .i64 armed5, .bool down5, .int .i64 deeds5] 31))); have hS5c := HK.out _ ((((((hb5'.setCell (p := ⟨wr.heap.size, 0, none⟩) (Nat.le_refl _) (.int .i64 (rm : Int))).setCell (p := ⟨wr.heap.size, 1, none⟩) (Nat.le_refl _) (.slice la5 ln5 lc5)).setCell (p := ⟨wr.heap.size, 2, none⟩) (Nat.le_refl _) (.slice wa5 wn5 wq5)).setCell (p := ⟨wr.heap.size, 3, none⟩) (Nat.le_refl _) (.int .i64 armed5)).setCell (p := ⟨wr.heap.size, 4, none⟩) (Nat.le_refl _) (.bool down5)).setCell (p := ⟨wr.heap.size, 5, none⟩) (Nat.le_refl _) (.int .i64 deeds5)); obtain ⟨q0, q1, q2, q3, q4, q5, qf⟩ := six_cells ((hb5.block wr.heap.size HZB.out.2).trans HZB.out.1); dsimp only))
        all_goals go_wp2_with fail
        all_goals go_meet
        all_goals first
          | with_reducible exact dob_one hbs5 hbt5' hD5' hb5'
          | with_reducible exact dob_two hTlt hbs5 hbt5 hD5 hb5 ((hb5.block wr.heap.size HZB.out.2).trans HZB.out.1)
      case rest =>
        obtain ⟨g, la2, ln2, lc2, rs2, wa2, wn2, wq2, ws2, armed2, down2, deeds2, b2, bn2, bc2, rfl, hg1, hg2, hgb, rfl, rfl, hbs, hbt, hD2, hb2⟩ := hcut
        obtain ⟨hinn, hDk, hgd, hbj, hbox, hE, _⟩ := HI.out
        have hsw := hb2.size
        obtain ⟨x0, x1, x2, x3, x4, x5, xf⟩ := six_cells hgb
        have hboxc := (hb2.block M hMlt).trans hbox
        obtain ⟨f0, f1, f2, f3, f4, f5, ff⟩ := six_cells hboxc
        -- the world behind the storing
        obtain ⟨w6, hw6⟩ : ∃ w6, put6 wc M (.int .i64 (rm : Int)) (.slice la2 ln2 lc2) (.slice wa2 wn2 wq2) (.int .i64 armed2) (.bool down2) (.int .i64 deeds2) = w6 := ⟨_, rfl⟩
        have hbox6 := six_block hboxc (.int .i64 (rm : Int)) (.slice la2 ln2 lc2) (.slice wa2 wn2 wq2) (.int .i64 armed2) (.bool down2) (.int .i64 deeds2)
        have hk6 := six_kp (Kp.refl (fun i => i = M) wc) rfl (.int .i64 (rm : Int)) (.slice la2 ln2 lc2) (.slice wa2 wn2 wq2) (.int .i64 armed2) (.bool down2) (.int .i64 deeds2)
        rw [hw6] at hbox6 hk6
        unfold put6 at hw6
        have hs6 := hk6.size
        obtain ⟨T2, hT2⟩ : ∃ T2 : Nat → Prop, T2 = fun i => T i ∨ (wr.heap.size ≤ i ∧ i < wc.heap.size) := ⟨_, rfl⟩
        rw [← hT2] at hD2
        have hT2M : ¬ T2 M := fun e => by
          rw [hT2] at e
          rcases e with e | e
          · exact hTM e
          · omega
        have hT2B : ∀ i, i < B → T2 i := fun i hi => by rw [hT2]; exact .inl (hTB i hi)
        have hT2lt : ∀ i, T2 i → i < wc.heap.size := fun i hi => by
          rw [hT2] at hi
          rcases hi with e | e
          · have := hTlt i e; omega
          · exact e.2
        have hD6 := hD2.kp hk6 (fun i hi e => hT2M (e ▸ hi))
        have hDkc : DkT (fun i => T2 i ∨ i = M) wc p st := hDk.grow (Kp.of_below hb2) (fun i hi => by
          rcases hi with e | e
          · exact hT2lt i e
          · omega) (fun i hi => by
          rcases hi with e | e
          · rw [hT2] at e
            rcases e with e | e
            · exact .inl (.inl e)
            · exact .inr e.1
          · exact .inl (.inr e))
        have hDk6 : DkT (fun i => T2 i ∨ i = M) w6 p st := hDkc.turn (hk6.mono (fun i _ e => .inr e)) (fun i hi => Nat.lt_of_lt_of_le (hDkc.1 i hi) hs6) (fun i hi => .inl hi)
        have hbs6 : Bs w6 b2 bn2 (playB st r.act) := bs_kp hbs hk6 (fun x hx hn e => by
          rcases hbt x hx hn with h | h
          · exact hTM (e ▸ h)
          · omega)
        have hbt6 : ∀ x, b2 = some x → 0 < bn2 → T2 x.block := fun x hx hn => by rw [hT2]; exact hbt x hx hn
        have hb6 : Below B w w6 := (hbj.trans (hb2.mono (by omega))).trans (hk6.below (by omega) (fun i e => by omega))
        have hinn6 := (hinn.below hb2 (Nat.le_refl _)).kp hk6 (fun x hx h0 e => hTM (e ▸ hrT x hx h0))
        have hbb6 : w6.heap[b]? = wr.heap[b]? := (hk6.block b (by omega) (by omega)).trans (hb2.block b (by omega))
        obtain ⟨d0, d1, d2, d3, d4, d5⟩ := HC.out
        have e0 := (World.cell?_of_block hbb6).trans d0
        have e1 := (World.cell?_of_block hbb6).trans d1
        have e2 := (World.cell?_of_block hbb6).trans d2
        have e3 := (World.cell?_of_block hbb6).trans d3
        have e4 := (World.cell?_of_block hbb6).trans d4
        have e5 := (World.cell?_of_block hbb6).trans d5
        have hfew := hD2.few
        have hdd : st.deeds ≤ 60 := by
          have := HI.out.2.2.2.2.2.2.few
          omega
        have hdo := do_t (fun i => T2 i ∨ i = M) p st r w6 hDk6 (by omega) hinn6 m4 m5 (by omega) (fun x hx h0 => .inl (by rw [hT2]; exact .inl (hrT x hx h0)))
        rw [← hE] at hdo
        have HG := Hid.mk' (And.intro hgd (And.intro hD6 (And.intro hbs6 (And.intro hbt6 (And.intro hb6 hbox6)))))
        have hsB6 := hb6.size
        clear HI HC HDO HK hinn hDk hgd hbj hbox hE hbs hbt hD2 hDkc hDk6 hbs6 hbt6 hb6 hinn6 d0 d1 d2 d3 d4 d5 hk6 hbox6 hboxc hD6 B0 HZB hS0 hSx hSa hbb6
        go_upto_region 14 with fail
        try rw [hw6]
        clear hw6 x0 x1 x2 x3 x4 x5 xf f0 f1 f2 f3 f4 f5 ff hgb
        go_wp2_with fail
        refine hdo.mono ?_
        rintro e w7 ⟨⟨sa, sn, sc⟩, rfl, hfl7, hD7, hk7⟩
        obtain ⟨hgd, hD6, hbs6, hbt6, hb6, hbox6⟩ := HG.out
        have hs7 := hk7.size
        have hM6 : M < w6.heap.size := by omega
        have hbox7 := (hk7.block M hM6 (fun e => e (.inr rfl))).trans hbox6
        have hD7d := hD6.kp hk7 (fun i hi e => e (.inl hi))
        have hbs7 := bs_kp hbs6 hk7 (fun x hx hn e => e (.inl (hbt6 x hx hn)))
        have hfb7 : Bs w7 sa sn (playB st r.act) := hfl7.bs
        have hlen : (playB st r.act).length ≤ 1073741824 := by
          have h5 := play_bytes st r.act
          have h6 := HRUN.out.1.fold.2.2
          have h7 := HRUN.out.2
          have h8 : foldF st.last st.waits = seenF st := rfl
          rw [h8] at h6
          omega
        have hb7 : Below B w w7 := hb6.trans (hk7.below (by omega) (fun i e => by
          rcases Nat.lt_or_ge i B with h | h
          · exact absurd (.inl (hT2B i h)) e
          · exact h))
        obtain ⟨st2, hst2⟩ : ∃ st2, playS st r.act = st2 := ⟨_, rfl⟩
        rw [hst2] at hD7 hD7d
        have hroom2 : st2.room = rm := by rw [← hst2, play_room]; exact hrm
        have hgd2 : Good st2 := by rw [← hst2]; exact good_play hgd _
        have htw := hD7d.twin
        have hfewd := hD7d.few
        have HS1 : Hid (Calls Try.prog 14 #[.slice b2 bn2 bc2, .slice sa sn sc] w7.drew fun e w'' => e = .returned (.bool true) ∧ ∃ m, w'' = w7.drewN m) := by
          have h5 := same_any b2 sa bn2 sn bc2 sc _ _ w7.drew hbs7 hfb7 (by have := hbs7.1; omega) (by have := hfb7.1; omega)
          rw [decide_eq_true rfl] at h5
          refine h5.mono ?_
          rintro e w'' ⟨rfl, m, rfl⟩
          exact ⟨rfl, 1 + m, drew_drewN _ _⟩
        obtain ⟨U, hU⟩ : ∃ U, (!st2.down) = U := ⟨_, rfl⟩
        have hUd : (U == down2) = false := by rw [← hU, htw.down_]; cases st2.down <;> rfl
        have hUd2 : decide (U = down2) = false := by rw [← hU, htw.down_]; cases st2.down <;> rfl
        have hbd : ∀ m, Below w7.heap.size w7 (w7.drewN m) := fun m => below_drewN (Below.refl _ _) m
        have HUP : Hid (∀ m, Calls Try.prog 15 #[.pointer (some ⟨p, 0, none⟩)] (w7.drewN m) fun e w'' => e = .returned (.bool U) ∧ w'' = w7.drewN m) := fun m => by
          have h5 := up_t _ p st2 _ (hD7.below (hbd m))
          rw [hU] at h5
          exact h5
        have HWT : Hid (∀ m, Calls Try.prog 16 #[.pointer (some ⟨p, 0, none⟩)] (w7.drewN m) fun e w'' => e = .returned (.int .i64 (wn2 : Int)) ∧ w'' = w7.drewN m) := fun m => by
          have h5 := waits_t _ p st2 _ (hD7.below (hbd m))
          rw [← htw.waits, List.length_map, List.length_map, ← hD7d.acts.1] at h5
          exact h5
        have HDS : Hid (∀ m, Calls Try.prog 17 #[.pointer (some ⟨p, 0, none⟩)] (w7.drewN m) fun e w'' => e = .returned (.int .i64 deeds2) ∧ w'' = w7.drewN m) := fun m => by
          have h5 := deeds_t _ p st2 _ (hD7.below (hbd m))
          rw [← htw.count] at h5
          exact h5
        have HSN : Hid (∀ m, Calls Try.prog 19 #[.agg #[.int .i64 (rm : Int), .slice la2 ln2 lc2, .slice wa2 wn2 wq2, .int .i64 armed2, .bool down2, .int .i64 deeds2]] (w7.drewN m) fun e w8 => ∃ a n c rs', e = .returned (.slice a n c) ∧ (Fs w8 a n c rs' ∧ rs'.map FRef.file = seenF st2 ∧ FIn (fun i => (T2 i ∨ i = M) ∨ (w7.heap.size ≤ i ∧ i < w8.heap.size)) a n rs') ∧ Below w7.heap.size w7 w8) := fun m => by
          have h5 := refSeen_any (rm : Int) la2 ln2 lc2 rs2 wa2 wn2 wq2 ws2 armed2 down2 deeds2 (w7.drewN m) (hD7d.fs.below (hbd m) (Nat.le_refl _)) (hD7d.acts.below (hbd m) (Nat.le_refl _)) (by rw [hD7d.files]; exact htw.run) (by omega)
          unfold refDisk at h5
          refine h5.mono ?_
          rintro e w8 ⟨a, n, c, rs', rfl, hf8, hm8, hb8, hfr8, hal8⟩
          refine ⟨a, n, c, rs', rfl, ⟨hf8, by rw [hm8, hD7d.files, htw.seen], hD7d.fin.from hfr8 hal8 hf8 (fun i hi => .inl (.inl hi)) (fun i h1 h2 => .inr ⟨h1, h2⟩)⟩, (hbd m).trans hb8⟩
        have HLW : Hid (∀ w8 a n c rs', (Fs w8 a n c rs' ∧ rs'.map FRef.file = seenF st2 ∧ FIn (fun i => (T2 i ∨ i = M) ∨ (w7.heap.size ≤ i ∧ i < w8.heap.size)) a n rs') → Below w7.heap.size w7 w8 → Calls Try.prog 18 #[.pointer (some ⟨p, 0, none⟩), .slice a n c] w8 fun e w9 => e = .returned (.bool true) ∧ DkT (fun i => T2 i ∨ i = M) w9 p st2 ∧ Kp (fun i => ¬ (T2 i ∨ i = M)) w7 w9) := fun w8 a n c rs' hh hb8 => by
          have hg8 : DkT (fun i => (T2 i ∨ i = M) ∨ (w7.heap.size ≤ i ∧ i < w8.heap.size)) w8 p st2 := hD7.grow (Kp.of_below hb8) (fun i hi => by
            rcases hi with e | e
            · exact Nat.lt_of_lt_of_le (hD7.1 i e) hb8.size
            · exact e.2) (fun i hi => by
            rcases hi with e | e
            · exact .inl e
            · exact .inr e.1)
          refine (lawSame_t _ p st2 a n c rs' w8 hg8 (by omega) hgd2 hh.1 hh.2.2 hh.2.1).mono ?_
          rintro e w9 ⟨rfl, h1, h2⟩
          have h3 : Kp (fun i => ¬ (T2 i ∨ i = M)) w7 w8 := Kp.of_below hb8
          have h4 := h3.trans h2 (fun i _ e h => e (.inl h))
          exact ⟨rfl, h1.more (fun i hi => Nat.lt_of_lt_of_le (hD7.1 i hi) h4.size) (fun i hi => .inl hi), h4⟩
        have HK7 : Hid (∀ w', Kp (fun i => ¬ (T2 i ∨ i = M)) w7 w' → w'.cell? ⟨M, 0, none⟩ = some (.int .i64 (rm : Int)) ∧ w'.cell? ⟨M, 1, none⟩ = some (.slice la2 ln2 lc2) ∧ w'.cell? ⟨M, 2, none⟩ = some (.slice wa2 wn2 wq2) ∧ w'.cell? ⟨M, 3, none⟩ = some (.int .i64 armed2) ∧ w'.cell? ⟨M, 4, none⟩ = some (.bool down2) ∧ w'.cell? ⟨M, 5, none⟩ = some (.int .i64 deeds2)) := fun w' hk => by
          obtain ⟨z0, z1, z2, z3, z4, z5, _⟩ := six_cells ((hk.block M (by omega) (fun e => e (.inr rfl))).trans hbox7)
          exact ⟨z0, z1, z2, z3, z4, z5⟩
        have hS0 := HK7.out w7.drew (Kp.refl _ _).drew
        have hSx := HK7.out w7 (Kp.refl _ _)
        have HEND : Hid (∀ w9, DkT (fun i => T2 i ∨ i = M) w9 p st2 → Kp (fun i => ¬ (T2 i ∨ i = M)) w7 w9 → Good st2 ∧ st2.room = rm ∧ DkT (fun i => T2 i ∨ i = M) w9 p st2 ∧ Doc T2 w9 (j + 1) st2 la2 ln2 lc2 rs2 wa2 wn2 wq2 ws2 armed2 down2 deeds2 ∧ w9.heap[M]? = some (.cells #[.int .i64 (rm : Int), .slice la2 ln2 lc2, .slice wa2 wn2 wq2, .int .i64 armed2, .bool down2, .int .i64 deeds2] 31 (0, 0)) ∧ Below B w w9) := fun w9 h1 hk => by
          refine ⟨hgd2, hroom2, h1, hD7d.kp hk (fun i hi e => e (.inl hi)), (hk.block M (by omega) (fun e => e (.inr rfl))).trans hbox7, hb7.trans (hk.below (by have := hb7.size; omega) (fun i e => ?_))⟩
          rcases Nat.lt_or_ge i B with h | h
          · exact absurd (.inl (hT2B i h)) e
          · exact h
        unfold Sl.val
        clear hdo HG hgd hD6 hbs6 hbt6 hb6 hbox6 hbox7 hD7d hbs7 hfb7 hfl7 hlen hb7 hD7 hk7 hgd2 htw hfewd hU hbd hst2 e0 e1 e2 e3 e4 e5 HRUN
        go_wp2_with fail
        go_region_held3 (fun w' => w'.cell? ⟨M, 0, none⟩ = some (.int .i64 (rm : Int)) ∧ w'.cell? ⟨M, 1, none⟩ = some (.slice la2 ln2 lc2) ∧ w'.cell? ⟨M, 2, none⟩ = some (.slice wa2 wn2 wq2) ∧ w'.cell? ⟨M, 3, none⟩ = some (.int .i64 armed2) ∧ w'.cell? ⟨M, 4, none⟩ = some (.bool down2) ∧ w'.cell? ⟨M, 5, none⟩ = some (.int .i64 deeds2)) (first | with_reducible exact hS0 | with_reducible exact hSx | with_reducible exact hS8 | with_reducible exact hS9 | with_reducible exact hS10)
          (first
            | (go_at_call 14; refine HS1.out.mono ?_; rintro e w8 ⟨rfl, m, rfl⟩; have hS8 := HK7.out (w7.drewN m) (Kp.of_below (below_drewN (Below.refl _ _) m)); dsimp only)
            | (go_at_call 15; refine (HUP.out _).mono ?_; rintro e w8 ⟨rfl, rfl⟩; dsimp only)
            | (go_at_call 16; refine (HWT.out _).mono ?_; rintro e w8 ⟨rfl, rfl⟩; dsimp only)
            | (go_at_call 17; refine (HDS.out _).mono ?_; rintro e w8 ⟨rfl, rfl⟩; dsimp only)
            | (go_at_call 19; refine (HSN.out _).mono ?_; rintro e w8 ⟨a8, n8, c8, rs8, rfl, hh8, hb8⟩; have hS9 := HK7.out w8 (Kp.of_below hb8); dsimp only)
            | (go_at_call 18; refine (HLW.out _ _ _ _ _ hh8 hb8).mono ?_; rintro e w9 ⟨rfl, hD9, hk9⟩; have hS10 := HK7.out w9 hk9; dsimp only))
        all_goals go_wp2
        all_goals go_roundw
        case rel =>
          obtain ⟨z1, z2, z3, z4, z5, z6⟩ := HEND.out w9 hD9 hk9
          exact ⟨T2, j + 1, st2, la2, ln2, lc2, rs2, wa2, wn2, wq2, ws2, armed2, down2, deeds2, by go_num, by omega, z2, z1, z3, z4, hT2M, hT2B, z5, z6⟩
        case measure => simp [intOf]; omega
    · obtain rfl : j = n0 := by omega
      clear hDoc hDk hgd hbox
      go_wp2
      go_ret
      exact ⟨rfl, hbj⟩
end Go.Proofs.Ytngkapddobgfaaa
