/-
  The walk of the law CrcIs, out of the contracts of what it calls.
-/
import Derived.Test.YtoleabndfajcbaaCrcLaw5
import Derived.Deep.RegionHeld3
namespace Go.Proofs.Ytoleabndfajcbaa
open Go.RowKit
set_option linter.unusedVariables false

theorem word_iff {L : List Int} (h4 : 4 ≤ L.length) (hL : ∀ z ∈ L, 0 ≤ z ∧ z ≤ 255) (n : Nat) (hn : n < 2 ^ 32) : L.take 4 = wbytes n ↔ bword L = n := by
  constructor
  · intro h
    rw [← bword_take L 4 (Nat.le_refl _), h, ← List.append_nil (wbytes n)]
    exact bword_wbytes hn []
  · intro h
    rw [← h, ← bword_take L 4 (Nat.le_refl _)]
    exact (wbytes_bword (by rw [List.length_take]; omega) (fun z hz => hL z (List.mem_of_mem_take hz))).symm

set_option maxRecDepth 100000 in
set_option maxHeartbeats 4000000 in
theorem crcIs_walk (a : Option Addr) (m ca : Nat) (xs : List Int) (b : Option Addr) (n cy : Nat) (ys : List Int) (w : World) (hna : a = none → m = 0 ∧ ca = 0) (ha : Bs w a m xs) (hnb : b = none → n = 0 ∧ cy = 0) (hb : Bs w b n ys) (hm : m ≤ maxLen) (hn : n ≤ maxLen) :
    Calls Try.prog 3 #[.slice a m ca, .slice b n cy] w fun e w' => e = .returned (.bool true) ∧ Below w.heap.size w w' := by
  unfold maxLen at hm hn
  by_cases h1 : 1000 < m
  · have t1 : decide ((1000 : Int) < (m : Int)) = true := by simp; omega
    go_enter Try.func3, Try.ntmps3
    go_wp2_with fail
    refine (crcAlive_any _).mono ?_
    rintro e w1 ⟨rfl, hb1⟩
    go_wp2
    go_ret
    exact ⟨rfl, hb1⟩
  have t1 : decide ((1000 : Int) < (m : Int)) = false := by simp; omega
  by_cases h2 : 1000 < n
  · have t2 : decide ((1000 : Int) < (n : Int)) = true := by simp; omega
    go_enter Try.func3, Try.ntmps3
    go_wp2_with fail
    refine (crcAlive_any _).mono ?_
    rintro e w1 ⟨rfl, hb1⟩
    go_wp2
    go_ret
    exact ⟨rfl, hb1⟩
  have t2 : decide ((1000 : Int) < (n : Int)) = false := by simp; omega
  have HXl : Hid (xs.length = m) := ha.1
  have HYl : Hid (ys.length = n) := hb.1
  go_enter Try.func3, Try.ntmps3
  go_wp2_with fail
  refine (crcAlive_any _).mono ?_
  rintro e w1 ⟨rfl, hb1⟩
  have ho1 := own_new w1 w.heap.size hb1.size [] (by simp) (by simp)
  have hb2 : Below w.heap.size w (w1.alloc (.cells (cb []).toArray 5)) := hb1.alloc hb1.size _
  have bsa := ha.below hb2 (Nat.le_refl _)
  go_wp2_with (at_builtin; refine wpList_append_bytes _ rfl _ _ rfl w.heap.size Try.underlying22 info_byte _ [] rfl ho1 a m ca xs rfl hna bsa ?d1 hb2.size ?_)
  case d1 => simp; omega
  intro v2 w2 ho2 hg2
  have hb3 : Below w.heap.size w w2 := hb2.trans (Below.of_grown ho1 hg2 hb2.size)
  clear hg2 ho1 bsa hb1 hb2
  have bsb := hb.below hb3 (Nat.le_refl _)
  go_wp2_with (at_builtin; refine wpList_append_bytes _ rfl _ _ rfl w.heap.size Try.underlying22 info_byte _ xs rfl ho2 b n cy ys rfl hnb bsb ?d2 hb3.size ?_)
  case d2 => rw [HXl.out]; omega
  intro v3 w3 ho3 hg3
  have hb4 : Below w.heap.size w w3 := hb3.trans (Below.of_grown ho2 hg3 hb3.size)
  clear hg3 ho2 bsb hb3
  have bsa := ha.below hb4 (Nat.le_refl _)
  have bsb := hb.below hb4 (Nat.le_refl _)
  obtain ⟨L, hL⟩ : ∃ L, L = xs ++ ys := ⟨_, rfl⟩
  obtain ⟨K, hK⟩ : ∃ K, K = L.length := ⟨_, rfl⟩
  have hKe : K = m + n := by rw [hK, hL, List.length_append, HXl.out, HYl.out]
  rw [← hL] at ho3
  obtain ⟨a3, c3, rfl, hc3, hn3, bs3⟩ := ho3.slice
  have hwf3 := ho3.2
  rw [← hK] at hc3 hn3 bs3 ho3 ⊢
  have HL : Hid (L = xs ++ ys) := hL
  have HK : Hid (K = L.length) := hK
  have HKe : Hid (K = m + n) := hKe
  have hK2 : K ≤ 2000 := by omega
  have HTl : Hid (crcOf L < 2 ^ 32) := crcOf_lt hwf3
  clear hL hK hKe
  go_wp2_with fail
  refine (put_any a3 K c3 L w3 hn3 bs3 (by omega)).mono ?_
  rintro e w4 ⟨v4, rfl, ho4, hb5⟩
  have hbw4 : Below w.heap.size w w4 := hb4.trans (hb5.mono hb4.size)
  have bs4 := bs3.below hb5 (Nat.le_refl _)
  obtain ⟨T, hT⟩ : ∃ T, T = wbytes (crcOf L) ++ L := ⟨_, rfl⟩
  have hTl : T.length = 4 + K := by rw [hT, List.length_append, HK.out]; rfl
  have hTd : T.drop 4 = L := by rw [hT]; rfl
  have hTw : bword T = crcOf L := by rw [hT]; exact bword_wbytes HTl.out L
  rw [← hT] at ho4
  have HT : Hid (T = wbytes (crcOf L) ++ L) := hT
  obtain ⟨a4, c4, rfl, hc4, hn4, bt4⟩ := ho4.slice
  rw [hTl] at hc4 hn4 bt4 ⊢
  have HTl' : Hid (T.length = 4 + K) := hTl
  have HTd : Hid (T.drop 4 = L ∧ bword T = crcOf L) := ⟨hTd, hTw⟩
  clear hT hTl hTd hTw ho4 hb4 ho3 bs3
  go_wp2_with fail
  refine (get_ok a4 (4 + K) c4 T w4 bt4 (by omega) hc4 (by omega) (by rw [HTd.out.1, HTd.out.2])).mono ?_
  rintro e w5 ⟨v5, rfl, ho5, hb6⟩
  rw [HTd.out.1] at ho5
  have hbw5 : Below w.heap.size w w5 := hbw4.trans (hb6.mono hbw4.size)
  have bs5 := bs4.below hb6 (Nat.le_refl _)
  have bt5 := bt4.below hb6 (Nat.le_refl _)
  obtain ⟨a5, c5, rfl, hc5, hn5, bx5⟩ := ho5.slice
  rw [← HK.out] at hc5 hn5 bx5 ⊢
  clear hb6 bs4 bt4 ho5 hbw4 hb5 bsa bsb
  by_cases hK4 : K < 4
  · have tk : decide ((4 : Int) ≤ (K : Int)) = false := by simp; omega
    go_wp2_with fail
    refine (get_end a3 K c3 _ hK4).mono ?_
    rintro e w6 ⟨rfl, rfl⟩
    have bsa := ha.below hbw5 (Nat.le_refl _)
    have bsb := hb.below hbw5 (Nat.le_refl _)
    go_wp2_with fail
    refine (of_any a3 K c3 L _ bs5 (by omega)).mono ?_
    rintro e w7 ⟨rfl, rfl⟩
    go_wp2_with fail
    refine (refOf_any a3 K c3 L _ bs5 (by omega)).mono ?_
    rintro e w7 ⟨rfl, rfl⟩
    go_wp2_with fail
    refine (of_any a m ca xs _ bsa (by omega)).mono ?_
    rintro e w7 ⟨rfl, rfl⟩
    go_wp2_with fail
    refine (more_any (crcOf xs) (crcOf_lt ha.2.1) b n cy ys _ bsb (by omega)).mono ?_
    rintro e w7 ⟨rfl, rfl⟩
    rw [show cmore (crcOf xs) ys = crcOf L from by rw [HL.out]; exact cmore_append 0 xs ys]
    go_wp2_with fail
    refine (refOf_any a3 K c3 L _ bs5 (by omega)).mono ?_
    rintro e w7 ⟨rfl, rfl⟩
    go_wp2_with fail
    refine (refOf_any a3 K c3 L _ bs5 (by omega)).mono ?_
    rintro e w7 ⟨rfl, rfl⟩
    go_wp2_with fail
    refine (refWord_any (crcOf L) HTl.out _).mono ?_
    rintro e w8 ⟨v8, rfl, ho8, hb8⟩
    have bs8 := bs5.below hb8 (Nat.le_refl _)
    obtain ⟨V, hV⟩ : ∃ V, V = wbytes (crcOf L) := ⟨_, rfl⟩
    have hVl : V.length = 4 := by rw [hV]; rfl
    rw [← hV] at ho8
    have HV : Hid (V = wbytes (crcOf L)) := hV
    clear hV
    go_wp2_with (at_builtin; refine wpList_append_bytes _ rfl _ _ rfl _ Try.underlying22 info_byte _ V rfl ho8 a3 K c3 L rfl hn3 bs8 ?z1 hb8.size ?_)
    case z1 => omega
    intro v9 w9 ho9 hg9
    have hb9 := hb8.trans (Below.of_grown ho8 hg9 hb8.size)
    rw [HV.out, ← HT.out] at ho9
    obtain ⟨a9, c9, rfl, hc9, hn9, bs9⟩ := ho9.slice
    rw [HTl'.out] at hc9 hn9 bs9 ⊢
    have bt9 := bt5.below hb9 (Nat.le_refl _)
    have bx9 := bx5.below hb9 (Nat.le_refl _)
    have bl9 := bs5.below hb9 (Nat.le_refl _)
    have hbw9 := hbw5.trans (hb9.mono hbw5.size)
    clear hg9 ho9 ho8 bs8 hb8 hb9 bs5 bt5 bx5 hVl bsa bsb
    go_wp2_with fail
    refine (same_below a4 a9 (4 + K) (4 + K) c4 c9 T T w9 bt9 bs9 (by omega) (by omega)).mono ?_
    rintro e w10 ⟨rfl, hb10⟩
    rw [decide_eq_true (rfl : T = T)]
    have bx10 := bx9.below hb10 (Nat.le_refl _)
    have bl10 := bl9.below hb10 (Nat.le_refl _)
    have hbw10 := hbw9.trans (hb10.mono hbw9.size)
    clear bx9 bl9 bt9 bs9 hb10
    go_wp2_with fail
    refine (same_below a5 a3 K K c5 c3 L L w10 bx10 bl10 (by omega) (by omega)).mono ?_
    rintro e w11 ⟨rfl, hb11⟩
    rw [decide_eq_true (rfl : L = L)]
    go_wp2
    go_ret
    exact ⟨rfl, hbw10.trans (hb11.mono hbw10.size)⟩
  have tk : decide ((4 : Int) ≤ (K : Int)) = true := by simp; omega
  have HTD : Hid (crcOf (L.drop 4) < 2 ^ 32) := crcOf_lt fun z hz => hwf3 z (List.mem_of_mem_drop hz)
  have hiff := word_iff (L := L) (by rw [← HK.out]; omega) hwf3 (crcOf (L.drop 4)) HTD.out
  by_cases hcase : bword L = crcOf (L.drop 4)
  · have HD : Hid (decide (L.take 4 = wbytes (crcOf (L.drop 4))) = true) := decide_eq_true (hiff.2 hcase)
    clear hiff
    go_wp2_with fail
    refine (get_ok a3 K c3 L _ bs5 (by omega) hc3 (by omega) hcase).mono ?_
    rintro e w6 ⟨v6, rfl, ho6, hb6⟩
    clear ho6
    replace bs5 := bs5.below hb6 (Nat.le_refl _)
    replace bt5 := bt5.below hb6 (Nat.le_refl _)
    replace bx5 := bx5.below hb6 (Nat.le_refl _)
    replace hbw5 := hbw5.trans (hb6.mono hbw5.size)
    clear hb6 hcase
    obtain ⟨w7, hw7⟩ : ∃ w7 : World, w7 = w6 := ⟨_, rfl⟩
    rw [← hw7] at bs5 bt5 bx5 hbw5 ⊢
    clear hw7
    have k0 : (4 : Int) ≤ (c3 : Int) := by omega
    have k1 : (4 : Int) ≤ (K : Int) := by omega
    have k2 : (K : Int) ≤ (c3 : Int) := by omega
    have hS0 : Below w7.heap.size w7 w7.drew := (Below.refl _ _).drew
    go_wp2_with fail
    go_region_held3 (fun w' => Below w7.heap.size w7 w') (first | exact hS0 | exact hS1 | exact hS2)
      (first
        | (go_at_call 13; refine (refOf_any _ _ _ (L.drop 4) _ ((bs5.below hS0 (Nat.le_refl _)).cut (by omega) (by omega)) (by omega)).mono ?_; rintro e w8 ⟨rfl, rfl⟩; dsimp only)
        | (go_at_call 12; refine (refWord_any (crcOf (L.drop 4)) HTD.out _).mono ?_; rintro e w8 ⟨v8, rfl, ho8, hb8⟩; have hS1 : Below w7.heap.size w7 w8 := hS0.trans hb8; obtain ⟨a8, c8, rfl, hc8, hn8, bs8⟩ := ho8.slice; dsimp only)
        | (go_at_call 11; refine (same_below a3 a8 4 (wbytes (crcOf (L.drop 4))).length c3 c8 (L.take 4) (wbytes (crcOf (L.drop 4))) w8 ((bs5.below hS1 (Nat.le_refl _)).take (by omega)) bs8 (by omega) (by simp [wbytes])).mono ?_; rintro e w9 ⟨rfl, hb9⟩; rw [HD.out]; have hS2 : Below w7.heap.size w7 w9 := hS1.trans (hb9.mono hS1.size); dsimp only))
    replace bs5 := bs5.below hS2 (Nat.le_refl _)
    replace bt5 := bt5.below hS2 (Nat.le_refl _)
    replace bx5 := bx5.below hS2 (Nat.le_refl _)
    replace hbw5 := hbw5.trans (hS2.mono hbw5.size)
    clear hS0 hS1 hS2 hb9 hb8 ho8 bs8 hc8 hn8
    generalize (if c3 = 4 then a3 else _) = A'
    generalize (wbytes (crcOf (List.drop 4 L))).length = N'
    generalize ((crcOf (List.drop 4 L) : Nat) : Int) = C'
    have bsa := ha.below hbw5 (Nat.le_refl _)
    have bsb := hb.below hbw5 (Nat.le_refl _)
    go_wp2_with fail
    refine (of_any a3 K c3 L _ bs5 (by omega)).mono ?_
    rintro e w7 ⟨rfl, rfl⟩
    go_wp2_with fail
    refine (refOf_any a3 K c3 L _ bs5 (by omega)).mono ?_
    rintro e w7 ⟨rfl, rfl⟩
    go_wp2_with fail
    refine (of_any a m ca xs _ bsa (by omega)).mono ?_
    rintro e w7 ⟨rfl, rfl⟩
    go_wp2_with fail
    refine (more_any (crcOf xs) (crcOf_lt ha.2.1) b n cy ys _ bsb (by omega)).mono ?_
    rintro e w7 ⟨rfl, rfl⟩
    rw [show cmore (crcOf xs) ys = crcOf L from by rw [HL.out]; exact cmore_append 0 xs ys]
    go_wp2_with fail
    refine (refOf_any a3 K c3 L _ bs5 (by omega)).mono ?_
    rintro e w7 ⟨rfl, rfl⟩
    go_wp2_with fail
    refine (refOf_any a3 K c3 L _ bs5 (by omega)).mono ?_
    rintro e w7 ⟨rfl, rfl⟩
    go_wp2_with fail
    refine (refWord_any (crcOf L) HTl.out _).mono ?_
    rintro e w8 ⟨v8, rfl, ho8, hb8⟩
    have bs8 := bs5.below hb8 (Nat.le_refl _)
    obtain ⟨V, hV⟩ : ∃ V, V = wbytes (crcOf L) := ⟨_, rfl⟩
    have hVl : V.length = 4 := by rw [hV]; rfl
    rw [← hV] at ho8
    have HV : Hid (V = wbytes (crcOf L)) := hV
    clear hV
    go_wp2_with (at_builtin; refine wpList_append_bytes _ rfl _ _ rfl _ Try.underlying22 info_byte _ V rfl ho8 a3 K c3 L rfl hn3 bs8 ?z1 hb8.size ?_)
    case z1 => omega
    intro v9 w9 ho9 hg9
    have hb9 := hb8.trans (Below.of_grown ho8 hg9 hb8.size)
    rw [HV.out, ← HT.out] at ho9
    obtain ⟨a9, c9, rfl, hc9, hn9, bs9⟩ := ho9.slice
    rw [HTl'.out] at hc9 hn9 bs9 ⊢
    have bt9 := bt5.below hb9 (Nat.le_refl _)
    have bx9 := bx5.below hb9 (Nat.le_refl _)
    have bl9 := bs5.below hb9 (Nat.le_refl _)
    have hbw9 := hbw5.trans (hb9.mono hbw5.size)
    clear hg9 ho9 ho8 bs8 hb8 hb9 bs5 bt5 bx5 hVl bsa bsb
    go_wp2_with fail
    refine (same_below a4 a9 (4 + K) (4 + K) c4 c9 T T w9 bt9 bs9 (by omega) (by omega)).mono ?_
    rintro e w10 ⟨rfl, hb10⟩
    rw [decide_eq_true (rfl : T = T)]
    have bx10 := bx9.below hb10 (Nat.le_refl _)
    have bl10 := bl9.below hb10 (Nat.le_refl _)
    have hbw10 := hbw9.trans (hb10.mono hbw9.size)
    clear bx9 bl9 bt9 bs9 hb10
    go_wp2_with fail
    refine (same_below a5 a3 K K c5 c3 L L w10 bx10 bl10 (by omega) (by omega)).mono ?_
    rintro e w11 ⟨rfl, hb11⟩
    rw [decide_eq_true (rfl : L = L)]
    go_wp2
    go_ret
    exact ⟨rfl, hbw10.trans (hb11.mono hbw10.size)⟩
  · have HD : Hid (decide (L.take 4 = wbytes (crcOf (L.drop 4))) = false) := decide_eq_false (fun h => hcase (hiff.1 h))
    clear hiff
    go_wp2_with fail
    refine (get_sum a3 K c3 L _ bs5 (by omega) hc3 (by omega) hcase).mono ?_
    rintro e w6 ⟨rfl, nq, rfl⟩
    replace bs5 := bs5.drewN nq
    replace bt5 := bt5.drewN nq
    replace bx5 := bx5.drewN nq
    replace hbw5 := below_drewN hbw5 nq
    clear hcase
    obtain ⟨w7, hw7⟩ : ∃ w7 : World, w7 = w5.drewN nq := ⟨_, rfl⟩
    rw [← hw7] at bs5 bt5 bx5 hbw5 ⊢
    clear hw7
    have k0 : (4 : Int) ≤ (c3 : Int) := by omega
    have k1 : (4 : Int) ≤ (K : Int) := by omega
    have k2 : (K : Int) ≤ (c3 : Int) := by omega
    have hS0 : Below w7.heap.size w7 w7.drew := (Below.refl _ _).drew
    go_wp2_with fail
    go_region_held3 (fun w' => Below w7.heap.size w7 w') (first | exact hS0 | exact hS1 | exact hS2)
      (first
        | (go_at_call 13; refine (refOf_any _ _ _ (L.drop 4) _ ((bs5.below hS0 (Nat.le_refl _)).cut (by omega) (by omega)) (by omega)).mono ?_; rintro e w8 ⟨rfl, rfl⟩; dsimp only)
        | (go_at_call 12; refine (refWord_any (crcOf (L.drop 4)) HTD.out _).mono ?_; rintro e w8 ⟨v8, rfl, ho8, hb8⟩; have hS1 : Below w7.heap.size w7 w8 := hS0.trans hb8; obtain ⟨a8, c8, rfl, hc8, hn8, bs8⟩ := ho8.slice; dsimp only)
        | (go_at_call 11; refine (same_below a3 a8 4 (wbytes (crcOf (L.drop 4))).length c3 c8 (L.take 4) (wbytes (crcOf (L.drop 4))) w8 ((bs5.below hS1 (Nat.le_refl _)).take (by omega)) bs8 (by omega) (by simp [wbytes])).mono ?_; rintro e w9 ⟨rfl, hb9⟩; rw [HD.out]; have hS2 : Below w7.heap.size w7 w9 := hS1.trans (hb9.mono hS1.size); dsimp only))
    replace bs5 := bs5.below hS2 (Nat.le_refl _)
    replace bt5 := bt5.below hS2 (Nat.le_refl _)
    replace bx5 := bx5.below hS2 (Nat.le_refl _)
    replace hbw5 := hbw5.trans (hS2.mono hbw5.size)
    clear hS0 hS1 hS2 hb9 hb8 ho8 bs8 hc8 hn8
    generalize (if c3 = 4 then a3 else _) = A'
    generalize (wbytes (crcOf (List.drop 4 L))).length = N'
    generalize ((crcOf (List.drop 4 L) : Nat) : Int) = C'
    have bsa := ha.below hbw5 (Nat.le_refl _)
    have bsb := hb.below hbw5 (Nat.le_refl _)
    go_wp2_with fail
    refine (of_any a3 K c3 L _ bs5 (by omega)).mono ?_
    rintro e w7 ⟨rfl, rfl⟩
    go_wp2_with fail
    refine (refOf_any a3 K c3 L _ bs5 (by omega)).mono ?_
    rintro e w7 ⟨rfl, rfl⟩
    go_wp2_with fail
    refine (of_any a m ca xs _ bsa (by omega)).mono ?_
    rintro e w7 ⟨rfl, rfl⟩
    go_wp2_with fail
    refine (more_any (crcOf xs) (crcOf_lt ha.2.1) b n cy ys _ bsb (by omega)).mono ?_
    rintro e w7 ⟨rfl, rfl⟩
    rw [show cmore (crcOf xs) ys = crcOf L from by rw [HL.out]; exact cmore_append 0 xs ys]
    go_wp2_with fail
    refine (refOf_any a3 K c3 L _ bs5 (by omega)).mono ?_
    rintro e w7 ⟨rfl, rfl⟩
    go_wp2_with fail
    refine (refOf_any a3 K c3 L _ bs5 (by omega)).mono ?_
    rintro e w7 ⟨rfl, rfl⟩
    go_wp2_with fail
    refine (refWord_any (crcOf L) HTl.out _).mono ?_
    rintro e w8 ⟨v8, rfl, ho8, hb8⟩
    have bs8 := bs5.below hb8 (Nat.le_refl _)
    obtain ⟨V, hV⟩ : ∃ V, V = wbytes (crcOf L) := ⟨_, rfl⟩
    have hVl : V.length = 4 := by rw [hV]; rfl
    rw [← hV] at ho8
    have HV : Hid (V = wbytes (crcOf L)) := hV
    clear hV
    go_wp2_with (at_builtin; refine wpList_append_bytes _ rfl _ _ rfl _ Try.underlying22 info_byte _ V rfl ho8 a3 K c3 L rfl hn3 bs8 ?z1 hb8.size ?_)
    case z1 => omega
    intro v9 w9 ho9 hg9
    have hb9 := hb8.trans (Below.of_grown ho8 hg9 hb8.size)
    rw [HV.out, ← HT.out] at ho9
    obtain ⟨a9, c9, rfl, hc9, hn9, bs9⟩ := ho9.slice
    rw [HTl'.out] at hc9 hn9 bs9 ⊢
    have bt9 := bt5.below hb9 (Nat.le_refl _)
    have bx9 := bx5.below hb9 (Nat.le_refl _)
    have bl9 := bs5.below hb9 (Nat.le_refl _)
    have hbw9 := hbw5.trans (hb9.mono hbw5.size)
    clear hg9 ho9 ho8 bs8 hb8 hb9 bs5 bt5 bx5 hVl bsa bsb
    go_wp2_with fail
    refine (same_below a4 a9 (4 + K) (4 + K) c4 c9 T T w9 bt9 bs9 (by omega) (by omega)).mono ?_
    rintro e w10 ⟨rfl, hb10⟩
    rw [decide_eq_true (rfl : T = T)]
    have bx10 := bx9.below hb10 (Nat.le_refl _)
    have bl10 := bl9.below hb10 (Nat.le_refl _)
    have hbw10 := hbw9.trans (hb10.mono hbw9.size)
    clear bx9 bl9 bt9 bs9 hb10
    go_wp2_with fail
    refine (same_below a5 a3 K K c5 c3 L L w10 bx10 bl10 (by omega) (by omega)).mono ?_
    rintro e w11 ⟨rfl, hb11⟩
    rw [decide_eq_true (rfl : L = L)]
    go_wp2
    go_ret
    exact ⟨rfl, hbw10.trans (hb11.mono hbw10.size)⟩
end Go.Proofs.Ytoleabndfajcbaa
