/-
  The walk of the law CrcPuts, out of the contracts of what it calls.
-/
import Derived.Test.YtoleabndfajcbaaCrcAlive
import Derived.Test.YtoleabndfajcbaaLawRows
import Derived.OneCell
namespace Go.Proofs.Ytoleabndfajcbaa
open Go.RowKit
set_option linter.unusedVariables false

theorem xor_pow_lt (X r : Nat) (hX : X < 256) (hr : r < 8) : X ^^^ 2 ^ r < 256 :=
  Nat.xor_lt_two_pow (n := 8) (by omega) (Nat.pow_lt_pow_right (by omega) hr)
theorem bits_turn (X r : Nat) (hX : X < 256) (hr : r < 8) : bits .xor .u8 (X : Int) (2 ^ r % 256) = ((X ^^^ 2 ^ r : Nat) : Int) := by
  have h1 : 2 ^ r < 256 := Nat.pow_lt_pow_right (a := 2) (m := r) (n := 8) (by omega) hr
  have e : (2 : Int) ^ r % 256 = ((2 ^ r : Nat) : Int) := by
    have e1 : ((2 ^ r : Nat) : Int) = (2 : Int) ^ r := by simp
    rw [← e1]; exact Int.emod_eq_of_lt (Int.natCast_nonneg _) (by omega)
  rw [e, u8_xor_nat _ _ hX h1]

/-- Another byte among the first four: another word. -/
theorem bword_turned (T : List Int) (j r : Nat) (hj : j < 4) (hl : 4 ≤ T.length) (hT : ∀ z ∈ T, 0 ≤ z ∧ z ≤ 255) (X : Nat) (hX : (X : Int) = T.getD j 0) (hX2 : X < 256) (hr : r < 8) : bword (T.set j ((X ^^^ 2 ^ r : Nat) : Int)) ≠ bword T := by
  intro e
  have hlt := xor_pow_lt X r hX2 hr
  rw [← bword_take (T.set j _) 4 (Nat.le_refl _), ← bword_take T 4 (Nat.le_refl _)] at e
  have e2 := bword_inj (by rw [List.length_take, List.length_set]; omega) (by rw [List.length_take]; omega) (fun z hz => by
    rcases List.mem_or_eq_of_mem_set (List.mem_of_mem_take hz) with h | rfl
    · exact hT z h
    · omega) (fun z hz => hT z (List.mem_of_mem_take hz)) e
  have e3 := congrArg (fun l => l.getD j 0) e2
  have hjl : j < T.length := by omega
  simp [List.getD_eq_getElem?_getD, hj, hjl] at e3
  simp [hjl] at hX
  rw [← hX] at e3
  have e4 : X ^^^ 2 ^ r = X := by
    have := e3
    omega
  have e5 : 2 ^ r = 0 := by
    have h : X ^^^ (X ^^^ 2 ^ r) = X ^^^ X := by rw [e4]
    rw [xor_twice, Nat.xor_self] at h
    exact h
  have := Nat.one_le_two_pow (n := r)
  omega

set_option maxRecDepth 100000 in
set_option maxHeartbeats 1000000 in
theorem crcPuts_walk (a : Option Addr) (m cap : Nat) (zs : List Int) (bit : Nat) (w : World) (hnil : a = none → m = 0 ∧ cap = 0) (hb : Bs w a m zs) (hbit : bit < 256) (hmm : m ≤ maxLen) :
    Calls Try.prog 7 #[.slice a m cap, .int .u8 (bit : Int)] w fun e w' => e = .returned (.bool true) ∧ Below w.heap.size w w' := by
  unfold maxLen at hmm
  by_cases h2 : 1000 < m
  · have t2 : decide ((1000 : Int) < (m : Int)) = true := by simp; omega
    go_enter Try.func7, Try.ntmps7
    go_wp2_with fail
    refine (crcAlive_any _).mono ?_
    rintro e w1 ⟨rfl, hb1⟩
    go_wp2
    go_ret
    exact ⟨rfl, hb1⟩
  have t2 : decide ((1000 : Int) < (m : Int)) = false := by simp; omega
  go_enter Try.func7, Try.ntmps7
  go_wp2_with fail
  refine (crcAlive_any _).mono ?_
  rintro e w1 ⟨rfl, hb1⟩
  have bs1 := hb.below hb1 (Nat.le_refl _)
  go_wp2_with fail
  refine (put_any a m cap zs w1 hnil bs1 (by omega)).mono ?_
  rintro e w2 ⟨v2, rfl, ho2, hb2⟩
  have hbw : Below w.heap.size w w2 := hb1.trans (hb2.mono hb1.size)
  have ho2' := ho2.mono hb1.size
  obtain ⟨T, hT⟩ : ∃ T, T = wbytes (crcOf zs) ++ zs := ⟨_, rfl⟩
  rw [← hT] at ho2'
  have hTl : T.length = 4 + m := by rw [hT, List.length_append, hb.1]; rfl
  have hTd : T.drop 4 = zs := by rw [hT]; rfl
  have hTw : bword T = crcOf zs := by rw [hT]; exact bword_wbytes (crcOf_lt hb.2.1) zs
  clear ho2 hb1 hb2 bs1
  obtain ⟨g, c2, rfl, hc2, hg1, hg2⟩ := ho2'.block (by omega)
  rw [hTl] at ho2' hc2
  have bs2 : Bs w2 (some ⟨g, 0, none⟩) (4 + m) T := ho2'.bs hTl.symm
  rw [hTl]
  go_wp2_with fail
  refine (get_ok _ (4 + m) c2 T w2 bs2 (by omega) hc2 (by omega) (by rw [hTw, hTd])).mono ?_
  rintro e w3 ⟨v3, rfl, ho3, hb3⟩
  rw [hTd] at ho3
  have hbw3 := hbw.trans (hb3.mono hbw.size)
  have ho2'' := ho2'.below hb3 (Nat.le_refl _)
  have hg3 : g < w3.heap.size := Nat.lt_of_lt_of_le hg2 hb3.size
  clear hbw hb3 ho2' bs2
  obtain ⟨q1, q2, q3⟩ := ho2''.at hTl.symm (bit % 32 / 8) (by omega)
  obtain ⟨hX0, hX1⟩ := getD_wf ho2''.2 (bit % 32 / 8)
  obtain ⟨X, hX⟩ : ∃ X : Nat, (X : Int) = T.getD (bit % 32 / 8) 0 := ⟨(T.getD (bit % 32 / 8) 0).toNat, by omega⟩
  rw [← hX] at q1 hX0 hX1
  have hX256 : X < 256 := by omega
  have HX : Hid ((X : Int) = T.getD (bit % 32 / 8) 0) := hX
  have HT : Hid (T.length = 4 + m ∧ T.drop 4 = zs ∧ bword T = crcOf zs) := ⟨hTl, hTd, hTw⟩
  clear hX hTl hTd hTw hT hX0 hX1
  go_wp2_with fail
  rw [bits_turn X (bit % 8) hX256 (by omega)]
  have hZ := xor_pow_lt X (bit % 8) hX256 (by omega)
  obtain ⟨Z, hZe⟩ : ∃ Z, Z = X ^^^ 2 ^ (bit % 8) := ⟨_, rfl⟩
  have hne : bword (T.set (bit % 32 / 8) (Z : Int)) ≠ crcOf ((T.set (bit % 32 / 8) (Z : Int)).drop 4) := by
    rw [List.drop_set_of_lt (by omega), HT.out.2.1, ← HT.out.2.2, hZe]
    exact bword_turned T (bit % 32 / 8) (bit % 8) (by omega) (by rw [HT.out.1]; omega) ho2''.2 X HX.out hX256 (by omega)
  rw [← hZe] at hZ ⊢
  have ho4 := q3 (Z : Int) (by omega)
  have ho3' := ho3.setCell_other (a := ⟨g, bit % 32 / 8, none⟩) (ho3.apart hg2) (.int .u8 (Z : Int))
  have hbw4 := hbw3.setCell (p := ⟨g, bit % 32 / 8, none⟩) hg1 (.int .u8 (Z : Int))
  obtain ⟨w4, hw4⟩ : ∃ w4, w4 = w3.setCell ⟨g, bit % 32 / 8, none⟩ (.int .u8 (Z : Int)) := ⟨_, rfl⟩
  obtain ⟨T', hT'⟩ : ∃ T', T' = T.set (bit % 32 / 8) (Z : Int) := ⟨_, rfl⟩
  rw [← hw4] at ho4 ho3' hbw4 ⊢
  rw [← hT'] at ho4 hne
  have bs4 : Bs w4 (some ⟨g, 0, none⟩) (4 + m) T' := ho4.bs (by rw [hT', List.length_set, HT.out.1])
  clear hw4 hT' hZe q1 q2 q3 ho2'' ho3 hbw3 ho4
  refine (get_sum _ (4 + m) c2 T' w4 bs4 (by omega) hc2 (by omega) hne).mono ?_
  rintro e w5 ⟨rfl, nq, rfl⟩
  go_wp2_with fail
  refine (get_end _ (bit % 4) c2 _ (by omega)).mono ?_
  rintro e w6 ⟨rfl, rfl⟩
  have hbw6 : Below w.heap.size w (w4.drewN nq) := below_drewN hbw4 nq
  have bs6 := hb.below hbw6 (Nat.le_refl _)
  obtain ⟨a3, c3, rfl, hc3, hn3, bs3⟩ := (ho3'.drewN nq).slice
  have hzl := hb.1
  rw [hzl] at hc3 hn3 bs3 ⊢
  have HZ : Hid (zs.length = m) := hzl
  clear hzl ho3' hbw4 bs4 hne
  go_wp2_with fail
  refine (same_below a3 a m m c3 cap zs zs _ bs3 bs6 (by omega) (by omega)).mono ?_
  rintro e w7 ⟨rfl, hb7⟩
  rw [decide_eq_true (rfl : zs = zs)]
  have hadd : (4 + (m : Int) == (m : Int) + 4) = true := by simp; omega
  go_wp2
  go_ret
  exact ⟨rfl, hbw6.trans (hb7.mono hbw6.size)⟩
end Go.Proofs.Ytoleabndfajcbaa
