/-
  The walk of the law CodeBack, out of the contracts of what it calls.
-/
import Derived.Test.YtaajmhajeecciaaCodeBackMath
import Derived.Test.YtaajmhajeecciaaCodeLaw1
namespace Go.Proofs.Ytaajmhajeecciaa
open Go.RowKit
set_option linter.unusedVariables false

theorem str_sb (s : ByteArray) : strOfNums (sb s) = s := by
  unfold strOfNums sb
  rw [List.map_map]
  have : (s.data.toList.map ((fun n : Int => UInt8.ofNat n.toNat) ∘ fun c : UInt8 => (c.toNat : Int))) = s.data.toList := by
    conv => rhs; rw [← List.map_id s.data.toList]
    apply List.map_congr_left
    intro c _
    simp
  rw [this]

/-- A text cut short by one byte ends too early. -/
theorem text_cut (a : Option Addr) (M cap : Nat) (L : List Int) (Q C : Nat) (s : ByteArray) (w : World) (hb : Bs w a M L) (hM : M ≤ 2030) (hc : M ≤ cap) (hQ : Q < M) (hL : M = L.length) (hm : M = Q + C + s.size) (hC : C = (ubytes s.size).length)
    (he : L.drop Q = ubytes s.size ++ sb s) (hs : s.size ≤ 2000) :
    Calls Try.prog 18 #[.slice a (M - 1) cap, .int .i64 (Q : Int)] w fun e w' => e = .returned (.tuple #[.string ByteArray.empty, .int .i64 0, .int .u8 10]) ∧ w' = w := by
  have hd : (L.take (M - 1)).drop Q = (ubytes s.size ++ sb s).take (C + s.size - 1) := by
    rw [List.drop_take, he]; congr 1; omega
  have hle := ubytes_le s.size
  rcases Nat.eq_zero_or_pos s.size with h0 | h0
  · refine text_err a (M - 1) cap (L.take (M - 1)) Q 10 w (hb.take (by omega)) (by omega) (by omega) (by omega) ?_ (by decide)
    rw [hd, List.take_append_of_le_length (by omega)]
    exact rdU_cut (by omega) (by omega)
  · refine text_short a (M - 1) cap (L.take (M - 1)) Q s.size C w (hb.take (by omega)) (by omega) (by omega) (by omega) ?_ (by omega)
    rw [hd, List.take_append, List.take_of_length_le (by omega), hC]
    exact rdU_ubytes (by omega) _

set_option maxRecDepth 100000 in
set_option maxHeartbeats 1000000 in
theorem codeBack_walk (n : Nat) (k : Int) (s : ByteArray) (d : Nat) (w : World) (hn : n < 2 ^ 64) (k1 : -9223372036854775808 ≤ k) (k2 : k < 9223372036854775808) (hs : s.size ≤ maxLen) (hd : d ≤ 255) :
    Calls Try.prog 4 #[.int .u64 (n : Int), .int .i64 k, .string s, .int .u8 (d : Int)] w fun e w' => e = .returned (.bool true) ∧ Below w.heap.size w w' := by
  unfold maxLen at hs
  by_cases h2 : 2000 < s.size
  · have t2 : decide ((2000 : Int) < (s.size : Int)) = true := by simp; omega
    go_enter Try.func4, Try.ntmps4
    go_wp2_with fail
    refine (alive_any _).mono ?_
    rintro e w1 ⟨rfl, hb1⟩
    go_wp2
    go_ret
    exact ⟨rfl, hb1⟩
  have t2 : decide ((2000 : Int) < (s.size : Int)) = false := by simp; omega
  go_enter Try.func4, Try.ntmps4
  go_wp2_with fail
  refine (alive_any _).mono ?_
  rintro e w1 ⟨rfl, hb1⟩
  go_wp2_with fail
  refine (putUint_any none 0 0 [] n hn w1 (fun _ => ⟨rfl, rfl⟩) (Bs.empty w1 none) (by omega)).mono ?_
  rintro e w2 ⟨v2, rfl, ho2, hb2⟩
  have hbw : Below w.heap.size w w2 := hb1.trans (hb2.mono hb1.size)
  clear hb1 hb2
  rw [List.nil_append] at ho2
  obtain ⟨a2, c2, rfl, hc2, hn2, bs2⟩ := ho2.slice
  clear ho2
  have hl1 := ubytes_le n
  have hl2 := ubytes_le (zz k)
  have hl3 := ubytes_le s.size
  go_wp2_with fail
  refine (putInt_any a2 _ c2 (ubytes n) k k1 k2 w2 hn2 bs2 (by omega)).mono ?_
  rintro e w3 ⟨v3, rfl, ho3, hb3⟩
  replace hbw : Below w.heap.size w w3 := hbw.trans (hb3.mono hbw.size)
  clear hb3 bs2 hc2 hn2
  obtain ⟨L3, hL3⟩ : ∃ L, L = ubytes n ++ ubytes (zz k) := ⟨_, rfl⟩
  rw [← hL3] at ho3
  have HL3 : Hid (L3 = ubytes n ++ ubytes (zz k)) := hL3
  have hL3l : L3.length ≤ 20 := by rw [hL3, List.length_append]; omega
  clear hL3
  obtain ⟨a3, c3, rfl, hc3, hn3, bs3⟩ := ho3.slice
  clear ho3
  go_wp2_with fail
  refine (putText_any a3 _ c3 L3 s w3 hn3 bs3 (by omega) (by omega)).mono ?_
  rintro e w4 ⟨v4, rfl, ho4, hb4⟩
  replace hbw : Below w.heap.size w w4 := hbw.trans (hb4.mono hbw.size)
  clear hb4 bs3 hc3 hn3
  obtain ⟨L, hL⟩ : ∃ L, L = ubytes n ++ (ubytes (zz k) ++ (ubytes s.size ++ sb s)) := ⟨_, rfl⟩
  rw [HL3.out, List.append_assoc, ← hL] at ho4
  obtain ⟨P, hP⟩ : ∃ P, P = (ubytes n).length := ⟨_, rfl⟩
  obtain ⟨Q, hQ⟩ : ∃ Q, Q = P + (ubytes (zz k)).length := ⟨_, rfl⟩
  obtain ⟨C, hC⟩ : ∃ C, C = (ubytes s.size).length := ⟨_, rfl⟩
  obtain ⟨M, hM⟩ : ∃ M, M = L.length := ⟨_, rfl⟩
  obtain ⟨a4, c4, hv4, hc4, hn4, bs4⟩ := ho4.slice
  rw [← hM] at hv4 hc4 hn4 bs4
  subst hv4
  have hMl : M = Q + C + s.size := by
    rw [hM, hL]; simp only [List.length_append, sb_length]; omega
  have g1 : rdU (L.drop 0) = (n, P, 0) := by rw [List.drop_zero, hL, hP]; exact rdU_ubytes hn _
  have g2 : rdU (L.drop P) = (zz k, Q - P, 0) := by
    rw [hL, hP, List.drop_left' rfl, rdU_ubytes (zz_lt k k1 k2)]; congr 2; omega
  have e3 : L.drop Q = ubytes s.size ++ sb s := by rw [hL, hQ, hP, ← List.append_assoc, List.drop_left' (by rw [List.length_append])]
  have g3 : rdU (L.drop Q) = (s.size, C, 0) := by rw [e3, hC]; exact rdU_ubytes (by omega) _
  have e4 : strOfNums ((L.drop (Q + C)).take s.size) = s := by
    rw [← List.drop_drop, e3, hC, List.drop_left' rfl, List.take_of_length_le (by rw [sb_length]; omega), str_sb]
  have hPQ : P < Q ∧ Q < M ∧ 0 < P ∧ P ≤ 10 ∧ M ≤ 2030 := by omega
  have G1 : Hid (rdU (L.drop 0) = (n, P, 0)) := g1
  have G2 : Hid (rdU (L.drop P) = (zz k, Q - P, 0)) := g2
  have G3 : Hid (rdU (L.drop Q) = (s.size, C, 0)) := g3
  have E3 : Hid (L.drop Q = ubytes s.size ++ sb s) := e3
  have E4 : Hid (strOfNums ((L.drop (Q + C)).take s.size) = s) := e4
  have HM : Hid (M = Q + C + s.size) := hMl
  have HP : Hid (P = (ubytes n).length) := hP
  have HL : Hid (L = ubytes n ++ (ubytes (zz k) ++ (ubytes s.size ++ sb s))) := hL
  have HC : Hid (C = (ubytes s.size).length) := hC
  have HML : Hid (M = L.length) := hM
  clear g1 g2 g3 e3 e4 hMl hP hL hC hM hQ ho4 hl1 hl2 hl3 hL3l
  obtain ⟨q1, q2, q3, q4, q5⟩ := hPQ
  go_wp2_with fail
  refine (uint_read a4 M c4 L 0 n P w4 bs4 (by omega) hc4 (by omega) G1.out).mono ?_
  rintro e w5 ⟨rfl, rfl⟩
  rw [show ((0 + P : Nat) : Int) = (P : Int) from by omega]
  go_wp2_with fail
  refine (int_read a4 M c4 L P _ _ w5 bs4 (by omega) hc4 (by omega) G2.out).mono ?_
  rintro e w6 ⟨rfl, rfl⟩
  rw [show ((P + (Q - P) : Nat) : Int) = (Q : Int) from by omega, unzz_zz]
  go_wp2_with fail
  refine (text_read a4 M c4 L Q _ _ w6 bs4 (by omega) hc4 (by omega) G3.out (by rw [HM.out]; omega)).mono ?_
  rintro e w7 ⟨rfl, rfl⟩
  rw [show ((Q + C + s.size : Nat) : Int) = (M : Int) from by rw [HM.out], E4.out]
  have b1 : ((n : Int) != (n : Int)) = false := by simp
  have b2 : (k != k) = false := by simp
  have b3 : ((M : Int) != (M : Int)) = false := by simp
  go_wp2_with fail
  refine (len_any n hn _).mono ?_
  rintro e w8 ⟨rfl, rfl⟩
  rw [← HP.out]
  have b4 : ((P : Int) != (P : Int)) = false := by simp
  have hj0 := Nat.mod_lt d q3
  have hj1 : d % P ≤ c4 := by omega
  have hj2 : (d : Int) % (P : Int) ≤ (c4 : Int) := by omega
  have hj3 : 0 ≤ (d : Int) % (P : Int) := by omega
  go_wp2_with fail
  have g5 : rdU ((L.take (d % P)).drop 0) = (0, 0, 10) := by
    rw [List.drop_zero, HL.out, List.take_append_of_le_length (by rw [← HP.out]; omega)]
    exact rdU_cut hn (by rw [← HP.out]; exact hj0)
  have G5 : Hid (rdU ((L.take (d % P)).drop 0) = (0, 0, 10)) := g5
  clear g5
  refine (uint_err a4 (d % P) c4 (L.take (d % P)) 0 10 w8 (bs4.take (by omega)) (by omega) hj1 (by omega) G5.out (by decide)).mono ?_
  rintro e w9 ⟨rfl, rfl⟩
  clear hj1 hj2 hj3 hj0
  go_wp2_with fail
  refine (text_cut a4 M c4 L Q C s w9 bs4 (by omega) hc4 q2 HML.out HM.out HC.out E3.out (by omega)).mono ?_
  rintro e w10 ⟨rfl, rfl⟩
  go_wp2
  go_ret
  exact ⟨rfl, hbw⟩
end Go.Proofs.Ytaajmhajeecciaa
