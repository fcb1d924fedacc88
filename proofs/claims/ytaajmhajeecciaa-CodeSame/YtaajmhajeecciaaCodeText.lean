/-
  What code.Int and code.Text return at a place of bytes.
-/
import Derived.Test.YtaajmhajeecciaaCodeUint
import Derived.Laws.BytesArg
namespace Go.Proofs.Ytaajmhajeecciaa
open Go.RowKit
set_option linter.unusedVariables false

/-- A number's reading: it, how many bytes it has, the error. -/
def rdU (l : List Int) : Nat × Nat × Nat :=
  match lastAt l with
  | none => (0, 0, 10)
  | some i => if okNum (l.take (i + 1)) then (val (l.take (i + 1)), i + 1, 0) else (0, 0, 7)

theorem uint_err (a : Option Addr) (k cap : Nat) (zs : List Int) (p er : Nat) (w : World) (hb : Bs w a k zs) (hk : k ≤ 70368744177664) (hkc : k ≤ cap) (hp : p ≤ k) (he : rdU (zs.drop p) = (0, 0, er)) (h0 : er ≠ 0) :
    Calls Try.prog 16 #[.slice a k cap, .int .i64 (p : Int)] w fun e w' => e = .returned (.tuple #[.int .u64 0, .int .i64 0, .int .u8 (er : Int)]) ∧ w' = w := by
  unfold rdU at he
  cases hl : lastAt (zs.drop p) with
  | none => rw [hl] at he; cases he; exact uint_end a k cap zs p w hb hk hkc hp hl
  | some i =>
    rw [hl] at he
    cases ho : okNum ((zs.drop p).take (i + 1)) with
    | true => simp [ho] at he
    | false => simp [ho] at he; subst he; exact uint_form a k cap zs p i w hb hk hkc hp hl ho

theorem uint_read (a : Option Addr) (k cap : Nat) (zs : List Int) (p v c : Nat) (w : World) (hb : Bs w a k zs) (hk : k ≤ 70368744177664) (hkc : k ≤ cap) (hp : p ≤ k) (he : rdU (zs.drop p) = (v, c, 0)) :
    Calls Try.prog 16 #[.slice a k cap, .int .i64 (p : Int)] w fun e w' => e = .returned (.tuple #[.int .u64 (v : Int), .int .i64 ((p + c : Nat) : Int), .int .u8 0]) ∧ w' = w := by
  unfold rdU at he
  cases hl : lastAt (zs.drop p) with
  | none => rw [hl] at he; cases he
  | some i =>
    rw [hl] at he
    cases ho : okNum ((zs.drop p).take (i + 1)) with
    | false => simp [ho] at he
    | true => simp [ho] at he; obtain ⟨rfl, rfl⟩ := he; exact uint_ok a k cap zs p i w hb hk hkc hp hl ho

theorem rdU_bounds {l : List Int} {v c : Nat} (hwf : ∀ z ∈ l, 0 ≤ z ∧ z ≤ 255) (h : rdU l = (v, c, 0)) : v < 2 ^ 64 ∧ 1 ≤ c ∧ c ≤ l.length ∧ c ≤ 10 := by
  unfold rdU at h
  cases hl : lastAt l with
  | none => rw [hl] at h; cases h
  | some i =>
    rw [hl] at h
    have h1 := lastAt_lt hl
    cases ho : okNum (l.take (i + 1)) with
    | false => simp [ho] at h
    | true =>
      simp [ho] at h
      obtain ⟨rfl, rfl⟩ := h
      have h2 := of_decide_eq_true ho
      have hlen : (l.take (i + 1)).length = i + 1 := by rw [List.length_take]; omega
      rw [hlen] at h2
      refine ⟨?_, by omega, by omega, by omega⟩
      rcases Nat.lt_or_ge i 9 with h9 | h9
      · have h3 := val_lt (l.take (i + 1))
        rw [hlen] at h3
        have h4 : 128 ^ (i + 1) ≤ 128 ^ 9 := Nat.pow_le_pow_right (by decide) (by omega)
        exact Nat.lt_of_lt_of_le h3 (Nat.le_trans h4 (by decide))
      · have e : i = 9 := by omega
        subst e
        have h5 := h2.2.1 rfl
        have h6 : 9 < l.length := h1.1
        have h7 : l.take (9 + 1) = l.take 9 ++ [l[9]] := List.take_succ_eq_append_getElem h6
        rw [h7, val_snoc]
        have h8 := val_lt (l.take 9)
        have h9 : (l.take 9).length = 9 := by rw [List.length_take]; omega
        rw [h9] at h8 ⊢
        have h10 : (l.take (9 + 1)).getD (9 + 1 - 1) 0 = l[9] := by simp [h6]
        rw [h10] at h5
        have h12 := hwf l[9] (List.getElem_mem h6)
        have h11 : (l[9] % 128).toNat ≤ 1 := by omega
        clear h1 h2 h5 h7 h9 h10 h12 ho hl hlen hwf
        generalize (l[9] % 128).toNat = t at *
        generalize val (l.take 9) = u at *
        have h13 : u < 9223372036854775808 := h8
        show u + t * 9223372036854775808 < 18446744073709551616
        clear h8
        omega

/-- 'string(b)' of bytes. -/
theorem run_str {w : World} {a : Option Addr} {n : Nat} {zs : List Int} (h : Bs w a n zs) (cap : Nat) :
    (convert 22 9 (.slice a n cap)).run Try.prog w = .ok (.string (strOfNums zs)) w := by
  obtain ⟨h1, h2, h3⟩ := h
  rcases h3 with h3 | ⟨b, off, rfl, hlt, hc⟩
  · subst h3
    have : zs = [] := List.eq_nil_of_length_eq_zero h1
    subst this
    cases a with
    | none => exact run_convert_bytes_nil w 22 5 Try.underlying22 Try.underlying5 0 cap 9 Try.underlying9
    | some ad =>
      rw [run_convert_bytes_string w 22 9 5 _ 0 cap Try.underlying22 Try.underlying5 Try.underlying9]
      have hl : (loadCells ad 0).run Try.prog w = .ok (([] : List Int).map (Value.int .u8)).toArray w := run_loadCells_list (P := Try.prog) w ad [] (fun j v hj => by simp at hj)
      rw [run_bytesToString w ad 0 cap [] hl]
      rfl
  · exact run_convert_bytes_arg w 22 5 Try.underlying22 Try.underlying5 b off n cap zs h1 hc 9 Try.underlying9

set_option maxRecDepth 100000 in
set_option maxHeartbeats 400000 in
theorem int_err (a : Option Addr) (k cap : Nat) (zs : List Int) (p er : Nat) (w : World) (hb : Bs w a k zs) (hk : k ≤ 70368744177664) (hkc : k ≤ cap) (hp : p ≤ k) (he : rdU (zs.drop p) = (0, 0, er)) (h0 : er ≠ 0) :
    Calls Try.prog 17 #[.slice a k cap, .int .i64 (p : Int)] w fun e w' => e = .returned (.tuple #[.int .i64 0, .int .i64 0, .int .u8 (er : Int)]) ∧ w' = w := by
  have hb0 : ((er : Int) != 0) = true := by simp; omega
  have HE : Hid (rdU (zs.drop p) = (0, 0, er)) := he
  clear he
  go_enter Try.func17, Try.ntmps17
  go_wp2_with fail
  refine (uint_err a k cap zs p er w hb hk hkc hp HE.out h0).mono ?_
  rintro e w1 ⟨rfl, rfl⟩
  go_wp2
  go_ret3
  exact ⟨rfl, rfl⟩

set_option maxRecDepth 100000 in
set_option maxHeartbeats 400000 in
theorem int_read (a : Option Addr) (k cap : Nat) (zs : List Int) (p v c : Nat) (w : World) (hb : Bs w a k zs) (hk : k ≤ 70368744177664) (hkc : k ≤ cap) (hp : p ≤ k) (he : rdU (zs.drop p) = (v, c, 0)) :
    Calls Try.prog 17 #[.slice a k cap, .int .i64 (p : Int)] w fun e w' => e = .returned (.tuple #[.int .i64 (unzz v), .int .i64 ((p + c : Nat) : Int), .int .u8 0]) ∧ w' = w := by
  have hv := (rdU_bounds (fun z hz => hb.2.1 z (List.mem_of_mem_drop hz)) he).1
  have HE : Hid (rdU (zs.drop p) = (v, c, 0)) := he
  clear he
  go_enter Try.func17, Try.ntmps17
  go_wp2_with fail
  refine (uint_read a k cap zs p v c w hb hk hkc hp HE.out).mono ?_
  rintro e w1 ⟨rfl, rfl⟩
  go_wp2_with fail
  refine (unfold_any v hv _).mono ?_
  rintro e w2 ⟨rfl, rfl⟩
  go_wp2
  go_ret3
  exact ⟨rfl, rfl⟩

set_option maxRecDepth 100000 in
set_option maxHeartbeats 400000 in
theorem text_err (a : Option Addr) (k cap : Nat) (zs : List Int) (p er : Nat) (w : World) (hb : Bs w a k zs) (hk : k ≤ 70368744177664) (hkc : k ≤ cap) (hp : p ≤ k) (he : rdU (zs.drop p) = (0, 0, er)) (h0 : er ≠ 0) :
    Calls Try.prog 18 #[.slice a k cap, .int .i64 (p : Int)] w fun e w' => e = .returned (.tuple #[.string ByteArray.empty, .int .i64 0, .int .u8 (er : Int)]) ∧ w' = w := by
  have hb0 : ((er : Int) != 0) = true := by simp; omega
  have HE : Hid (rdU (zs.drop p) = (0, 0, er)) := he
  clear he
  go_enter Try.func18, Try.ntmps18
  go_wp2_with fail
  refine (uint_err a k cap zs p er w hb hk hkc hp HE.out h0).mono ?_
  rintro e w1 ⟨rfl, rfl⟩
  go_wp2
  go_ret3
  exact ⟨rfl, rfl⟩

set_option maxRecDepth 100000 in
set_option maxHeartbeats 400000 in
theorem text_short (a : Option Addr) (k cap : Nat) (zs : List Int) (p v c : Nat) (w : World) (hb : Bs w a k zs) (hk : k ≤ 70368744177664) (hkc : k ≤ cap) (hp : p ≤ k) (he : rdU (zs.drop p) = (v, c, 0)) (hs : k < p + c + v) :
    Calls Try.prog 18 #[.slice a k cap, .int .i64 (p : Int)] w fun e w' => e = .returned (.tuple #[.string ByteArray.empty, .int .i64 0, .int .u8 10]) ∧ w' = w := by
  obtain ⟨hv, hc1, hc2, _⟩ := rdU_bounds (fun z hz => hb.2.1 z (List.mem_of_mem_drop hz)) he
  rw [List.length_drop, hb.1] at hc2
  have HE : Hid (rdU (zs.drop p) = (v, c, 0)) := he
  clear he
  go_enter Try.func18, Try.ntmps18
  go_wp2_with fail
  refine (uint_read a k cap zs p v c w hb hk hkc hp HE.out).mono ?_
  rintro e w1 ⟨rfl, rfl⟩
  go_wp2
  go_ret3
  exact ⟨rfl, rfl⟩

set_option maxRecDepth 100000 in
set_option maxHeartbeats 400000 in
theorem text_read (a : Option Addr) (k cap : Nat) (zs : List Int) (p v c : Nat) (w : World) (hb : Bs w a k zs) (hk : k ≤ 70368744177664) (hkc : k ≤ cap) (hp : p ≤ k) (he : rdU (zs.drop p) = (v, c, 0)) (hs : p + c + v ≤ k) :
    Calls Try.prog 18 #[.slice a k cap, .int .i64 (p : Int)] w fun e w' => e = .returned (.tuple #[.string (strOfNums ((zs.drop (p + c)).take v)), .int .i64 ((p + c + v : Nat) : Int), .int .u8 0]) ∧ w' = w := by
  obtain ⟨hv, hc1, hc2, _⟩ := rdU_bounds (fun z hz => hb.2.1 z (List.mem_of_mem_drop hz)) he
  rw [List.length_drop, hb.1] at hc2
  have HE : Hid (rdU (zs.drop p) = (v, c, 0)) := he
  clear he
  rcases Nat.lt_or_ge (p + c) cap with hpc | hpc
  · have hcv := run_str ((hb.drop (show p + c ≤ k by omega)).take (show v ≤ k - (p + c) by omega)) (cap - (p + c))
    go_enter Try.func18, Try.ntmps18
    go_wp2_with fail
    refine (uint_read a k cap zs p v c w hb hk hkc hp HE.out).mono ?_
    rintro e w1 ⟨rfl, rfl⟩
    go_wp2
    go_ret3
    exact ⟨rfl, rfl⟩
  · have e1 : v = 0 := by omega
    have e2 : cap = p + c := by omega
    subst e1 e2
    have hcv := run_str (Bs.empty w a) 0
    go_enter Try.func18, Try.ntmps18
    go_wp2_with fail
    refine (uint_read a k (p + c) zs p 0 c w hb hk hkc hp HE.out).mono ?_
    rintro e w1 ⟨rfl, rfl⟩
    go_wp2
    go_ret3
    exact ⟨rfl, rfl⟩
end Go.Proofs.Ytaajmhajeecciaa
