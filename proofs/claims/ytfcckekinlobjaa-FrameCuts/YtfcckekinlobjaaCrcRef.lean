/-
  What the document's own functions of the crc layer return: Of and Word.
-/
import Derived.Test.YtfcckekinlobjaaCrcSum
import Derived.Test.YtfcckekinlobjaaRefSame
namespace Go.Proofs.Ytfcckekinlobjaa
open Go.RowKit
set_option linter.unusedVariables false

/-- The document's one bit. -/
def rs (n c : Nat) : Nat := if n % 2 = c % 2 then n / 2 else n / 2 ^^^ 3988292384
theorem rs_lt {n : Nat} (c : Nat) (h : n < 2 ^ 32) : rs n c < 2 ^ 32 := by
  unfold rs; split
  · omega
  · exact Nat.xor_lt_two_pow (by omega) (by omega)
theorem rs_step (k n c : Nat) (h : k < 8) : csn (8 - (k + 1)) (rs n c ^^^ c / 2) = csn (8 - k) (n ^^^ c) := by
  rw [← csn_step k _ h, ref_step]; rfl

theorem xor_ones32 (x : Nat) (h : x < 2 ^ 32) : x ^^^ 4294967295 = 4294967295 - x := by
  have e : (~~~ (BitVec.ofNat 32 x)).toNat = 2 ^ 32 - 1 - (BitVec.ofNat 32 x).toNat := BitVec.toNat_not
  have e2 : ~~~ (BitVec.ofNat 32 x) = BitVec.ofNat 32 x ^^^ BitVec.allOnes 32 := by rw [BitVec.xor_allOnes]
  rw [e2, BitVec.toNat_xor, BitVec.toNat_ofNat, BitVec.toNat_allOnes, Nat.mod_eq_of_lt (by omega)] at e
  exact e

set_option maxRecDepth 100000 in
set_option maxHeartbeats 400000 in
theorem refOf_any (a : Option Addr) (m ca : Nat) (zs : List Int) (w : World) (ha : Bs w a m zs) (hm : m ≤ 140737488355328) :
    Calls Try.prog 19 #[.slice a m ca] w fun e w' => e = .returned (.int .u32 ((crcOf zs : Nat) : Int)) ∧ w' = w := by
  obtain ⟨a1, a2, a3⟩ := ha
  have A1 : Hid (zs.length = m) := a1
  have A2 : Hid (∀ z ∈ zs, 0 ≤ z ∧ z ≤ 255) := a2
  clear a1 a2
  go_enter Try.func19, Try.ntmps19
  go_wp2
  go_loop [3, 4] (fun s i => ∃ k x : Nat, i = .int .i64 (k : Int) ∧ k ≤ m ∧ s = .int .u32 (x : Int) ∧ x < 2 ^ 32 ∧ x = craw 4294967295 (zs.take k)) (fun s i => m - (intOf i).toNat)
  case atStart => exact ⟨0, 4294967295, rfl, by omega, rfl, by omega, rfl⟩
  case round =>
    obtain ⟨k, x, rfl, hk, rfl, hx, he⟩ := hrel
    have HE : Hid (x = craw 4294967295 (zs.take k)) := he
    clear he
    by_cases hlt : k < m
    · rcases a3 with a3 | ⟨ba, oa, rfl, hba, hca⟩
      · omega
      obtain ⟨hz0, hz1⟩ := getD_wf A2.out k
      obtain ⟨c, hc⟩ : ∃ c : Nat, (c : Int) = zs.getD k 0 := ⟨(zs.getD k 0).toNat, by omega⟩
      have hcell : w.cell? ⟨ba, oa + k, none⟩ = some (.int .u8 (c : Int)) := by rw [hc]; exact hca k hlt
      have HC : Hid ((c : Int) = zs.getD k 0) := hc
      have hc256 : c < 256 := by omega
      clear hca hz0 hz1 hc
      go_wp2
      go_loop [3, 5, 6] (fun s d i => ∃ j y e : Nat, i = .int .i64 (j : Int) ∧ j ≤ 8 ∧ s = .int .u32 (y : Int) ∧ y < 2 ^ 32 ∧ d = .int .u32 (e : Int) ∧ e * 2 ^ j < 256 ∧ csn (8 - j) (y ^^^ e) = cbyte x c) (fun s d i => 8 - (intOf i).toNat)
      case atStart => exact ⟨0, x, c, rfl, by omega, rfl, hx, rfl, by omega, (cbyte_nat x c).symm⟩
      case round =>
        obtain ⟨j, y, e, rfl, hj, rfl, hy, rfl, hee, he⟩ := hrel
        have HJ : Hid (csn (8 - j) (y ^^^ e) = cbyte x c) := he
        have he256 : e < 256 := by
          have := Nat.one_le_two_pow (n := j)
          have := Nat.mul_le_mul_left e this
          omega
        have HP : Hid (e * 2 ^ j < 256) := hee
        clear he hee
        by_cases hj8 : j < 8
        · have HR : Hid (csn (8 - (j + 1)) (rs y e ^^^ e / 2) = cbyte x c) := by rw [rs_step j y e hj8]; exact HJ.out
          have HL : Hid (rs y e < 2 ^ 32) := rs_lt e hy
          have HQ : Hid (e / 2 * 2 ^ (j + 1) < 256) := by
            have := HP.out
            have h2 : e / 2 * 2 ^ (j + 1) ≤ e * 2 ^ j := by
              rw [Nat.pow_succ, Nat.mul_comm (2 ^ j) 2, ← Nat.mul_assoc]
              exact Nat.mul_le_mul_right _ (by omega)
            exact Nat.lt_of_le_of_lt h2 this
          by_cases hpar : y % 2 = e % 2
          · have hb : ((y : Int) % 2 != (e : Int) % 2) = false := by simp; omega
            have hv : rs y e = y / 2 := by simp [rs, hpar]
            have HV : Hid (rs y e = y / 2) := hv
            clear hpar hv
            go_wp2
            refine ⟨⟨j + 1, rs y e, e / 2, by go_num, by omega, by rw [HV.out]; go_num, HL.out, by go_num, HQ.out, HR.out⟩, ?_⟩
            simp [intOf]; omega
          · have hb : ((y : Int) % 2 != (e : Int) % 2) = true := by simp; omega
            have hv : rs y e = y / 2 ^^^ 3988292384 := by simp [rs, hpar]
            have HV : Hid (rs y e = y / 2 ^^^ 3988292384) := hv
            clear hpar hv
            have hbx : bits .xor .u32 ((y : Int) / 2) 3988292384 = ((y / 2 ^^^ 3988292384 : Nat) : Int) := u32_xor_nat (y / 2) 3988292384 (by omega) (by omega)
            go_wp2
            refine ⟨⟨j + 1, rs y e, e / 2, by go_num, by omega, by rw [HV.out], HL.out, by go_num, HQ.out, HR.out⟩, ?_⟩
            simp [intOf]; omega
        · have hj8' : j = 8 := by omega
          subst hj8'
          have he0 : e = 0 := by have := HP.out; omega
          subst he0
          have HY : Hid (y = cbyte x c) := by have := HJ.out; rw [Nat.xor_zero] at this; exact this
          go_wp2
          refine ⟨⟨k + 1, y, by go_num, by omega, rfl, hy, by rw [craw_step _ _ _ (by rw [A1.out]; exact hlt), ← HE.out, ← HC.out]; exact HY.out⟩, ?_⟩
          simp [intOf]; omega
    · go_wp2
      go_ret
      refine ⟨?_, rfl⟩
      have e1 : crcOf zs = 4294967295 - x := by
        rw [HE.out, List.take_of_length_le (by rw [A1.out]; omega)]
        show 4294967295 ^^^ craw (4294967295 ^^^ 0) zs = _
        rw [Nat.xor_zero]
        have hl : craw 4294967295 zs < 2 ^ 32 := craw_lt (by omega) A2.out
        rw [Nat.xor_comm, xor_ones32 _ hl]
      rw [e1]
      show Ending.returned (Value.int IntKind.u32 (4294967295 - (x : Int))) = _
      rw [show ((4294967295 - x : Nat) : Int) = 4294967295 - (x : Int) by omega]

/-- The four bytes of a word, in a block of their own. -/
theorem own_new (w : World) (base : Nat) (hb : base ≤ w.heap.size) (zs : List Int) (hz : ∀ z ∈ zs, 0 ≤ z ∧ z ≤ 255) (hl : zs.length ≤ maxLen) : Own (w.alloc (.cells (cb zs).toArray 5)) base (.slice (some ⟨w.heap.size, 0, none⟩) zs.length zs.length) zs := by
  refine ⟨?_, hz⟩
  have := World.ownsRow_lit (e := 5) (size := 1) w (cb zs).toArray zs.length hb hl (by simp [cb])
  simpa using this

set_option maxRecDepth 100000 in
set_option maxHeartbeats 400000 in
theorem refWord_any (n : Nat) (hn : n < 2 ^ 32) (w : World) :
    Calls Try.prog 18 #[.int .u32 (n : Int)] w fun e w' => ∃ v, e = .returned v ∧ Own w' w.heap.size v (wbytes n) ∧ Below w.heap.size w w' := by
  have H : Hid (Own (w.alloc (.cells (cb (wbytes n)).toArray 5)) w.heap.size (.slice (some ⟨w.heap.size, 0, none⟩) 4 4) (wbytes n)) := own_new w _ (Nat.le_refl _) (wbytes n) (wbytes_wf n) (by simp [wbytes, maxLen])
  have HB : Hid (Below w.heap.size w (w.alloc (.cells (cb (wbytes n)).toArray 5))) := (Below.refl _ _).alloc (Nat.le_refl _) _
  go_enter Try.func18, Try.ntmps18
  go_wp2
  go_ret
  have e : #[Value.int IntKind.u8 ((n : Int) % 256), Value.int IntKind.u8 ((n : Int) / 256 % 256), Value.int IntKind.u8 ((n : Int) / 65536 % 256), Value.int IntKind.u8 ((n : Int) / 16777216)] = (cb (wbytes n)).toArray := by simp [cb, wbytes]; omega
  rw [e]
  exact ⟨_, rfl, H.out, HB.out⟩
end Go.Proofs.Ytfcckekinlobjaa
