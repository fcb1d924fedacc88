/-
  What crc.appendWord, crc.Put, crc.word, slices.Clone and crc.Get return.
-/
import Derived.Test.YtfcckekinlobjaaCrcRef
namespace Go.Proofs.Ytfcckekinlobjaa
open Go.RowKit
set_option linter.unusedVariables false

theorem info_byte : (Try.prog.info? 5).map (fun i => (i.zero, i.size, i.bytes)) = some (some (.int .u8 0), 1, 1) := by kernel_rfl

theorem wbytes_take (n k : Nat) (hk : k < 4) : (wbytes n).take (k + 1) = (wbytes n).take k ++ [((n / 256 ^ k % 256 : Nat) : Int)] := by
  rcases k with _ | _ | _ | _ | k
  · simp [wbytes]
  · simp [wbytes]
  · simp [wbytes]
  · simp [wbytes]
  · omega

set_option maxRecDepth 100000 in
set_option maxHeartbeats 400000 in
theorem appendWord_any (base : Nat) (v : Value) (xs : List Int) (n : Nat) (hn : n < 2 ^ 32) (w : World) (hown : Own w base v xs) (hbase : base ≤ w.heap.size) (hl : xs.length ≤ 70368744177664) :
    Calls Try.prog 36 #[v, .int .u32 (n : Int)] w fun e w' => ∃ v', e = .returned v' ∧ Own w' base v' (xs ++ wbytes n) ∧ Below base w w' := by
  go_enter Try.func36, Try.ntmps36
  go_wp2
  go_loopw [0, 1, 5] (fun u m i wr => ∃ (k j : Nat), i = .int .i64 (k : Int) ∧ k ≤ 4 ∧ m = .int .u32 (j : Int) ∧ j < 2 ^ 32 ∧ j = n / 256 ^ k ∧ Own wr base u (xs ++ (wbytes n).take k) ∧ base ≤ wr.heap.size ∧ Below base w wr) (fun _ _ i _ => 4 - (intOf i).toNat)
  case atStart => exact ⟨0, n, rfl, by omega, rfl, hn, by simp, by simpa using hown, hbase, Below.refl _ _⟩
  case round =>
    obtain ⟨k, j, rfl, hk, rfl, hj, hy, ho, hB, hbel⟩ := hrel
    have HY : Hid (j = n / 256 ^ k) := hy
    clear hy hown hbase hn
    obtain ⟨L, hL⟩ : ∃ L, L = xs ++ (wbytes n).take k := ⟨_, rfl⟩
    rw [← hL] at ho
    have hLl : L.length ≤ 70368744177664 + 4 := by rw [hL, List.length_append, List.length_take]; omega
    have HL : Hid (L = xs ++ (wbytes n).take k) := hL
    clear hL
    by_cases hz : k < 4
    · go_wp2_with (at_builtin; refine wpList_append_bytes _ rfl _ _ rfl base Try.underlying22 info_byte _ L rfl (ho.alloc _) (some ⟨wr.heap.size, 0, none⟩) 1 1 [(j : Int) % 256] rfl ?a1 (bs_new1 _ _ ?a2) ?a3 ?a4 ?_)
      case a1 => intro h; cases h
      case a2 => omega
      case a3 => omega
      case a4 => simp; omega
      intro v2 w2 ho2 hg2
      have hb2 : Below base w w2 := (hbel.alloc hB _).trans (Below.of_grown (ho.alloc _) hg2 (by simp; omega))
      have hsz : base ≤ w2.heap.size := by have := hg2.size; simp at this; omega
      have e1 : L ++ [(j : Int) % 256] = xs ++ (wbytes n).take (k + 1) := by
        rw [wbytes_take n k hz, HL.out, List.append_assoc, ← HY.out]; simp
      rw [e1] at ho2
      clear hg2 ho hB hbel e1
      go_wp2
      go_roundw
      case rel => exact ⟨k + 1, j / 256, by go_num, by omega, by go_num, by omega, by rw [HY.out, Nat.div_div_eq_div_mul, Nat.pow_succ], ho2, hsz, hb2⟩
      case measure => simp [intOf]; omega
    · have e1 : L = xs ++ wbytes n := by rw [HL.out, List.take_of_length_le (by simp [wbytes]; omega)]
      rw [e1] at ho
      clear e1
      go_wp2
      go_ret
      exact ⟨_, rfl, ho, hbel⟩

set_option maxRecDepth 100000 in
set_option maxHeartbeats 400000 in
theorem put_any (a : Option Addr) (k cap : Nat) (zs : List Int) (w : World) (hnil : a = none → k = 0 ∧ cap = 0) (hb : Bs w a k zs) (hk : k ≤ 70368744177664) :
    Calls Try.prog 27 #[.slice a k cap] w fun e w' => ∃ v, e = .returned v ∧ Own w' w.heap.size v (wbytes (crcOf zs) ++ zs) ∧ Below w.heap.size w w' := by
  obtain ⟨i, hi1, hi2, hi3, hi4⟩ := info_parts info_byte
  have HT : Hid (crcOf zs < 2 ^ 32) := crcOf_lt hb.2.1
  go_enter Try.func27, Try.ntmps27
  go_wp2_with (at_make; refine wpList_make_own _ rfl _ _ 22 rfl w.heap.size 5 i (.int .u8 0) 1 Try.underlying22 hi1 hi2 hi3 .i64 .i64 _ (4 + k) rfl rfl ?c1 ?c2 ?c3 ?c4 ?_)
  case c1 => omega
  case c2 => rw [hi4]; omega
  case c3 => unfold maxLen; omega
  case c4 => exact Nat.le_refl _
  intro w1 ho1 hg1
  have hown1 : Own w1 w.heap.size (.slice (some ⟨w.heap.size, 0, none⟩) 0 (4 + k)) [] := ⟨ho1, by simp⟩
  have hbel1 : Below w.heap.size w w1 := (Below.refl _ _).grown hg1 (Nat.le_refl _) (fun k hk => by cases hk)
  have hb1 := hb.below hbel1 (Nat.le_refl _)
  have hsz := hg1.size
  clear ho1 hg1
  go_wp2_with fail
  refine (of_any a k cap zs w1 hb1 (by omega)).mono ?_
  rintro e w' ⟨rfl, rfl⟩
  go_wp2_with fail
  refine (appendWord_any w.heap.size _ [] (crcOf zs) HT.out _ hown1 hsz (by simp)).mono ?_
  rintro e w2 ⟨v2, rfl, ho2, hb2⟩
  rw [List.nil_append] at ho2
  have hbel2 := hbel1.trans hb2
  have hb3 := hb.below hbel2 (Nat.le_refl _)
  have hsz2 := hbel2.size
  obtain ⟨T, hT⟩ : ∃ T, T = wbytes (crcOf zs) := ⟨_, rfl⟩
  have hTl : T.length = 4 := by rw [hT]; rfl
  rw [← hT] at ho2
  have HTT : Hid (T = wbytes (crcOf zs)) := hT
  clear hT
  go_wp2_with (at_builtin; refine wpList_append_bytes _ rfl _ _ rfl w.heap.size Try.underlying22 info_byte _ T rfl ho2 a k cap zs rfl hnil hb3 ?d1 hsz2 ?_)
  case d1 => omega
  intro v3 w3 ho3 hg3
  have hbel3 : Below w.heap.size w w3 := hbel2.trans (Below.of_grown ho2 hg3 hsz2)
  clear hg3
  go_wp2
  go_ret
  exact ⟨_, rfl, by rw [← HTT.out]; exact ho3, hbel3⟩

set_option maxRecDepth 100000 in
set_option maxHeartbeats 400000 in
theorem clone_any (a : Option Addr) (k cap : Nat) (zs : List Int) (w : World) (hnil : a = none → k = 0 ∧ cap = 0) (hb : Bs w a k zs) (hk : k ≤ 70368744177664) :
    Calls Try.prog 35 #[.slice a k cap] w fun e w' => ∃ v, e = .returned v ∧ Own w' w.heap.size v zs ∧ Below w.heap.size w w' := by
  have q : ∀ (w : World) (a : Option Addr) (n c n' c' : Nat), (binOp .eql 22 (.slice a n c) (.slice none n' c')).run Try.prog w = .ok (.bool a.isNone) w := fun w a n c n' c' => Lib.run_eql_slice_nil w _ _ a n c n' c' Try.underlying22
  cases a with
  | none =>
    have hz : Hid (zs = []) := List.eq_nil_of_length_eq_zero (by rw [hb.1]; exact (hnil rfl).1)
    go_enter Try.func35, Try.ntmps35
    go_wp2
    go_ret
    exact ⟨_, rfl, by rw [hz.out]; exact Own.nil _ _, Below.refl _ _⟩
  | some ad =>
    have ho1 := own_new w _ (Nat.le_refl _) [] (by simp) (by simp)
    have hb1 : Below w.heap.size w (w.alloc (.cells (cb []).toArray 5)) := (Below.refl _ _).alloc (Nat.le_refl _) _
    have hbs := hb.below hb1 (Nat.le_refl _)
    have hsz := hb1.size
    go_enter Try.func35, Try.ntmps35
    go_wp2_with (at_builtin; refine wpList_append_bytes _ rfl _ _ rfl w.heap.size Try.underlying22 info_byte _ [] rfl ho1 (some ad) k cap zs rfl hnil hbs ?d1 hsz ?_)
    case d1 => simp; omega
    intro v3 w3 ho3 hg3
    have hbel3 : Below w.heap.size w w3 := hb1.trans (Below.of_grown ho1 hg3 hsz)
    clear hg3
    go_wp2
    go_ret
    exact ⟨_, rfl, ho3, hbel3⟩

theorem or_join (x c k : Nat) (hx : x < 2 ^ k) : x ||| c * 2 ^ k = x + c * 2 ^ k := by
  rw [Nat.or_comm, nat_join k (c * 2 ^ k) x (by simp) hx, Nat.add_comm]

theorem pow_small (k c : Nat) (hk : k < 4) (hc : c < 256) : c * 2 ^ (8 * k) < 4294967296 ∧ c * 2 ^ (8 * k) < 2 ^ (8 * (k + 1)) := by
  rcases k with _ | _ | _ | _ | k <;> omega

theorem word_or (k x c : Nat) (hk : k < 4) (hx : x < 2 ^ (8 * k)) (hc : c < 256) : bits .or .u32 (x : Int) ((c : Int) * 2 ^ (8 * k) % 4294967296) = ((x + c * 2 ^ (8 * k) : Nat) : Int) ∧ x + c * 2 ^ (8 * k) < 2 ^ (8 * (k + 1)) := by
  have h1 := (pow_small k c hk hc).1
  have h3 : x < 4294967296 := by rcases k with _ | _ | _ | _ | k <;> omega
  have e : (c : Int) * 2 ^ (8 * k) % 4294967296 = ((c * 2 ^ (8 * k) : Nat) : Int) := by
    have e1 : ((c * 2 ^ (8 * k) : Nat) : Int) = (c : Int) * 2 ^ (8 * k) := by simp
    rw [← e1]; omega
  rw [e, u32_or_nat _ _ h3 h1, or_join _ _ _ hx]
  refine ⟨rfl, ?_⟩
  rcases k with _ | _ | _ | _ | k <;> omega

theorem bword_step (zs : List Int) (k : Nat) (hk : k < 4) : bword (zs.take (k + 1)) = bword (zs.take k) + (zs.getD k 0).toNat * 2 ^ (8 * k) := by
  unfold bword
  have e : ∀ i q : Nat, (zs.take q).getD i 0 = if i < q then zs.getD i 0 else 0 := fun i q => by
    rw [List.getD_eq_getElem?_getD, List.getElem?_take]
    split
    · rw [List.getD_eq_getElem?_getD]
    · rfl
  simp only [e]
  rcases k with _ | _ | _ | _ | k
  · simp
  · simp; omega
  · simp; omega
  · simp; omega
  · omega

set_option maxRecDepth 100000 in
set_option maxHeartbeats 400000 in
theorem word_any (a : Option Addr) (m ca : Nat) (zs : List Int) (w : World) (ha : Bs w a m zs) (h4 : 4 ≤ m) (hca : m ≤ ca) :
    Calls Try.prog 33 #[.slice a m ca] w fun e w' => e = .returned (.int .u32 ((bword zs : Nat) : Int)) ∧ w' = w := by
  obtain ⟨a1, a2, a3⟩ := ha
  have A1 : Hid (zs.length = m) := a1
  have A2 : Hid (∀ z ∈ zs, 0 ≤ z ∧ z ≤ 255) := a2
  clear a1 a2
  go_enter Try.func33, Try.ntmps33
  go_wp2
  go_loop [3, 9] (fun s i => ∃ k x : Nat, i = .int .i64 (k : Int) ∧ k ≤ 4 ∧ s = .int .u32 (x : Int) ∧ x < 2 ^ (8 * k) ∧ x = bword (zs.take k)) (fun s i => 4 - (intOf i).toNat)
  case atStart => exact ⟨0, 0, rfl, by omega, rfl, by simp, by simp [bword]⟩
  case round =>
    obtain ⟨k, x, rfl, hk, rfl, hx, he⟩ := hrel
    have HE : Hid (x = bword (zs.take k)) := he
    have HX : Hid (x < 2 ^ (8 * k)) := hx
    clear he hx
    by_cases hlt : k < 4
    · rcases a3 with a3 | ⟨ba, oa, rfl, hba, hcs⟩
      · omega
      obtain ⟨hz0, hz1⟩ := getD_wf A2.out k
      obtain ⟨c, hc⟩ : ∃ c : Nat, (c : Int) = zs.getD k 0 := ⟨(zs.getD k 0).toNat, by omega⟩
      have hcell : w.cell? ⟨ba, oa + k, none⟩ = some (.int .u8 (c : Int)) := by rw [hc]; exact hcs k (by omega)
      have HC : Hid ((c : Int) = zs.getD k 0) := hc
      have hc256 : c < 256 := by omega
      clear hcs hz0 hz1 hc
      obtain ⟨W1, W2⟩ := word_or k x c hlt HX.out hc256
      have HW : Hid (x + c * 2 ^ (8 * k) = bword (zs.take (k + 1))) := by rw [bword_step zs k hlt, ← HE.out, ← HC.out, Int.toNat_natCast]; exact rfl
      have HV : Hid (x + c * 2 ^ (8 * k) < 2 ^ (8 * (k + 1))) := W2
      have HU : Hid (bits .or .u32 (x : Int) ((c : Int) * 2 ^ (8 * k) % 4294967296) = ((x + c * 2 ^ (8 * k) : Nat) : Int)) := W1
      clear W1 W2
      go_wp2
      refine ⟨⟨k + 1, x + c * 2 ^ (8 * k), by go_num, by omega, by rw [HU.out], HV.out, HW.out⟩, ?_⟩
      simp [intOf]; omega
    · go_wp2
      go_ret
      refine ⟨?_, rfl⟩
      rw [HE.out, show k = 4 by omega, bword_take _ _ (Nat.le_refl _)]
      rfl
end Go.Proofs.Ytfcckekinlobjaa
