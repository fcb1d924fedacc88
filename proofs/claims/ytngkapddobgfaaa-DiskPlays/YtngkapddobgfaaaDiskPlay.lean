/-
  What a call of a law's list does to the disk, and whether calls are more than are looked at.
-/
import Derived.Test.YtngkapddobgfaaaDiskOpen
namespace Go.Proofs.Ytngkapddobgfaaa
open Go.RowKit Go.Maps
set_option linter.unusedVariables false

theorem As.at {w : World} {a : Option Addr} {n c : Nat} {rs : List ARef} (h : As w a n c rs) {k : Nat} (hk : k < n) : ∃ b off r, a = some ⟨b, off, none⟩ ∧ rs[k]? = some r ∧ r.inn w ∧ b < w.heap.size ∧ ∀ j, j < 6 → w.cell? ⟨b, off + k * 6 + j, none⟩ = r.cells[j]? := by
  obtain ⟨h1, h2, h3, h4, h5, h6⟩ := h
  have hkl : k < rs.length := by omega
  rcases h5 with h5 | ⟨b, off, ha, hlt, hc⟩
  · have := acells_length rs
    rw [h5] at this
    simp at this
    omega
  · refine ⟨b, off, rs[k], ha, List.getElem?_eq_getElem hkl, h6 _ (List.getElem_mem hkl), hlt, fun j hj => ?_⟩
    rw [Nat.add_assoc, hc (k * 6 + j) (by rw [acells_length]; omega), acells_at rs k rs[k] (List.getElem?_eq_getElem hkl) j hj]

theorem ARef.inn.below {B : Nat} {w w' : World} {r : ARef} (h : r.inn w) (hb : Below B w w') (hB : w.heap.size ≤ B) : r.inn w' :=
  ⟨h.1.below hb hB, h.2.1, h.2.2.1, h.2.2.2.1, h.2.2.2.2.1, fun x hx h0 => Nat.lt_of_lt_of_le (h.2.2.2.2.2 x hx h0) hb.size⟩

/-- More than is looked at. -/
def farA (r : ARef) : Bool := decide (200 < r.n) || decide (60 < r.name.size) || decide (60 < r.to.size) || decide (r.kind < 0) || decide (8 < r.kind)
def farF (rs : List ARef) : Bool := decide (60 < rs.length) || rs.any farA

set_option maxRecDepth 100000 in
set_option maxHeartbeats 1000000 in
theorem far_any (a : Option Addr) (n c : Nat) (rs : List ARef) (w : World) (h : As w a n c rs) : Calls Try.prog 10 #[.slice a n c] w fun e w' => e = .returned (.bool (farF rs)) ∧ w' = w := by
  have hn := h.1
  have hnl := h.2.2.1
  unfold maxLen at hnl
  by_cases h60 : 60 < n
  · have HF : Hid (farF rs = true) := by
      have : farF rs = true := by unfold farF; rw [decide_eq_true (by omega)]; rfl
      exact this
    rw [HF.out]
    clear hn
    go_enter Try.func10, Try.ntmps10
    go_wp2
    go_ret
    exact ⟨rfl, rfl⟩
  · have HN : Hid (n = rs.length) := hn
    clear hn
    go_enter Try.func10, Try.ntmps10
    go_wp2
    go_loop [3] (fun i => ∃ k : Nat, i = .int .i64 (k : Int) ∧ k ≤ n ∧ ∀ r ∈ rs.take k, farA r = false) (fun i => n - (intOf i).toNat)
    case atStart => exact ⟨0, rfl, by omega, by simp⟩
    case round =>
      obtain ⟨k, rfl, hk, hall⟩ := hrel
      by_cases hlt : k < n
      · obtain ⟨b, off, r, rfl, hr, hinn, hb, hc⟩ := h.at hlt
        have d0 : w.cell? ⟨b, off + k * 6, none⟩ = some (.int .i64 r.kind) := hc 0 (by omega)
        have d1 : w.cell? ⟨b, off + k * 6 + 1, none⟩ = some (.string r.name) := hc 1 (by omega)
        have d2 : w.cell? ⟨b, off + k * 6 + 2, none⟩ = some (.string r.to) := hc 2 (by omega)
        have d3 : w.cell? ⟨b, off + k * 6 + 3, none⟩ = some (.slice r.a r.n r.c) := hc 3 (by omega)
        have HR : Hid (rs[k]? = some r) := hr
        have hrm : r ∈ rs := List.mem_of_getElem? hr
        have HY : Hid (farA r = true → farF rs = true) := fun e => by unfold farF; rw [List.any_eq_true.2 ⟨r, hrm, e⟩, Bool.or_true]
        have HNo : Hid (farA r = false → ∀ x ∈ rs.take (k + 1), farA x = false) := fun e x hx => by
          rw [List.take_succ_eq_append_getElem (by have := HN.out; omega)] at hx
          rcases List.mem_append.1 hx with h1 | h1
          · exact hall x h1
          · have h2 : x = rs[k]'(by have := HN.out; omega) := by simpa using h1
            have h3 := HR.out
            rw [List.getElem?_eq_getElem (by have := HN.out; omega)] at h3
            cases h3
            rw [h2]; exact e
        clear h hr hc hinn hrm hall
        by_cases q1 : 200 < r.n
        · have HE : Hid (farA r = true) := by
            have : farA r = true := by unfold farA; simp [q1]
            exact this
          go_wp2
          go_ret
          exact ⟨by rw [HY.out HE.out]; rfl, rfl⟩
        by_cases q2 : 60 < r.name.size
        · have HE : Hid (farA r = true) := by
            have : farA r = true := by unfold farA; simp [q2]
            exact this
          go_wp2
          go_ret
          exact ⟨by rw [HY.out HE.out]; rfl, rfl⟩
        by_cases q3 : 60 < r.to.size
        · have HE : Hid (farA r = true) := by
            have : farA r = true := by unfold farA; simp [q3]
            exact this
          go_wp2
          go_ret
          exact ⟨by rw [HY.out HE.out]; rfl, rfl⟩
        by_cases q4 : r.kind < 0
        · have HE : Hid (farA r = true) := by
            have : farA r = true := by unfold farA; simp [q4]
            exact this
          go_wp2
          go_ret
          exact ⟨by rw [HY.out HE.out]; rfl, rfl⟩
        by_cases q5 : 8 < r.kind
        · have HE : Hid (farA r = true) := by
            have : farA r = true := by unfold farA; simp [q5]
            exact this
          go_wp2
          go_ret
          exact ⟨by rw [HY.out HE.out]; rfl, rfl⟩
        have HE : Hid (farA r = false) := by
          have : farA r = false := by unfold farA; simp [q1, q2, q3, q4, q5]
          exact this
        go_wp2
        refine ⟨⟨k + 1, by go_num, by omega, HNo.out HE.out⟩, ?_⟩
        simp [intOf]; omega
      · have HF : Hid (farF rs = false) := by
          have : farF rs = false := by
            unfold farF
            rw [decide_eq_false (by have := HN.out; omega), Bool.false_or, List.any_eq_false]
            intro x hx
            rw [hall x (by rw [List.take_of_length_le (by have := HN.out; omega)]; exact hx)]
            simp
          exact this
        go_wp2
        go_ret
        exact ⟨by rw [HF.out]; rfl, rfl⟩
end Go.Proofs.Ytngkapddobgfaaa
