/-
  Rows of slices of bytes as lists of pieces; what soritesref04.Same returns of two rows with the same bytes.
-/
import Derived.Test.YtfcckekinlobjaaFrMath
import Derived.Deep.QuietTactic
import Derived.BigQuiet
namespace Go.Proofs.Ytfcckekinlobjaa
open Go.RowKit
set_option linter.unusedVariables false

/-- At a lie slices of bytes, one behind the other. -/
def Vs (w : World) (a : Option Addr) (ps : List Piece) : Prop := Cs w a (ps.map Piece.v) ∧ ∀ p ∈ ps, p.ok w

theorem Vs.below {B : Nat} {w w' : World} {a : Option Addr} {ps : List Piece} (h : Vs w a ps) (hb : Below B w w') (hB : w.heap.size ≤ B) : Vs w' a ps :=
  ⟨h.1.below hb hB, fun p hp => ⟨(h.2 p hp).1, (h.2 p hp).2.1.below hb hB, (h.2 p hp).2.2⟩⟩

theorem Vs.take {w : World} {a : Option Addr} {ps : List Piece} (h : Vs w a ps) (k : Nat) : Vs w a (ps.take k) :=
  ⟨by rw [List.map_take]; exact h.1.take k, fun p hp => h.2 p (List.mem_of_mem_take hp)⟩

theorem Vs.drewN {w : World} {a : Option Addr} {ps : List Piece} (h : Vs w a ps) (k : Nat) : Vs (w.drewN k) a ps := h

theorem Vs.at {w : World} {a : Option Addr} {ps : List Piece} (h : Vs w a ps) {k : Nat} (hk : k < ps.length) : ∃ b off, a = some ⟨b, off, none⟩ ∧ b < w.heap.size ∧ w.cell? ⟨b, off + k, none⟩ = some (ps[k]'hk).v ∧ (ps[k]'hk).ok w := by
  rcases h.1 with e | ⟨b, off, rfl, hb, hc⟩
  · have := congrArg List.length e
    rw [List.length_map, List.length_nil] at this
    omega
  · have := hc k (by rw [List.length_map]; exact hk)
    rw [List.getElem?_map, List.getElem?_eq_getElem hk, Option.map_some] at this
    exact ⟨b, off, rfl, hb, this, h.2 _ (List.getElem_mem hk)⟩

/-- What came in. -/
theorem vs_of_rs {w : World} {a : Option Addr} {m : Nat} {A : Nat → Option Addr} {L C : Nat → Nat} {R : Nat → List Int} (h : Rs w a m A L C R) : ∃ ps : List Piece, ps.length = m ∧ Vs w a ps := by
  refine ⟨(List.range m).map fun i => ⟨A i, L i, C i, R i⟩, by simp, ?_, ?_⟩
  · rcases h.2 with rfl | ⟨b, off, rfl, hb, hc⟩
    · exact .inl rfl
    · refine .inr ⟨b, off, rfl, hb, fun i hi => ?_⟩
      have hi' : i < m := by simpa using hi
      rw [hc i hi']
      simp [hi', Piece.v]
  · intro p hp
    obtain ⟨i, hi, rfl⟩ := List.mem_map.1 hp
    exact h.1 i (List.mem_range.1 hi)

/-- What All has returned. -/
theorem vs_of_all {w : World} {base : Nat} {v : Value} {xs : List Rc} (h : w.ownsRow base 22 1 v xs.length (xs.map Rc.v)) (hok : ∀ x ∈ xs, x.ok w) :
    ∃ a c, v = .slice a xs.length c ∧ xs.length ≤ c ∧ Vs w a (xs.map Rc.piece) := by
  obtain ⟨a, c, h1, h2, _, _, h4⟩ := ownsRow_cs h
  refine ⟨a, c, h1, h2, ?_, ?_⟩
  · rw [List.map_map]; exact h4
  · intro p hp
    obtain ⟨x, hx, rfl⟩ := List.mem_map.1 hp
    exact (hok x hx).1

set_option maxRecDepth 100000 in
set_option maxHeartbeats 800000 in
theorem sameL_yes (a b : Option Addr) (n ca cb : Nat) (ps qs : List Piece) (w : World) (hn : n = ps.length) (ha : Vs w a ps) (hb : Vs w b qs) (hz : ps.map Piece.zs = qs.map Piece.zs) (hl : n ≤ 1000000) (hs : ∀ p ∈ ps, p.n ≤ 1000000) :
    Calls Try.prog 13 #[.slice a n ca, .slice b n cb] w fun e w' => e = .returned (.bool true) ∧ Below w.heap.size w w' := by
  have hq : n = qs.length := by rw [hn, ← List.length_map (f := Piece.zs), hz, List.length_map]
  have HN : Hid (n = ps.length ∧ n = qs.length) := ⟨hn, hq⟩
  clear hn hq
  go_enter Try.func13, Try.ntmps13
  go_wp2
  go_loopw [5] (fun i wr => ∃ k : Nat, i = .int .i64 (k : Int) ∧ k ≤ n ∧ Vs wr a ps ∧ Vs wr b qs ∧ Below w.heap.size w wr) (fun i _ => n - (intOf i).toNat)
  case atStart => exact ⟨0, rfl, by omega, ha, hb, Below.refl _ _⟩
  case round =>
    clear ha hb
    obtain ⟨k, rfl, hk, ha, hb, hbel⟩ := hrel
    by_cases hlt : k < n
    · have hkp : k < ps.length := by have := HN.out; omega
      have hkq : k < qs.length := by have := HN.out; omega
      obtain ⟨b1, o1, rfl, hb1, d1, k1⟩ := ha.at hkp
      obtain ⟨b2, o2, rfl, hb2, d2, k2⟩ := hb.at hkq
      have hzk : (ps[k]'hkp).zs = (qs[k]'hkq).zs := by
        have := congrArg (fun l => l[k]?) hz
        simp only [List.getElem?_map, List.getElem?_eq_getElem hkp, List.getElem?_eq_getElem hkq, Option.map_some, Option.some.injEq] at this
        exact this
      have hpn := hs _ (List.getElem_mem hkp)
      obtain ⟨p, hp⟩ : ∃ p, p = ps[k]'hkp := ⟨_, rfl⟩
      obtain ⟨q, hq⟩ : ∃ q, q = qs[k]'hkq := ⟨_, rfl⟩
      rw [← hp] at d1 k1 hzk hpn
      rw [← hq] at d2 k2 hzk
      obtain ⟨pa, pn, pc, pz⟩ := p
      obtain ⟨qa, qn, qc, qz⟩ := q
      have hzz : pz = qz := hzk
      subst hzz
      have d1' : wr.cell? ⟨b1, o1 + k, none⟩ = some (.slice pa pn pc) := d1
      have d2' : wr.cell? ⟨b2, o2 + k, none⟩ = some (.slice qa qn qc) := d2
      have e1 : Bs wr pa pn pz := k1.2.1
      have e2 : Bs wr qa qn pz := k2.2.1
      have hpn' : pn ≤ 1000000 := hpn
      have hqn : qn = pn := by rw [← e1.1, ← e2.1]
      subst hqn
      have HC : Hid (∀ m, Calls Try.prog 9 #[.slice pa qn pc, .slice qa qn qc] (wr.drewN m) fun e w' => e = .returned (.bool true) ∧ ∃ k, w' = (wr.drewN m).drewN k) := fun m => by
        have := same_any pa qa qn qn pc qc pz pz (wr.drewN m) (e1.drewN m) (e2.drewN m) (by omega) (by omega)
        rw [show decide (pz = pz) = true from by simp] at this
        exact this
      clear d1 d2 k1 k2 hzk hpn hp hq e1 e2 hkp hkq
      go_wp2_with fail
      go_quiet (first | (go_at_call 9; exact Calls.quiet_of (HC.out _)))
      go_wp2
      go_roundw
      case rel => exact ⟨k + 1, by go_num, by omega, ha.drewN _, hb.drewN _, below_drewN hbel _⟩
      case measure => simp [intOf]; omega
    · go_wp2
      go_ret
      exact ⟨rfl, hbel⟩
end Go.Proofs.Ytfcckekinlobjaa
