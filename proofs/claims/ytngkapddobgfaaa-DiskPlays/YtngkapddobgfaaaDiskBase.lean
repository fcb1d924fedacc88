/-
  What the disk's calls have in common: what is refused, what is counted, what waits.
-/
import Derived.Test.YtngkapddobgfaaaDiskSeen
namespace Go.Proofs.Ytngkapddobgfaaa
open Go.RowKit Go.Maps
set_option linter.unusedVariables false

theorem DkE.saw {w w' : World} {p : Nat} {lm : Option Nat} {E : Ents} {v : Value} {rs : List ARef} {st : St} {m : Nat} {E' : Ents} (h : DkE w p lm E v rs st) (hs : Saw w E st m E' w') : DkE w' p lm E v rs st :=
  h.kp hs.2.2.2.1 (fun i _ e => e) (fl_of_prA h.last.fl hs.2.2.2.2.1)
theorem DkE.same {w w' : World} {p : Nat} {lm : Option Nat} {E : Ents} {v : Value} {rs : List ARef} {st : St} (h : DkE w p lm E v rs st) (hk : Kp (fun _ => False) w w') : DkE w' p lm E v rs st :=
  h.kp hk (fun i _ e => e.elim) (fun e he => (h.last.fl e he).kp hk (fun _ _ e => e))

/-- The disk's own cells. -/
def pcells (lm : Option Nat) (v : Value) (st : St) : Array Value := #[.int .i64 (st.room : Int), .map lm, v, .int .i64 (st.deeds : Int), .int .i64 (st.armed : Int), .bool st.down]
theorem DkE.cells {w : World} {p : Nat} {lm : Option Nat} {E : Ents} {v : Value} {rs : List ARef} {st : St} (h : DkE w p lm E v rs st) :
    w.cell? ⟨p, 0, none⟩ = some (.int .i64 (st.room : Int)) ∧ w.cell? ⟨p, 1, none⟩ = some (.map lm) ∧ w.cell? ⟨p, 2, none⟩ = some v ∧ w.cell? ⟨p, 3, none⟩ = some (.int .i64 (st.deeds : Int)) ∧ w.cell? ⟨p, 4, none⟩ = some (.int .i64 (st.armed : Int)) ∧ w.cell? ⟨p, 5, none⟩ = some (.bool st.down) := by
  simp [World.cell?, h.blk]
theorem DkE.free {w : World} {p : Nat} {lm : Option Nat} {E : Ents} {v : Value} {rs : List ARef} {st : St} (h : DkE w p lm E v rs st) (j : Nat) : w.frozen? ⟨p, j, none⟩ = false := by
  simp [World.frozen?, h.blk]

/-- The disk's own cells have turned, and nothing else of the disk. -/
theorem DkE.turn {S : Nat → Prop} {w w' : World} {p : Nat} {lm : Option Nat} {E : Ents} {v : Value} {rs : List ARef} {st : St} (h : DkE w p lm E v rs st) (hk : Kp S w w') (hS : ∀ i, ftp p lm E v rs i → S i → i = p) (st' : St)
    (hb : w'.heap[p]? = some (.cells (pcells lm v st') 66 (0, 0))) (e1 : st'.room = st.room) (e2 : st'.last = st.last) (e3 : st'.waits = st.waits) (e4 : st.deeds ≤ st'.deeds) (e5 : st'.armed ≤ 9223372036854775807) : DkE w' p lm E v rs st' where
  blk := hb
  last := h.last.kp hk (fun b hlm e => by
    have hbp := hS b (.inr (.inl hlm)) e
    rcases h.last with ⟨h1, _⟩ | ⟨b', h1, h2⟩
    · rw [h1] at hlm; cases hlm
    · rw [hlm] at h1
      cases h1
      obtain ⟨es, clock, hm, _⟩ := h2.1
      rw [hbp, h.blk] at hm
      cases hm) (fun e he => (h.last.fl e he).kp hk (fun g hg e' => by
        have := hS g (.inr (.inr (.inl ⟨e, he, hg⟩))) e'
        subst this
        exact h.ne_p (h.last.fl e he) hg))
  files := by rw [e2]; exact h.files
  row := row_kp h.row hk (fun g hg e => by
    have := hS g (.inr (.inr (.inr (.inl hg)))) e
    subst this
    obtain ⟨cur2, hc2⟩ := row_is h.row hg
    rw [h.blk] at hc2
    injection hc2 with hc2
    injection hc2 with _ hc2
    revert hc2
    decide)
  acts := by rw [e3]; exact h.acts
  tails := fun r hr => (h.tails r hr).kp hk (fun g hg e => by
    have := hS g (.inr (.inr (.inr (.inr ⟨r, hr, hg⟩)))) e
    subst this
    exact h.ne_p (h.tails r hr) hg)
  apart := h.apart
  run := by rw [e1, e2, e3]; exact h.run
  room := by rw [e1]; exact h.room
  deeds := by rw [e3]; exact Nat.le_trans h.deeds e4
  armed := e5

theorem kp_p1 (w : World) (p j : Nat) (u : Value) : Kp (fun i => i = p) w (w.setCell ⟨p, j, none⟩ u) := (Kp.refl (fun i => i = p) w).setCell (p := ⟨p, j, none⟩) (fun _ => rfl) u
theorem kp_p2 (w : World) (p j k : Nat) (u v : Value) : Kp (fun i => i = p) w ((w.setCell ⟨p, j, none⟩ u).setCell ⟨p, k, none⟩ v) := (kp_p1 w p j u).setCell (p := ⟨p, k, none⟩) (fun _ => rfl) v

def countF (st : St) : St := if st.armed = 1 then { st with armed := 0, down := true } else { st with armed := st.armed - 1, deeds := st.deeds + 1 }
def countE (st : St) : Int := if st.armed = 1 then 3 else 0

set_option maxRecDepth 100000 in
set_option maxHeartbeats 400000 in
theorem count_any (p : Nat) (lm : Option Nat) (E : Ents) (v : Value) (rs : List ARef) (st : St) (w : World) (hD : DkE w p lm E v rs st) (hd : st.deeds ≤ 1099511627776) :
    Calls Try.prog 39 #[.pointer (some ⟨p, 0, none⟩)] w fun e w' => e = .returned (.int .u8 (countE st)) ∧ DkE w' p lm E v rs (countF st) ∧ Kp (fun i => i = p) w w' := by
  obtain ⟨c0, c1, c2, c3, c4, c5⟩ := hD.cells
  have f3 := hD.free 3
  have f4 := hD.free 4
  have f5 := hD.free 5
  have hbk := hD.blk
  have ha := hD.armed
  by_cases h1 : st.armed = 1
  · have HC : Hid (countF st = { st with armed := 0, down := true } ∧ countE st = 3) := ⟨by rw [countF, if_pos h1], by rw [countE, if_pos h1]⟩
    rw [h1] at c4
    go_enter Try.func39, Try.ntmps39
    go_wp2
    go_ret
    rw [HC.out.1, HC.out.2]
    have hk : Kp (fun i => i = p) w ((w.setCell ⟨p, 4, none⟩ (.int .i64 0)).setCell ⟨p, 5, none⟩ (.bool true)) := kp_p2 _ _ _ _ _ _
    exact ⟨rfl, hD.turn hk (fun i _ e => e) _ (heap_setCell_same _ p 5 _ _ _ (heap_setCell_same _ p 4 _ _ _ hbk)) rfl rfl rfl (Nat.le_refl _) (Nat.zero_le _), hk⟩
  · have HC : Hid (countF st = { st with armed := st.armed - 1, deeds := st.deeds + 1 } ∧ countE st = 0) := ⟨by rw [countF, if_neg h1], by rw [countE, if_neg h1]⟩
    have t1 : ((st.armed : Int) == 1) = false := by simp; omega
    go_enter Try.func39, Try.ntmps39
    go_wp2
    · go_ret
      rw [HC.out.1, HC.out.2]
      have hk : Kp (fun i => i = p) w ((w.setCell ⟨p, 4, none⟩ (.int .i64 0)).setCell ⟨p, 3, none⟩ (.int .i64 ((st.deeds : Int) + 1))) := kp_p2 _ _ _ _ _ _
      refine ⟨rfl, hD.turn hk (fun i _ e => e) _ ((heap_setCell_same _ p 3 _ _ _ (heap_setCell_same _ p 4 _ _ _ hbk)).trans ?_) rfl rfl rfl (Nat.le_succ _) (by simp only; omega), hk⟩
      have e0 : (0 : Int) = ((st.armed - 1 : Nat) : Int) := by omega
      have e1 : (st.deeds : Int) + 1 = ((st.deeds + 1 : Nat) : Int) := by omega
      rw [e1]
      simp [pcells]
      omega
    · go_ret
      rw [HC.out.1, HC.out.2]
      have hk : Kp (fun i => i = p) w ((w.setCell ⟨p, 4, none⟩ (.int .i64 ((st.armed : Int) - 1))).setCell ⟨p, 3, none⟩ (.int .i64 ((st.deeds : Int) + 1))) := kp_p2 _ _ _ _ _ _
      refine ⟨rfl, hD.turn hk (fun i _ e => e) _ ((heap_setCell_same _ p 3 _ _ _ (heap_setCell_same _ p 4 _ _ _ hbk)).trans ?_) rfl rfl rfl (Nat.le_succ _) (by simp only; omega), hk⟩
      have e1 : (st.deeds : Int) + 1 = ((st.deeds + 1 : Nat) : Int) := by omega
      rw [e1]
      simp [pcells]
      omega

/-- A name that can't be. -/
def badN (n : List UInt8) : Bool := decide (n.length < 1) || decide (16 < n.length)
/-- What is refused ahead of all else. -/
def refuseE (st : St) (names : List (List UInt8)) : Int := if st.down then 3 else if names.any badN then 1 else 0

set_option maxRecDepth 100000 in
set_option maxHeartbeats 400000 in
theorem refuse_nil (a : Option Addr) (n c : Nat) (w : World) : Calls Try.prog 38 #[.pointer none, .slice a n c] w fun e w' => e = .returned (.int .u8 2) ∧ w' = w := by
  go_enter Try.func38, Try.ntmps38
  go_wp2
  go_ret
  exact ⟨rfl, rfl⟩

set_option maxRecDepth 100000 in
set_option maxHeartbeats 400000 in
theorem refuse_any (p : Nat) (lm : Option Nat) (E : Ents) (v : Value) (rs : List ARef) (st : St) (a : Option Addr) (c : Nat) (ss : List ByteArray) (w : World) (h : DkE w p lm E v rs st) (hs : Cs w a (ss.map Value.string)) (hl : ss.length ≤ 1000) (hc : ss.length ≤ c) :
    Calls Try.prog 38 #[.pointer (some ⟨p, 0, none⟩), .slice a ss.length c] w fun e w' => e = .returned (.int .u8 (refuseE st (ss.map ByteArray.toList))) ∧ w' = w := by
  obtain ⟨c0, c1, c2, c3, c4, c5⟩ := h.cells
  cases hd : st.down with
  | true =>
    rw [hd] at c5
    go_enter Try.func38, Try.ntmps38
    go_wp2
    go_ret
    exact ⟨by rw [refuseE, hd]; rfl, rfl⟩
  | false =>
    rw [hd] at c5
    have HD : Hid (st.down = false) := hd
    clear hd
    go_enter Try.func38, Try.ntmps38
    go_wp2
    go_loop [15] (fun i => ∃ k : Nat, i = .int .i64 (k : Int) ∧ k ≤ ss.length ∧ ∀ s ∈ ss.take k, badN s.toList = false) (fun i => ss.length - (intOf i).toNat)
    case atStart => exact ⟨0, rfl, by omega, by simp⟩
    case round =>
      obtain ⟨k, rfl, hk, hall⟩ := hrel
      by_cases hlt : k < ss.length
      · rcases hs with e | ⟨b, off, rfl, hb, hcell⟩
        · have h5 := congrArg List.length e
          rw [List.length_map, List.length_nil] at h5
          omega
        · have hc1 := hcell k (by simpa using hlt)
          rw [List.getElem?_map, List.getElem?_eq_getElem hlt, Option.map_some] at hc1
          obtain ⟨s, hss⟩ : ∃ s, s = ss[k] := ⟨_, rfl⟩
          rw [← hss] at hc1
          have HS : Hid (s = ss[k]) := hss
          have hsz := size_list s
          clear hss hcell
          by_cases hb1 : s.size < 1
          · have HB : Hid (badN s.toList = true) := by
              have : badN s.toList = true := by unfold badN; rw [hsz, decide_eq_true hb1]; rfl
              exact this
            go_wp2
            go_ret
            refine ⟨?_, rfl⟩
            rw [refuseE, HD.out, List.any_eq_true.2 ⟨s.toList, List.mem_map.2 ⟨s, by rw [HS.out]; exact List.getElem_mem hlt, rfl⟩, HB.out⟩]
            rfl
          · by_cases hb2 : 16 < s.size
            · have HB : Hid (badN s.toList = true) := by
                have : badN s.toList = true := by unfold badN; rw [hsz, decide_eq_true hb2, Bool.or_true]
                exact this
              go_wp2
              go_ret
              refine ⟨?_, rfl⟩
              rw [refuseE, HD.out, List.any_eq_true.2 ⟨s.toList, List.mem_map.2 ⟨s, by rw [HS.out]; exact List.getElem_mem hlt, rfl⟩, HB.out⟩]
              rfl
            · have HB : Hid (badN s.toList = false) := by
                have : badN s.toList = false := by unfold badN; rw [hsz, decide_eq_false hb1, decide_eq_false hb2]; rfl
                exact this
              go_wp2
              refine ⟨⟨k + 1, by go_num, by omega, fun s' hs' => ?_⟩, ?_⟩
              · rw [List.take_succ_eq_append_getElem hlt] at hs'
                rcases List.mem_append.1 hs' with h1 | h1
                · exact hall s' h1
                · have : s' = ss[k] := by simpa using h1
                  rw [this, ← HS.out]
                  exact HB.out
              · simp [intOf]; omega
      · have HB : Hid ((ss.map ByteArray.toList).any badN = false) := by
          have : (ss.map ByteArray.toList).any badN = false := by
            rw [List.any_eq_false]
            intro x hx
            obtain ⟨s, hs', rfl⟩ := List.mem_map.1 hx
            rw [hall s (by rw [List.take_of_length_le (by omega)]; exact hs')]
            simp
          exact this
        go_wp2
        go_ret
        refine ⟨?_, rfl⟩
        rw [refuseE, HD.out, HB.out]
        rfl
end Go.Proofs.Ytngkapddobgfaaa
