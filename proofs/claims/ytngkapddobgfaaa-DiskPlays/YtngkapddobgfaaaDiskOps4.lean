/-
  What New, Up, Waits, Deeds, Used, Arm, Sync and Read return, and what they leave.
-/
import Derived.Test.YtngkapddobgfaaaDiskOps3
namespace Go.Proofs.Ytngkapddobgfaaa
open Go.RowKit Go.Maps
set_option linter.unusedVariables false

def newS (room : Nat) : St := ⟨room, [], [], 0, 0, false⟩

set_option maxRecDepth 100000 in
set_option maxHeartbeats 400000 in
theorem new_any (room : Int) (w : World) (h0 : 0 ≤ room) (h1 : room ≤ 1073741824) :
    Calls Try.prog 11 #[.int .i64 room] w fun e w' => e = .returned (.tuple #[.pointer (some ⟨w.heap.size, 0, none⟩), .int .u8 0]) ∧ Dk w' (fun i => i = w.heap.size) w.heap.size (newS room.toNat) ∧ Below w.heap.size w w' := by
  obtain ⟨R, rfl⟩ := Int.eq_ofNat_of_zero_le h0
  go_enter Try.func11, Try.ntmps11
  go_wp2
  go_ret2
  refine ⟨rfl, ⟨none, [], .slice none 0 0, [], { blk := heap_alloc_new w _, last := .inl ⟨rfl, rfl⟩, files := rfl, row := World.ownsRow_nil _ _ _ _, acts := rfl, tails := by simp, apart := by simp, run := ⟨List.Pairwise.nil, by simp [newS], Nat.zero_le _⟩, room := by simp [newS]; omega, deeds := Nat.zero_le _, armed := by simp [newS] }, fun i hi => ?_, fun i hi => by simp at hi ⊢; omega⟩, (Below.refl _ _).alloc (Nat.le_refl _) _⟩
  rcases hi with e | e | ⟨x, hx, _⟩ | e | ⟨x, hx, _⟩
  · exact e
  · cases e
  · simp at hx
  · cases e
  · simp at hx

set_option maxRecDepth 100000 in
set_option maxHeartbeats 400000 in
theorem new_bad (room : Int) (w : World) (h : room < 0 ∨ 1073741824 < room) :
    Calls Try.prog 11 #[.int .i64 room] w fun e w' => e = .returned (.tuple #[.pointer none, .int .u8 1]) ∧ w' = w := by
  rcases h with h | h
  · go_enter Try.func11, Try.ntmps11
    go_wp2
    go_ret2
    exact ⟨rfl, rfl⟩
  · have h2 : ¬ room < 0 := by omega
    go_enter Try.func11, Try.ntmps11
    go_wp2
    go_ret2
    exact ⟨rfl, rfl⟩

set_option maxRecDepth 100000 in
set_option maxHeartbeats 400000 in
theorem up_any (S : Nat → Prop) (p : Nat) (st : St) (w : World) (h : Dk w S p st) : Calls Try.prog 15 #[.pointer (some ⟨p, 0, none⟩)] w fun e w' => e = .returned (.bool (!st.down)) ∧ w' = w := by
  obtain ⟨lm, E, v, rs, hD, hS, hSl⟩ := h
  obtain ⟨c0, c1, c2, c3, c4, c5⟩ := hD.cells
  go_enter Try.func15, Try.ntmps15
  go_wp2
  go_ret
  exact ⟨rfl, rfl⟩

set_option maxRecDepth 100000 in
set_option maxHeartbeats 400000 in
theorem waits_any (S : Nat → Prop) (p : Nat) (st : St) (w : World) (h : Dk w S p st) : Calls Try.prog 16 #[.pointer (some ⟨p, 0, none⟩)] w fun e w' => e = .returned (.int .i64 (st.waits.length : Int)) ∧ w' = w := by
  obtain ⟨lm, E, v, rs, hD, hS, hSl⟩ := h
  obtain ⟨c0, c1, c2, c3, c4, c5⟩ := hD.cells
  obtain ⟨va, vc, hv⟩ : ∃ va vc, v = .slice va rs.length vc := by
    obtain ⟨a, c, e, _⟩ := ownsRow_cs hD.row
    exact ⟨a, c, e⟩
  rw [hv] at c2
  have HL : Hid (st.waits.length = rs.length) := by
    have : st.waits.length = rs.length := by rw [← hD.acts, List.length_map]
    exact this
  clear hv
  go_enter Try.func16, Try.ntmps16
  go_wp2
  go_ret
  exact ⟨by rw [HL.out]; rfl, rfl⟩

set_option maxRecDepth 100000 in
set_option maxHeartbeats 400000 in
theorem deeds_any (S : Nat → Prop) (p : Nat) (st : St) (w : World) (h : Dk w S p st) : Calls Try.prog 17 #[.pointer (some ⟨p, 0, none⟩)] w fun e w' => e = .returned (.int .i64 (st.deeds : Int)) ∧ w' = w := by
  obtain ⟨lm, E, v, rs, hD, hS, hSl⟩ := h
  obtain ⟨c0, c1, c2, c3, c4, c5⟩ := hD.cells
  go_enter Try.func17, Try.ntmps17
  go_wp2
  go_ret
  exact ⟨rfl, rfl⟩

set_option maxRecDepth 100000 in
set_option maxHeartbeats 400000 in
theorem used_any (S : Nat → Prop) (p : Nat) (st : St) (w : World) (h : Dk w S p st) (hd : st.deeds ≤ 1099511627776) :
    Calls Try.prog 25 #[.pointer (some ⟨p, 0, none⟩)] w fun e w' => e = .returned (.int .i64 ((usedF (seenF st) : Nat) : Int)) ∧ Stays w S p st w' := by
  obtain ⟨lm, E, v, rs, hD, hS, hSl⟩ := h
  have hu := hD.run.fold.2.2
  have hr := hD.room
  have hseen := seen_any p lm E v rs st w hD hd
  have HU : Hid (usedF (foldF st.last st.waits) ≤ st.room) := hu
  clear hu
  go_enter Try.func25, Try.ntmps25
  go_wp2_with fail
  refine hseen.mono ?_
  rintro e w1 ⟨m, E', rfl, hsaw⟩
  have hsz := size_any m E' w1 hsaw.2.1 (by rw [hsaw.2.2.1]; have := HU.out; unfold seenF; omega)
  rw [hsaw.2.2.1] at hsz
  go_wp2_with fail
  refine hsz.mono ?_
  rintro e w2 ⟨rfl, hb2⟩
  go_wp2
  go_ret
  exact ⟨rfl, Stays.saw hD hS hSl (Kp.refl _ _) (hsaw.more (Kp.of_below hb2))⟩

def armF (st : St) (n : Int) : St := { st with armed := n.toNat }

set_option maxRecDepth 100000 in
set_option maxHeartbeats 400000 in
theorem arm_any (S : Nat → Prop) (p : Nat) (st : St) (n : Int) (w : World) (h : Dk w S p st) (hn : n ≤ 9223372036854775807) :
    Calls Try.prog 24 #[.pointer (some ⟨p, 0, none⟩), .int .i64 n] w fun e w' => e = .returned (.tuple #[]) ∧ Goes w S p (armF st n) w' := by
  obtain ⟨lm, E, v, rs, hD, hS, hSl⟩ := h
  obtain ⟨c0, c1, c2, c3, c4, c5⟩ := hD.cells
  have f4 := hD.free 4
  have hfin : ∀ N : Nat, (N : Int) ≤ 9223372036854775807 → Goes w S p { st with armed := N } (w.setCell ⟨p, 4, none⟩ (.int .i64 (N : Int))) := fun N hN => by
    have hk : Kp (fun i => i = p) w (w.setCell ⟨p, 4, none⟩ (.int .i64 (N : Int))) := kp_p1 _ _ _ _
    exact Goes.intro (hD.turn hk (fun i _ e => e) { st with armed := N } (heap_setCell_same _ p 4 _ _ _ hD.blk) rfl rfl rfl (Nat.le_refl _) (by simp only; omega)) (fun i hi => .inl (hS i hi)) (hk.mono (fun i _ e => hS i (.inl e)))
  have HF : Hid (∀ N : Nat, (N : Int) ≤ 9223372036854775807 → Goes w S p { st with armed := N } (w.setCell ⟨p, 4, none⟩ (.int .i64 (N : Int)))) := hfin
  clear hfin
  by_cases h0 : n < 0
  · have HE : Hid (armF st n = { st with armed := 0 }) := by
      have : armF st n = { st with armed := 0 } := by unfold armF; rw [Int.toNat_of_nonpos (by omega)]
      exact this
    go_enter Try.func24, Try.ntmps24
    go_wp2
    go_end0
    exact ⟨rfl, by rw [HE.out]; exact HF.out 0 (by omega)⟩
  · obtain ⟨N, rfl⟩ := Int.eq_ofNat_of_zero_le (show 0 ≤ n by omega)
    go_enter Try.func24, Try.ntmps24
    go_wp2
    go_end0
    exact ⟨rfl, HF.out N hn⟩

def syncE (st : St) : Int := if st.down then 3 else countE st
def syncS (st : St) : St := if st.down then st else if st.armed = 1 then countF st else settleF (countF st)

set_option maxRecDepth 100000 in
set_option maxHeartbeats 400000 in
theorem sync_any (S : Nat → Prop) (p : Nat) (st : St) (w : World) (h : Dk w S p st) (hd : st.deeds < 1099511627776) :
    Calls Try.prog 20 #[.pointer (some ⟨p, 0, none⟩)] w fun e w' => e = .returned (.int .u8 (syncE st)) ∧ Goes w S p (syncS st) w' := by
  obtain ⟨lm, E, v, rs, hD, hS, hSl⟩ := h
  have href : Calls Try.prog 38 #[.pointer (some ⟨p, 0, none⟩), .slice none 0 0] w fun e w' => e = .returned (.int .u8 (refuseE st [])) ∧ w' = w := refuse_any p lm E v rs st none 0 [] w hD (Cs.nil _ _) (by simp) (by simp)
  cases hdn : st.down with
  | true =>
    rw [show refuseE st [] = 3 by unfold refuseE; rw [hdn]; rfl] at href
    have HG : Hid (syncE st = 3 ∧ syncS st = st) := ⟨by unfold syncE; rw [hdn]; rfl, by unfold syncS; rw [hdn]; rfl⟩
    rw [HG.out.1, HG.out.2]
    clear hdn
    go_enter Try.func20, Try.ntmps20
    go_wp2_with fail
    refine href.mono ?_
    rintro e w1 ⟨rfl, rfl⟩
    go_wp2
    go_ret
    exact ⟨rfl, Goes.same ⟨lm, E, v, rs, hD, hS, hSl⟩ (Kp.refl _ _)⟩
  | false =>
    rw [show refuseE st [] = 0 by unfold refuseE; rw [hdn]; rfl] at href
    have hcnt := count_any p lm E v rs st w hD (by omega)
    by_cases h1 : st.armed = 1
    · have HG : Hid (syncE st = 3 ∧ syncS st = countF st) := ⟨by unfold syncE countE; rw [hdn, if_pos h1]; rfl, by unfold syncS; rw [hdn, if_pos h1]; rfl⟩
      rw [show countE st = 3 by unfold countE; rw [if_pos h1]] at hcnt
      rw [HG.out.1, HG.out.2]
      clear hdn h1
      go_enter Try.func20, Try.ntmps20
      go_wp2_with fail
      refine href.mono ?_
      rintro e w1 ⟨rfl, rfl⟩
      go_wp2_with fail
      refine hcnt.mono ?_
      rintro e w2 ⟨rfl, hD2, hk2⟩
      go_wp2
      go_ret
      exact ⟨rfl, Goes.intro hD2 (fun i hi => .inl (hS i hi)) (hk2.mono (fun i _ e => hS i (.inl e)))⟩
    · have HG : Hid (syncE st = 0 ∧ syncS st = settleF (countF st)) := ⟨by unfold syncE countE; rw [hdn, if_neg h1]; rfl, by unfold syncS; rw [hdn, if_neg h1]; rfl⟩
      rw [show countE st = 0 by unfold countE; rw [if_neg h1]] at hcnt
      have hdc : (countF st).deeds ≤ 1099511627776 := by unfold countF; rw [if_neg h1]; simp only; omega
      rw [HG.out.1, HG.out.2]
      clear hdn h1
      go_enter Try.func20, Try.ntmps20
      go_wp2_with fail
      refine href.mono ?_
      rintro e w1 ⟨rfl, rfl⟩
      go_wp2_with fail
      refine hcnt.mono ?_
      rintro e w2 ⟨rfl, hD2, hk2⟩
      go_wp2_with fail
      refine (settle_any p lm E v rs (countF st) w2 hD2 hdc).mono ?_
      rintro e w3 ⟨rfl, m, E', hD3, hm3, hb3, hk3⟩
      go_wp2
      go_ret
      have hs2 := hk2.size
      refine ⟨rfl, Goes.intro hD3 (fun i hi => ?_) ((hk2.mono (S1 := S) (fun i _ e => hS i (.inl e))).trans hk3 (fun i _ e => ?_))⟩
      · rcases hi with e | e | ⟨x, hx, e⟩ | e | ⟨x, hx, e⟩
        · exact .inl (hS i (.inl e))
        · cases e; exact .inr (by omega)
        · rcases hb3 x hx i e with h9 | h9
          · exact .inr (by omega)
          · exact .inl (hS i (.inr (.inr (.inl h9))))
        · cases e
        · simp at hx
      · rcases e with e | e
        · exact hS i (.inl e)
        · exact hS i (.inr (.inr (.inl e)))

def readE (st : St) (nm : List UInt8) : Int := if st.down then 3 else if badN nm then 1 else if (getG (seenF st) nm).isSome then 0 else 5
def readB (st : St) (nm : List UInt8) : List Int := if readE st nm = 0 then bytesF (seenF st) nm else []

set_option maxRecDepth 100000 in
set_option maxHeartbeats 400000 in
theorem read_any (S : Nat → Prop) (p : Nat) (st : St) (nm : ByteArray) (w : World) (h : Dk w S p st) (hd : st.deeds ≤ 1099511627776) (hnm : nm.size ≤ maxLen) :
    Calls Try.prog 26 #[.pointer (some ⟨p, 0, none⟩), .string nm] w fun e w' => ∃ s : Sl, e = .returned (.tuple #[s.val, .int .u8 (readE st nm.toList)]) ∧ Fl w' s (readB st nm.toList) ∧ (∀ g, s.blk = some g → w.heap.size ≤ g) ∧ Stays w S p st w' := by
  obtain ⟨lm, E, v, rs, hD, hS, hSl⟩ := h
  have hk0 : Kp (fun _ => False) w (w.alloc (.cells #[.string nm] 9)) := (Kp.refl _ _).alloc _
  have hcs := Cs.new w [.string nm] 9
  obtain ⟨w0, hw0⟩ : ∃ w0, w0 = w.alloc (.cells #[.string nm] 9) := ⟨_, rfl⟩
  have hcs : Cs w0 (some ⟨w.heap.size, 0, none⟩) ([nm].map Value.string) := by rw [hw0]; exact hcs
  rw [← hw0] at hk0
  have hD0 := hD.same hk0
  have href := refuse_any p lm E v rs st (some ⟨w.heap.size, 0, none⟩) 1 [nm] w0 hD0 hcs (by simp) (by simp)
  have hseen := seen_any p lm E v rs st w0 hD0 hd
  have hw0' : w.alloc (.cells #[.string nm] 9) = w0 := hw0.symm
  clear hw0
  obtain ⟨c, hc⟩ : ∃ c, c = refuseE st ([nm].map ByteArray.toList) := ⟨_, rfl⟩
  rw [← hc] at href
  by_cases hc0 : c = 0
  · subst hc0
    obtain ⟨hdn, hbn⟩ : st.down = false ∧ badN nm.toList = false := by
      unfold refuseE at hc
      cases hdn : st.down
      · rw [hdn] at hc
        refine ⟨rfl, ?_⟩
        cases hb : badN nm.toList
        · rfl
        · simp [hb] at hc
      · rw [hdn] at hc; simp at hc
    cases hth : (getG (seenF st) nm.toList).isSome with
    | false =>
      have HG : Hid (readE st nm.toList = 5 ∧ readB st nm.toList = []) := by
        have : readE st nm.toList = 5 := by unfold readE; rw [hdn, hbn, hth]; rfl
        exact ⟨this, by unfold readB; rw [this]; rfl⟩
      rw [HG.out.1, HG.out.2]
      have HTH : Hid ((getG (seenF st) nm.toList).isSome = false) := hth
      clear hc hth hdn hbn
      go_enter Try.func26, Try.ntmps26
      go_wp2_with fail
      refine href.mono ?_
      rintro e w1 ⟨rfl, rfl⟩
      go_wp2_with fail
      refine hseen.mono ?_
      rintro e w2 ⟨m, E', rfl, hsaw⟩
      have hmp := hsaw.2.1
      have hg : (getG E' nm.toList).isSome = false := by
        have h5 := HTH.out
        rw [← hsaw.2.2.1, files_get, Option.isSome_map] at h5
        exact h5
      go_wp2_with (first | (at_lookup; refine wpList_at_sl_ok _ rfl _ _ rfl m E' rfl hmp nm rfl hnm ?_; rw [hg]))
      go_ret2
      exact ⟨⟨none, 0, 0⟩, rfl, Fl.nil _, (fun g hg => by cases hg), Stays.saw hD hS hSl hk0 hsaw⟩
    | true =>
      have HG : Hid (readE st nm.toList = 0 ∧ readB st nm.toList = bytesF (seenF st) nm.toList) := by
        have : readE st nm.toList = 0 := by unfold readE; rw [hdn, hbn, hth]; rfl
        exact ⟨this, by unfold readB; rw [this]; rfl⟩
      rw [HG.out.1, HG.out.2]
      have HTH : Hid ((getG (seenF st) nm.toList).isSome = true) := hth
      have hub : (bytesF (seenF st) nm.toList).length ≤ 1073741824 := by
        obtain ⟨b, hb⟩ := Option.isSome_iff_exists.1 hth
        have h5 := used_at hD.run.fold.1 hb
        have h6 := hD.run.fold.2.2
        have h7 := hD.room
        rw [bytes_get, hb]
        show b.length ≤ _
        unfold seenF at *
        omega
      have HUB : Hid ((bytesF (seenF st) nm.toList).length ≤ 1073741824) := hub
      clear hc hth hdn hbn hub
      go_enter Try.func26, Try.ntmps26
      go_wp2_with fail
      refine href.mono ?_
      rintro e w1 ⟨rfl, rfl⟩
      go_wp2_with fail
      refine hseen.mono ?_
      rintro e w2 ⟨m, E', rfl, hsaw⟩
      have hmp := hsaw.2.1
      have hg : (getG E' nm.toList).isSome = true := by
        have h5 := HTH.out
        rw [← hsaw.2.2.1, files_get, Option.isSome_map] at h5
        exact h5
      have hfl := hmp.flAt nm.toList
      have hzs : bytesF (seenF st) nm.toList = zsAt E' nm.toList := by rw [← hsaw.2.2.1, bytes_files]
      obtain ⟨sl, hsl⟩ : ∃ sl, sl = slAt E' nm.toList := ⟨_, rfl⟩
      obtain ⟨a0, n0, c0⟩ := sl
      have hv : (slAt E' nm.toList).val = .slice a0 n0 c0 := by rw [← hsl]; rfl
      rw [← hsl] at hfl
      have hclone := clone_any a0 n0 c0 (zsAt E' nm.toList) w2 hfl.le.2.2 hfl.bs (by have h5 := hfl.1; have h6 := HUB.out; rw [hzs] at h6; simp only at h5; omega)
      have HZ : Hid (bytesF (seenF st) nm.toList = zsAt E' nm.toList) := hzs
      have hs2 := hsaw.2.2.2.1.size
      have hk0s := hk0.size
      clear hsl hzs hfl
      go_wp2_with (first | (at_lookup; refine wpList_at_sl_ok _ rfl _ _ rfl m E' rfl hmp nm rfl hnm ?_; rw [hg, hv]) | (go_at_call 44; refine hclone.mono ?_; rintro e w4 ⟨⟨sa, sn, sc⟩, rfl, hfs, hbl, hb4⟩; unfold Sl.val; dsimp only))
      go_ret2
      exact ⟨⟨sa, sn, sc⟩, rfl, by rw [HZ.out]; exact hfs, fun g hg => by have := hbl g hg; omega, Stays.saw hD hS hSl hk0 (hsaw.more (Kp.of_below hb4))⟩
  · have HG : Hid (readE st nm.toList = c ∧ readB st nm.toList = []) := by
      have : readE st nm.toList = c := by
        rw [hc] at hc0 ⊢
        unfold refuseE at hc0 ⊢
        unfold readE
        cases hdn : st.down
        · rw [hdn] at hc0
          simp only [Bool.false_eq_true, if_false] at hc0 ⊢
          cases hbn : ([nm].map ByteArray.toList).any badN
          · rw [hbn] at hc0; simp at hc0
          · have h5 : badN nm.toList = true := by simpa using hbn
            simp [h5]
        · rfl
      exact ⟨this, by unfold readB; rw [this, if_neg hc0]⟩
    have t0 : (c == 0) = false := by simpa using hc0
    clear hc hseen hc0
    rw [HG.out.1, HG.out.2]
    go_enter Try.func26, Try.ntmps26
    go_wp2_with fail
    refine href.mono ?_
    rintro e w1 ⟨rfl, rfl⟩
    go_wp2
    go_ret2
    exact ⟨⟨none, 0, 0⟩, rfl, Fl.nil _, (fun g hg => by cases hg), Stays.same ⟨lm, E, v, rs, hD, hS, hSl⟩ hk0⟩
end Go.Proofs.Ytngkapddobgfaaa
