/-
  What Remove, Rename and Cut return, and what they leave.
-/
import Derived.Test.YtngkapddobgfaaaDiskOps
namespace Go.Proofs.Ytngkapddobgfaaa
open Go.RowKit Go.Maps
set_option linter.unusedVariables false

set_option maxRecDepth 100000 in
set_option maxHeartbeats 400000 in
theorem remove_any (S : Nat → Prop) (p : Nat) (st : St) (nm : ByteArray) (w : World) (h : Dk w S p st) (hd : st.deeds ≤ 1099511627776) (hnm : nm.size ≤ maxLen) :
    Calls Try.prog 31 #[.pointer (some ⟨p, 0, none⟩), .string nm] w fun e w' => e = .returned (.int .u8 (doE st ⟨4, nm.toList, [], [], 0, 0⟩)) ∧ Goes w S p (doS st ⟨4, nm.toList, [], [], 0, 0⟩) w' := by
  obtain ⟨a, ha⟩ : ∃ a : ActL, a = ⟨4, nm.toList, [], [], 0, 0⟩ := ⟨_, rfl⟩
  rw [← ha]
  obtain ⟨lm, E, v, rs, hD, hS, hSl⟩ := h
  have hk0 : Kp (fun _ => False) w (w.alloc (.cells #[.string nm] 9)) := (Kp.refl _ _).alloc _
  have hcs := Cs.new w [.string nm] 9
  obtain ⟨w0, hw0⟩ : ∃ w0, w0 = w.alloc (.cells #[.string nm] 9) := ⟨_, rfl⟩
  have hcs : Cs w0 (some ⟨w.heap.size, 0, none⟩) ([nm].map Value.string) := by rw [hw0]; exact hcs
  rw [← hw0] at hk0
  have hD0 := hD.same hk0
  have href := refuse_any p lm E v rs st (some ⟨w.heap.size, 0, none⟩) 1 [nm] w0 hD0 hcs (by simp) (by simp)
  have hseen := seen_any p lm E v rs st w0 hD0 hd
  have hw0' : w.alloc (.cells #[.string nm] 9) = w0 := hw0.symm
  clear hw0
  obtain ⟨c, hc⟩ : ∃ c, c = refuseE st ([nm].map ByteArray.toList) := ⟨_, rfl⟩
  rw [← hc] at href
  by_cases hc0 : c = 0
  · subst hc0
    obtain ⟨hdn, hbn⟩ : st.down = false ∧ badN nm.toList = false := by
      unfold refuseE at hc
      cases hdn : st.down
      · rw [hdn] at hc
        refine ⟨rfl, ?_⟩
        cases hb : badN nm.toList
        · rfl
        · simp [hb] at hc
      · rw [hdn] at hc; simp at hc
    have hok := hD.run.fold
    cases hth : (getG (seenF st) nm.toList).isSome with
    | false =>
      have HG : Hid (doE st a = 5 ∧ doS st a = st) := by
        have : wrongF st a = 5 := by unfold wrongF; rw [ha]; simp [hdn, hbn, hth]
        exact ⟨by rw [doE, this]; rfl, by rw [doS, this]; rfl⟩
      rw [HG.out.1, HG.out.2]
      have HTH : Hid ((getG (seenF st) nm.toList).isSome = false) := hth
      clear hc ha hth hok hdn hbn
      go_enter Try.func31, Try.ntmps31
      go_wp2_with fail
      refine href.mono ?_
      rintro e w1 ⟨rfl, rfl⟩
      go_wp2_with fail
      refine hseen.mono ?_
      rintro e w2 ⟨m, E', rfl, hsaw⟩
      have hmp := hsaw.2.1
      have hg : (getG E' nm.toList).isSome = false := by
        have h5 := HTH.out
        rw [← hsaw.2.2.1, files_get, Option.isSome_map] at h5
        exact h5
      go_wp2_with (first | (at_lookup; refine wpList_at_sl_ok _ rfl _ _ rfl m E' rfl hmp nm rfl hnm ?_; rw [hg]))
      go_ret
      exact ⟨rfl, Goes.saw hD hS hk0 hsaw⟩
    | true =>
      have hw : wrongF st a = 0 := by unfold wrongF; rw [ha]; simp [hdn, hbn, hth]
      have HG : Hid (doE st a = countE st ∧ doS st a = waitF st a) := ⟨by rw [doE, if_pos hw], by rw [doS, if_pos hw]⟩
      rw [HG.out.1, HG.out.2]
      obtain ⟨ho1, ho2⟩ := ok_of_right hok hD.room (by rw [ha]; simp) (by rw [ha]; simp) (by rw [ha]; exact .inr rfl) hw
      obtain ⟨r, hr⟩ : ∃ r : ARef, r = ⟨4, nm, ByteArray.empty, none, 0, 0, [], 0, 0⟩ := ⟨_, rfl⟩
      have hra : r.act = a := by rw [hr, ha]; show (⟨4, nm.toList, ByteArray.empty.toList, [], 0, 0⟩ : ActL) = _; rw [empty_list]
      have hrt : r.tl = ⟨none, 0, 0⟩ := by rw [hr]; rfl
      have hrz : r.zs = [] := by rw [hr]
      have hrd : r.deed = .agg #[.int .i64 4, .string nm, .string ByteArray.empty, .slice none 0 0, .int .i64 0] := by rw [hr]; rfl
      have HTH : Hid ((getG (seenF st) nm.toList).isSome = true) := hth
      have HWT : Hid (∀ w2 m E', Saw w0 E st m E' w2 → Calls Try.prog 45 #[.pointer (some ⟨p, 0, none⟩), .agg #[.int .i64 4, .string nm, .string ByteArray.empty, .slice none 0 0, .int .i64 0]] w2 fun e w' => e = .returned (.int .u8 (countE st)) ∧ Goes w S p (waitF st a) w') := fun w2 m E' hsaw => by
        have h5 := wait_any p lm E v rs st r w2 (hD0.saw hsaw) hd (by rw [hrt, hrz]; exact Fl.nil _) (fun e he g hg e' => by rw [hrt] at e'; cases e') (by rw [hra]; exact ho1) (by rw [hra]; exact ho2)
        rw [hrd, hra] at h5
        refine h5.mono ?_
        rintro e w3 ⟨rfl, h6⟩
        exact ⟨rfl, Goes.wait hD hS hk0 hsaw h6 (fun g e' => by rw [hrt] at e'; cases e')⟩
      clear hc ha hth hok hdn hbn hr hra hrt hrz hrd ho1 ho2 hw
      go_enter Try.func31, Try.ntmps31
      go_wp2_with fail
      refine href.mono ?_
      rintro e w1 ⟨rfl, rfl⟩
      go_wp2_with fail
      refine hseen.mono ?_
      rintro e w2 ⟨m, E', rfl, hsaw⟩
      have hmp := hsaw.2.1
      have hg : (getG E' nm.toList).isSome = true := by
        have h5 := HTH.out
        rw [← hsaw.2.2.1, files_get, Option.isSome_map] at h5
        exact h5
      go_wp2_with (first | (at_lookup; refine wpList_at_sl_ok _ rfl _ _ rfl m E' rfl hmp nm rfl hnm ?_; rw [hg]) | (go_at_call 45; refine (HWT.out w2 m E' hsaw).mono ?_; rintro e w3 ⟨rfl, h6⟩; dsimp only))
      go_ret
      exact ⟨rfl, h6⟩
  · have HW : Hid (wrongF st a = c) := by
      have : wrongF st a = c := by
        rw [hc] at hc0 ⊢
        unfold refuseE at hc0 ⊢
        unfold wrongF
        cases hdn : st.down
        · rw [hdn] at hc0
          simp only [Bool.false_eq_true, if_false] at hc0 ⊢
          cases hbn : ([nm].map ByteArray.toList).any badN
          · rw [hbn] at hc0; simp at hc0
          · rw [ha]
            have h5 : badN nm.toList = true := by simpa using hbn
            simp [h5]
        · rfl
      exact this
    have t0 : (c == 0) = false := by simpa using hc0
    have HG : Hid (doE st a = c ∧ doS st a = st) := ⟨by rw [doE, HW.out, if_neg hc0], by rw [doS, HW.out, if_neg hc0]⟩
    clear hc hseen hc0
    rw [HG.out.1, HG.out.2]
    go_enter Try.func31, Try.ntmps31
    go_wp2_with fail
    refine href.mono ?_
    rintro e w1 ⟨rfl, rfl⟩
    go_wp2
    go_ret
    exact ⟨rfl, Goes.same ⟨lm, E, v, rs, hD, hS, hSl⟩ hk0⟩

set_option maxRecDepth 100000 in
set_option maxHeartbeats 400000 in
theorem rename_any (S : Nat → Prop) (p : Nat) (st : St) (nm to : ByteArray) (w : World) (h : Dk w S p st) (hd : st.deeds ≤ 1099511627776) (hnm : nm.size ≤ maxLen) (hto : to.size ≤ maxLen) :
    Calls Try.prog 30 #[.pointer (some ⟨p, 0, none⟩), .string nm, .string to] w fun e w' => e = .returned (.int .u8 (doE st ⟨3, nm.toList, to.toList, [], 0, 0⟩)) ∧ Goes w S p (doS st ⟨3, nm.toList, to.toList, [], 0, 0⟩) w' := by
  obtain ⟨a, ha⟩ : ∃ a : ActL, a = ⟨3, nm.toList, to.toList, [], 0, 0⟩ := ⟨_, rfl⟩
  rw [← ha]
  obtain ⟨lm, E, v, rs, hD, hS, hSl⟩ := h
  have hk0 : Kp (fun _ => False) w (w.alloc (.cells #[.string nm, .string to] 9)) := (Kp.refl _ _).alloc _
  have hcs := Cs.new w [.string nm, .string to] 9
  obtain ⟨w0, hw0⟩ : ∃ w0, w0 = w.alloc (.cells #[.string nm, .string to] 9) := ⟨_, rfl⟩
  have hcs : Cs w0 (some ⟨w.heap.size, 0, none⟩) ([nm, to].map Value.string) := by rw [hw0]; exact hcs
  rw [← hw0] at hk0
  have hD0 := hD.same hk0
  have href := refuse_any p lm E v rs st (some ⟨w.heap.size, 0, none⟩) 2 [nm, to] w0 hD0 hcs (by simp) (by simp)
  have hseen := seen_any p lm E v rs st w0 hD0 hd
  have hw0' : w.alloc (.cells #[.string nm, .string to] 9) = w0 := hw0.symm
  clear hw0
  obtain ⟨c, hc⟩ : ∃ c, c = refuseE st ([nm, to].map ByteArray.toList) := ⟨_, rfl⟩
  rw [← hc] at href
  by_cases hc0 : c = 0
  · subst hc0
    obtain ⟨hdn, hbn, hbt⟩ : st.down = false ∧ badN nm.toList = false ∧ badN to.toList = false := by
      unfold refuseE at hc
      cases hdn : st.down
      · rw [hdn] at hc
        refine ⟨rfl, ?_, ?_⟩
        · cases hb : badN nm.toList
          · rfl
          · simp [hb] at hc
        · cases hb : badN to.toList
          · rfl
          · simp [hb] at hc
      · rw [hdn] at hc; simp at hc
    have hok := hD.run.fold
    cases hth : (getG (seenF st) nm.toList).isSome with
    | false =>
      have HG : Hid (doE st a = 5 ∧ doS st a = st) := by
        have : wrongF st a = 5 := by unfold wrongF; rw [ha]; simp [hdn, hbn, hbt, hth]
        exact ⟨by rw [doE, this]; rfl, by rw [doS, this]; rfl⟩
      rw [HG.out.1, HG.out.2]
      have HTH : Hid ((getG (seenF st) nm.toList).isSome = false) := hth
      clear hc ha hth hok hdn hbn hbt
      go_enter Try.func30, Try.ntmps30
      go_wp2_with fail
      refine href.mono ?_
      rintro e w1 ⟨rfl, rfl⟩
      go_wp2_with fail
      refine hseen.mono ?_
      rintro e w2 ⟨m, E', rfl, hsaw⟩
      have hmp := hsaw.2.1
      have hg : (getG E' nm.toList).isSome = false := by
        have h5 := HTH.out
        rw [← hsaw.2.2.1, files_get, Option.isSome_map] at h5
        exact h5
      go_wp2_with (first | (at_lookup; refine wpList_at_sl_ok _ rfl _ _ rfl m E' rfl hmp nm rfl hnm ?_; rw [hg]))
      go_ret
      exact ⟨rfl, Goes.saw hD hS hk0 hsaw⟩
    | true =>
      have hw : wrongF st a = 0 := by unfold wrongF; rw [ha]; simp [hdn, hbn, hbt, hth]
      have HG : Hid (doE st a = countE st ∧ doS st a = waitF st a) := ⟨by rw [doE, if_pos hw], by rw [doS, if_pos hw]⟩
      rw [HG.out.1, HG.out.2]
      obtain ⟨ho1, ho2⟩ := ok_of_right hok hD.room (by rw [ha]; simp) (by rw [ha]; simp) (by rw [ha]; exact .inl rfl) hw
      obtain ⟨r, hr⟩ : ∃ r : ARef, r = ⟨3, nm, to, none, 0, 0, [], 0, 0⟩ := ⟨_, rfl⟩
      have hra : r.act = a := by rw [hr, ha]; show (⟨3, nm.toList, to.toList, [], 0, 0⟩ : ActL) = _; rfl
      have hrt : r.tl = ⟨none, 0, 0⟩ := by rw [hr]; rfl
      have hrz : r.zs = [] := by rw [hr]
      have hrd : r.deed = .agg #[.int .i64 3, .string nm, .string to, .slice none 0 0, .int .i64 0] := by rw [hr]; rfl
      have HTH : Hid ((getG (seenF st) nm.toList).isSome = true) := hth
      have HWT : Hid (∀ w2 m E', Saw w0 E st m E' w2 → Calls Try.prog 45 #[.pointer (some ⟨p, 0, none⟩), .agg #[.int .i64 3, .string nm, .string to, .slice none 0 0, .int .i64 0]] w2 fun e w' => e = .returned (.int .u8 (countE st)) ∧ Goes w S p (waitF st a) w') := fun w2 m E' hsaw => by
        have h5 := wait_any p lm E v rs st r w2 (hD0.saw hsaw) hd (by rw [hrt, hrz]; exact Fl.nil _) (fun e he g hg e' => by rw [hrt] at e'; cases e') (by rw [hra]; exact ho1) (by rw [hra]; exact ho2)
        rw [hrd, hra] at h5
        refine h5.mono ?_
        rintro e w3 ⟨rfl, h6⟩
        exact ⟨rfl, Goes.wait hD hS hk0 hsaw h6 (fun g e' => by rw [hrt] at e'; cases e')⟩
      clear hc ha hth hok hdn hbn hbt hr hra hrt hrz hrd ho1 ho2 hw
      go_enter Try.func30, Try.ntmps30
      go_wp2_with fail
      refine href.mono ?_
      rintro e w1 ⟨rfl, rfl⟩
      go_wp2_with fail
      refine hseen.mono ?_
      rintro e w2 ⟨m, E', rfl, hsaw⟩
      have hmp := hsaw.2.1
      have hg : (getG E' nm.toList).isSome = true := by
        have h5 := HTH.out
        rw [← hsaw.2.2.1, files_get, Option.isSome_map] at h5
        exact h5
      go_wp2_with (first | (at_lookup; refine wpList_at_sl_ok _ rfl _ _ rfl m E' rfl hmp nm rfl hnm ?_; rw [hg]) | (go_at_call 45; refine (HWT.out w2 m E' hsaw).mono ?_; rintro e w3 ⟨rfl, h6⟩; dsimp only))
      go_ret
      exact ⟨rfl, h6⟩
  · have HW : Hid (wrongF st a = c) := by
      have : wrongF st a = c := by
        rw [hc] at hc0 ⊢
        unfold refuseE at hc0 ⊢
        unfold wrongF
        cases hdn : st.down
        · rw [hdn] at hc0
          simp only [Bool.false_eq_true, if_false] at hc0 ⊢
          cases hbn : ([nm, to].map ByteArray.toList).any badN
          · rw [hbn] at hc0; simp at hc0
          · rw [ha]
            have h5 : (badN nm.toList || badN to.toList) = true := by simpa using hbn
            simp [h5]
        · rfl
      exact this
    have t0 : (c == 0) = false := by simpa using hc0
    have HG : Hid (doE st a = c ∧ doS st a = st) := ⟨by rw [doE, HW.out, if_neg hc0], by rw [doS, HW.out, if_neg hc0]⟩
    clear hc hseen hc0
    rw [HG.out.1, HG.out.2]
    go_enter Try.func30, Try.ntmps30
    go_wp2_with fail
    refine href.mono ?_
    rintro e w1 ⟨rfl, rfl⟩
    go_wp2
    go_ret
    exact ⟨rfl, Goes.same ⟨lm, E, v, rs, hD, hS, hSl⟩ hk0⟩

set_option maxRecDepth 100000 in
set_option maxHeartbeats 400000 in
theorem cut_any (S : Nat → Prop) (p : Nat) (st : St) (nm : ByteArray) (n : Int) (w : World) (h : Dk w S p st) (hd : st.deeds ≤ 1099511627776) (hnm : nm.size ≤ maxLen) :
    Calls Try.prog 29 #[.pointer (some ⟨p, 0, none⟩), .string nm, .int .i64 n] w fun e w' => e = .returned (.int .u8 (doE st ⟨2, nm.toList, [], [], n, 0⟩)) ∧ Goes w S p (doS st ⟨2, nm.toList, [], [], n, 0⟩) w' := by
  obtain ⟨a, ha⟩ : ∃ a : ActL, a = ⟨2, nm.toList, [], [], n, 0⟩ := ⟨_, rfl⟩
  rw [← ha]
  obtain ⟨lm, E, v, rs, hD, hS, hSl⟩ := h
  have hk0 : Kp (fun _ => False) w (w.alloc (.cells #[.string nm] 9)) := (Kp.refl _ _).alloc _
  have hcs := Cs.new w [.string nm] 9
  obtain ⟨w0, hw0⟩ : ∃ w0, w0 = w.alloc (.cells #[.string nm] 9) := ⟨_, rfl⟩
  have hcs : Cs w0 (some ⟨w.heap.size, 0, none⟩) ([nm].map Value.string) := by rw [hw0]; exact hcs
  rw [← hw0] at hk0
  have hD0 := hD.same hk0
  have href := refuse_any p lm E v rs st (some ⟨w.heap.size, 0, none⟩) 1 [nm] w0 hD0 hcs (by simp) (by simp)
  have hseen := seen_any p lm E v rs st w0 hD0 hd
  have hw0' : w.alloc (.cells #[.string nm] 9) = w0 := hw0.symm
  clear hw0
  obtain ⟨c, hc⟩ : ∃ c, c = refuseE st ([nm].map ByteArray.toList) := ⟨_, rfl⟩
  rw [← hc] at href
  by_cases hc0 : c = 0
  · subst hc0
    obtain ⟨hdn, hbn⟩ : st.down = false ∧ badN nm.toList = false := by
      unfold refuseE at hc
      cases hdn : st.down
      · rw [hdn] at hc
        refine ⟨rfl, ?_⟩
        cases hb : badN nm.toList
        · rfl
        · simp [hb] at hc
      · rw [hdn] at hc; simp at hc
    have hok := hD.run.fold
    obtain ⟨B, hBB⟩ : ∃ B, B = (bytesF (seenF st) nm.toList).length := ⟨_, rfl⟩
    have HB : Hid ((bytesF (seenF st) nm.toList).length = B) := hBB.symm
    by_cases hn0 : n < 0
    · cases hth : (getG (seenF st) nm.toList).isSome with
      | false =>
        have HG : Hid (doE st a = 1 ∧ doS st a = st) := by
          have : wrongF st a = 1 := by unfold wrongF; rw [ha]; simp [hdn, hbn, hth, hn0]
          exact ⟨by rw [doE, this]; rfl, by rw [doS, this]; rfl⟩
        rw [HG.out.1, HG.out.2]
        have HTH : Hid ((getG (seenF st) nm.toList).isSome = false) := hth
        clear hc ha hth hok hdn hbn hBB
        go_enter Try.func29, Try.ntmps29
        go_wp2_with fail
        refine href.mono ?_
        rintro e w1 ⟨rfl, rfl⟩
        go_wp2_with fail
        refine hseen.mono ?_
        rintro e w2 ⟨m, E', rfl, hsaw⟩
        have hmp := hsaw.2.1
        have hg : (getG E' nm.toList).isSome = false := by
          have h5 := HTH.out
          rw [← hsaw.2.2.1, files_get, Option.isSome_map] at h5
          exact h5
        obtain ⟨sl, hsl⟩ : ∃ sl, sl = slAt E' nm.toList := ⟨_, rfl⟩
        obtain ⟨a0, n0, c0⟩ := sl
        have hv : (slAt E' nm.toList).val = .slice a0 n0 c0 := by rw [← hsl]; rfl
        have hB : (n0 : Int) = ((bytesF (seenF st) nm.toList).length : Int) := by
          rw [← hsaw.2.2.1, bytes_files, (hmp.flAt nm.toList).1, ← hsl]
        rw [HB.out] at hB
        clear hsl
        go_wp2_with (first | (at_lookup; refine wpList_at_sl_ok _ rfl _ _ rfl m E' rfl hmp nm rfl hnm ?_; rw [hg, hv]))
        go_ret
        exact ⟨rfl, Goes.saw hD hS hk0 hsaw⟩
      | true =>
        have HG : Hid (doE st a = 1 ∧ doS st a = st) := by
          have : wrongF st a = 1 := by unfold wrongF; rw [ha]; simp [hdn, hbn, hth, hn0]
          exact ⟨by rw [doE, this]; rfl, by rw [doS, this]; rfl⟩
        rw [HG.out.1, HG.out.2]
        have HTH : Hid ((getG (seenF st) nm.toList).isSome = true) := hth
        clear hc ha hth hok hdn hbn hBB
        go_enter Try.func29, Try.ntmps29
        go_wp2_with fail
        refine href.mono ?_
        rintro e w1 ⟨rfl, rfl⟩
        go_wp2_with fail
        refine hseen.mono ?_
        rintro e w2 ⟨m, E', rfl, hsaw⟩
        have hmp := hsaw.2.1
        have hg : (getG E' nm.toList).isSome = true := by
          have h5 := HTH.out
          rw [← hsaw.2.2.1, files_get, Option.isSome_map] at h5
          exact h5
        obtain ⟨sl, hsl⟩ : ∃ sl, sl = slAt E' nm.toList := ⟨_, rfl⟩
        obtain ⟨a0, n0, c0⟩ := sl
        have hv : (slAt E' nm.toList).val = .slice a0 n0 c0 := by rw [← hsl]; rfl
        have hB : (n0 : Int) = ((bytesF (seenF st) nm.toList).length : Int) := by
          rw [← hsaw.2.2.1, bytes_files, (hmp.flAt nm.toList).1, ← hsl]
        rw [HB.out] at hB
        clear hsl
        go_wp2_with (first | (at_lookup; refine wpList_at_sl_ok _ rfl _ _ rfl m E' rfl hmp nm rfl hnm ?_; rw [hg, hv]))
        go_ret
        exact ⟨rfl, Goes.saw hD hS hk0 hsaw⟩
    · cases hth : (getG (seenF st) nm.toList).isSome with
      | false =>
        have HG : Hid (doE st a = 5 ∧ doS st a = st) := by
          have : wrongF st a = 5 := by unfold wrongF; rw [ha]; simp [hdn, hbn, hth, hn0]
          exact ⟨by rw [doE, this]; rfl, by rw [doS, this]; rfl⟩
        rw [HG.out.1, HG.out.2]
        have HTH : Hid ((getG (seenF st) nm.toList).isSome = false) := hth
        clear hc ha hth hok hdn hbn hBB
        go_enter Try.func29, Try.ntmps29
        go_wp2_with fail
        refine href.mono ?_
        rintro e w1 ⟨rfl, rfl⟩
        go_wp2_with fail
        refine hseen.mono ?_
        rintro e w2 ⟨m, E', rfl, hsaw⟩
        have hmp := hsaw.2.1
        have hg : (getG E' nm.toList).isSome = false := by
          have h5 := HTH.out
          rw [← hsaw.2.2.1, files_get, Option.isSome_map] at h5
          exact h5
        obtain ⟨sl, hsl⟩ : ∃ sl, sl = slAt E' nm.toList := ⟨_, rfl⟩
        obtain ⟨a0, n0, c0⟩ := sl
        have hv : (slAt E' nm.toList).val = .slice a0 n0 c0 := by rw [← hsl]; rfl
        have hB : (n0 : Int) = ((bytesF (seenF st) nm.toList).length : Int) := by
          rw [← hsaw.2.2.1, bytes_files, (hmp.flAt nm.toList).1, ← hsl]
        rw [HB.out] at hB
        clear hsl
        go_wp2_with (first | (at_lookup; refine wpList_at_sl_ok _ rfl _ _ rfl m E' rfl hmp nm rfl hnm ?_; rw [hg, hv]))
        go_ret
        exact ⟨rfl, Goes.saw hD hS hk0 hsaw⟩
      | true =>
        by_cases hbig : (B : Int) < n
        · have HG : Hid (doE st a = 1 ∧ doS st a = st) := by
            have : wrongF st a = 1 := by unfold wrongF; rw [ha]; simp [hdn, hbn, hth, hn0, ← hBB, hbig]
            exact ⟨by rw [doE, this]; rfl, by rw [doS, this]; rfl⟩
          rw [HG.out.1, HG.out.2]
          have HTH : Hid ((getG (seenF st) nm.toList).isSome = true) := hth
          clear hc ha hth hok hdn hbn hBB
          go_enter Try.func29, Try.ntmps29
          go_wp2_with fail
          refine href.mono ?_
          rintro e w1 ⟨rfl, rfl⟩
          go_wp2_with fail
          refine hseen.mono ?_
          rintro e w2 ⟨m, E', rfl, hsaw⟩
          have hmp := hsaw.2.1
          have hg : (getG E' nm.toList).isSome = true := by
            have h5 := HTH.out
            rw [← hsaw.2.2.1, files_get, Option.isSome_map] at h5
            exact h5
          obtain ⟨sl, hsl⟩ : ∃ sl, sl = slAt E' nm.toList := ⟨_, rfl⟩
          obtain ⟨a0, n0, c0⟩ := sl
          have hv : (slAt E' nm.toList).val = .slice a0 n0 c0 := by rw [← hsl]; rfl
          have hB : (n0 : Int) = ((bytesF (seenF st) nm.toList).length : Int) := by
            rw [← hsaw.2.2.1, bytes_files, (hmp.flAt nm.toList).1, ← hsl]
          rw [HB.out] at hB
          clear hsl
          go_wp2_with (first | (at_lookup; refine wpList_at_sl_ok _ rfl _ _ rfl m E' rfl hmp nm rfl hnm ?_; rw [hg, hv]))
          go_ret
          exact ⟨rfl, Goes.saw hD hS hk0 hsaw⟩
        · have hw : wrongF st a = 0 := by unfold wrongF; rw [ha]; simp [hdn, hbn, hth, hn0, ← hBB, hbig]
          have HG : Hid (doE st a = countE st ∧ doS st a = waitF st a) := ⟨by rw [doE, if_pos hw], by rw [doS, if_pos hw]⟩
          rw [HG.out.1, HG.out.2]
          obtain ⟨ho1, ho2⟩ := ok_of_right hok hD.room (by rw [ha]; simp) (by rw [ha]; simp) (by rw [ha]; exact .inr rfl) hw
          obtain ⟨r, hr⟩ : ∃ r : ARef, r = ⟨2, nm, ByteArray.empty, none, 0, 0, [], n, 0⟩ := ⟨_, rfl⟩
          have hra : r.act = a := by rw [hr, ha]; show (⟨2, nm.toList, ByteArray.empty.toList, [], n, 0⟩ : ActL) = _; rw [empty_list]
          have hrt : r.tl = ⟨none, 0, 0⟩ := by rw [hr]; rfl
          have hrz : r.zs = [] := by rw [hr]
          have hrd : r.deed = .agg #[.int .i64 2, .string nm, .string ByteArray.empty, .slice none 0 0, .int .i64 n] := by rw [hr]; rfl
          have HTH : Hid ((getG (seenF st) nm.toList).isSome = true) := hth
          have HWT : Hid (∀ w2 m E', Saw w0 E st m E' w2 → Calls Try.prog 45 #[.pointer (some ⟨p, 0, none⟩), .agg #[.int .i64 2, .string nm, .string ByteArray.empty, .slice none 0 0, .int .i64 n]] w2 fun e w' => e = .returned (.int .u8 (countE st)) ∧ Goes w S p (waitF st a) w') := fun w2 m E' hsaw => by
            have h5 := wait_any p lm E v rs st r w2 (hD0.saw hsaw) hd (by rw [hrt, hrz]; exact Fl.nil _) (fun e he g hg e' => by rw [hrt] at e'; cases e') (by rw [hra]; exact ho1) (by rw [hra]; exact ho2)
            rw [hrd, hra] at h5
            refine h5.mono ?_
            rintro e w3 ⟨rfl, h6⟩
            exact ⟨rfl, Goes.wait hD hS hk0 hsaw h6 (fun g e' => by rw [hrt] at e'; cases e')⟩
          clear hc ha hth hok hdn hbn hBB hr hra hrt hrz hrd ho1 ho2 hw
          go_enter Try.func29, Try.ntmps29
          go_wp2_with fail
          refine href.mono ?_
          rintro e w1 ⟨rfl, rfl⟩
          go_wp2_with fail
          refine hseen.mono ?_
          rintro e w2 ⟨m, E', rfl, hsaw⟩
          have hmp := hsaw.2.1
          have hg : (getG E' nm.toList).isSome = true := by
            have h5 := HTH.out
            rw [← hsaw.2.2.1, files_get, Option.isSome_map] at h5
            exact h5
          obtain ⟨sl, hsl⟩ : ∃ sl, sl = slAt E' nm.toList := ⟨_, rfl⟩
          obtain ⟨a0, n0, c0⟩ := sl
          have hv : (slAt E' nm.toList).val = .slice a0 n0 c0 := by rw [← hsl]; rfl
          have hB : (n0 : Int) = ((bytesF (seenF st) nm.toList).length : Int) := by
            rw [← hsaw.2.2.1, bytes_files, (hmp.flAt nm.toList).1, ← hsl]
          rw [HB.out] at hB
          clear hsl
          go_wp2_with (first | (at_lookup; refine wpList_at_sl_ok _ rfl _ _ rfl m E' rfl hmp nm rfl hnm ?_; rw [hg, hv]) | (go_at_call 45; refine (HWT.out w2 m E' hsaw).mono ?_; rintro e w3 ⟨rfl, h6⟩; dsimp only))
          go_ret
          exact ⟨rfl, h6⟩
  · have HW : Hid (wrongF st a = c) := by
      have : wrongF st a = c := by
        rw [hc] at hc0 ⊢
        unfold refuseE at hc0 ⊢
        unfold wrongF
        cases hdn : st.down
        · rw [hdn] at hc0
          simp only [Bool.false_eq_true, if_false] at hc0 ⊢
          cases hbn : ([nm].map ByteArray.toList).any badN
          · rw [hbn] at hc0; simp at hc0
          · rw [ha]
            have h5 : badN nm.toList = true := by simpa using hbn
            simp [h5]
        · rfl
      exact this
    have t0 : (c == 0) = false := by simpa using hc0
    have HG : Hid (doE st a = c ∧ doS st a = st) := ⟨by rw [doE, HW.out, if_neg hc0], by rw [doS, HW.out, if_neg hc0]⟩
    clear hc hseen hc0
    rw [HG.out.1, HG.out.2]
    go_enter Try.func29, Try.ntmps29
    go_wp2_with fail
    refine href.mono ?_
    rintro e w1 ⟨rfl, rfl⟩
    go_wp2
    go_ret
    exact ⟨rfl, Goes.same ⟨lm, E, v, rs, hD, hS, hSl⟩ hk0⟩
end Go.Proofs.Ytngkapddobgfaaa
