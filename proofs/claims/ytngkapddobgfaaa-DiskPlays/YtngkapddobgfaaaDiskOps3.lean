/-
  What Append returns, and what it leaves.
-/
import Derived.Test.YtngkapddobgfaaaDiskOps
namespace Go.Proofs.Ytngkapddobgfaaa
open Go.RowKit Go.Maps
set_option linter.unusedVariables false

theorem Saw.more {w w1 w2 : World} {E : Ents} {st : St} {m : Nat} {E' : Ents} (h : Saw w E st m E' w1) (hk : Kp (fun _ => False) w1 w2) : Saw w E st m E' w2 :=
  ⟨h.1, h.2.1.kp hk (fun e => e) (fun _ _ _ _ e => e), h.2.2.1, h.2.2.2.1.trans hk (fun _ _ e => e.elim), h.2.2.2.2.1.trans (PrA.of_kp hk (fun _ _ e => e.elim)), h.2.2.2.2.2⟩
theorem Bs.kp {S : Nat → Prop} {w w' : World} {a : Option Addr} {n : Nat} {zs : List Int} (h : Bs w a n zs) (hk : Kp S w w') (hn : ∀ x, a = some x → 0 < n → ¬ S x.block) : Bs w' a n zs := by
  obtain ⟨h1, h2, h3⟩ := h
  refine ⟨h1, h2, ?_⟩
  rcases Nat.eq_zero_or_pos n with h0 | h0
  · exact .inl h0
  · rcases h3 with h3 | ⟨b, off, ha, hlt, hc⟩
    · exact .inl h3
    · exact .inr ⟨b, off, ha, Nat.lt_of_lt_of_le hlt hk.size, fun i hi => hk.cell (hc i hi) (fun e => hn ⟨b, off, none⟩ ha h0 e)⟩

set_option maxRecDepth 100000 in
set_option maxHeartbeats 400000 in
theorem append_any (S : Nat → Prop) (p : Nat) (st : St) (nm : ByteArray) (ba : Option Addr) (bn bc : Nat) (zs : List Int) (w : World) (h : Dk w S p st) (hd : st.deeds ≤ 1099511627776) (hnm : nm.size ≤ maxLen) (hnil : ba = none → bn = 0 ∧ bc = 0) (hbs : Bs w ba bn zs) (hba : ∀ x, ba = some x → 0 < bn → ¬ S x.block) (hbn0 : bn ≤ 1099511627776) :
    Calls Try.prog 28 #[.pointer (some ⟨p, 0, none⟩), .string nm, .slice ba bn bc] w fun e w' => e = .returned (.int .u8 (doE st ⟨1, nm.toList, [], zs, 0, 0⟩)) ∧ Goes w S p (doS st ⟨1, nm.toList, [], zs, 0, 0⟩) w' := by
  obtain ⟨a, ha⟩ : ∃ a : ActL, a = ⟨1, nm.toList, [], zs, 0, 0⟩ := ⟨_, rfl⟩
  rw [← ha]
  obtain ⟨lm, E, v, rs, hD, hS, hSl⟩ := h
  have hk0 : Kp (fun _ => False) w (w.alloc (.cells #[.string nm] 9)) := (Kp.refl _ _).alloc _
  have hcs := Cs.new w [.string nm] 9
  obtain ⟨w0, hw0⟩ : ∃ w0, w0 = w.alloc (.cells #[.string nm] 9) := ⟨_, rfl⟩
  have hcs : Cs w0 (some ⟨w.heap.size, 0, none⟩) ([nm].map Value.string) := by rw [hw0]; exact hcs
  rw [← hw0] at hk0
  have hD0 := hD.same hk0
  have href := refuse_any p lm E v rs st (some ⟨w.heap.size, 0, none⟩) 1 [nm] w0 hD0 hcs (by simp) (by simp)
  have hseen := seen_any p lm E v rs st w0 hD0 hd
  have hw0' : w.alloc (.cells #[.string nm] 9) = w0 := hw0.symm
  clear hw0
  obtain ⟨c, hc⟩ : ∃ c, c = refuseE st ([nm].map ByteArray.toList) := ⟨_, rfl⟩
  rw [← hc] at href
  by_cases hc0 : c = 0
  · subst hc0
    obtain ⟨hdn, hbn⟩ : st.down = false ∧ badN nm.toList = false := by
      unfold refuseE at hc
      cases hdn : st.down
      · rw [hdn] at hc
        refine ⟨rfl, ?_⟩
        cases hb : badN nm.toList
        · rfl
        · simp [hb] at hc
      · rw [hdn] at hc; simp at hc
    have hok := hD.run.fold
    cases hth : (getG (seenF st) nm.toList).isSome with
    | false =>
      have HG : Hid (doE st a = 5 ∧ doS st a = st) := by
        have : wrongF st a = 5 := by unfold wrongF; rw [ha]; simp [hdn, hbn, hth]
        exact ⟨by rw [doE, this]; rfl, by rw [doS, this]; rfl⟩
      rw [HG.out.1, HG.out.2]
      have HTH : Hid ((getG (seenF st) nm.toList).isSome = false) := hth
      clear hc ha hth hok hdn hbn
      go_enter Try.func28, Try.ntmps28
      go_wp2_with fail
      refine href.mono ?_
      rintro e w1 ⟨rfl, rfl⟩
      go_wp2_with fail
      refine hseen.mono ?_
      rintro e w2 ⟨m, E', rfl, hsaw⟩
      have hmp := hsaw.2.1
      have hg : (getG E' nm.toList).isSome = false := by
        have h5 := HTH.out
        rw [← hsaw.2.2.1, files_get, Option.isSome_map] at h5
        exact h5
      go_wp2_with (first | (at_lookup; refine wpList_at_sl_ok _ rfl _ _ rfl m E' rfl hmp nm rfl hnm ?_; rw [hg]))
      go_ret
      exact ⟨rfl, Goes.saw hD hS hk0 hsaw⟩
    | true =>
      obtain ⟨U, hUU⟩ : ∃ U, U = usedF (seenF st) := ⟨_, rfl⟩
      have hroom := hD.room
      have hUr : U ≤ st.room := by rw [hUU]; exact hok.2.2
      have HU : Hid (usedF (seenF st) ≤ 1073741824 ∧ usedF (seenF st) = U) := ⟨by omega, hUU.symm⟩
      have hzl : zs.length = bn := hbs.1
      have hwr : IntKind.i64.wrap ((st.room : Int) - (U : Int)) = (st.room : Int) - (U : Int) := by simp [IntKind.wrap, IntKind.bits, IntKind.signed]; omega
      by_cases hfull : st.room < U + bn
      · have hgt : (st.room : Int) - (U : Int) < (bn : Int) := by omega
        have HG : Hid (doE st a = 4 ∧ doS st a = st) := by
          have : wrongF st a = 4 := by unfold wrongF; rw [ha]; simp [hdn, hbn, hth, ← hUU, hzl, hfull]
          exact ⟨by rw [doE, this]; rfl, by rw [doS, this]; rfl⟩
        rw [HG.out.1, HG.out.2]
        have HTH : Hid ((getG (seenF st) nm.toList).isSome = true) := hth
        clear hc ha hth hok hdn hbn hUU hzl hbs
        go_enter Try.func28, Try.ntmps28
        go_wp2_with fail
        refine href.mono ?_
        rintro e w1 ⟨rfl, rfl⟩
        go_wp2_with fail
        refine hseen.mono ?_
        rintro e w2 ⟨m, E', rfl, hsaw⟩
        have hmp := hsaw.2.1
        have hg : (getG E' nm.toList).isSome = true := by
          have h5 := HTH.out
          rw [← hsaw.2.2.1, files_get, Option.isSome_map] at h5
          exact h5
        have hD2 := hD0.saw hsaw
        obtain ⟨c0, c1, c2, c3, c4, c5⟩ := hD2.cells
        obtain ⟨a0, n0, c0', hv⟩ : ∃ a0 n0 c0', (slAt E' nm.toList).val = .slice a0 n0 c0' := ⟨_, _, _, rfl⟩
        have hsz := size_any m E' w2 hmp (by rw [hsaw.2.2.1]; have := HU.out.1; omega)
        rw [hsaw.2.2.1, HU.out.2] at hsz
        have hszd : Calls Try.prog 42 #[.map (some m)] w2.drew fun e w' => e = .returned (.int .i64 (U : Int)) ∧ Below w2.heap.size w2 w' := by
          have h5 := size_any m E' w2.drew (hmp.kp (Kp.refl (fun _ => False) w2).drew (fun e => e) (fun _ _ _ _ e => e)) (by rw [hsaw.2.2.1]; have := HU.out.1; omega)
          rw [hsaw.2.2.1, HU.out.2] at h5
          exact h5.mono fun e w' h => ⟨h.1, ⟨h.2.os, h.2.tape, h.2.output, h.2.size, h.2.block⟩⟩
        have hplt2 := hD2.plt
        have hS0 : w2.drew.cell? ⟨p, 0, none⟩ = some (.int .i64 (st.room : Int)) := c0
        clear hsz c1 c2 c3 c4 c5
        go_wp2_with (first | (at_lookup; refine wpList_at_sl_ok _ rfl _ _ rfl m E' rfl hmp nm rfl hnm ?_; rw [hg, hv]))
        go_region_held3 (fun w' => w'.cell? ⟨p, 0, none⟩ = some (.int .i64 (st.room : Int))) (first | exact hS0 | exact hS1)
          (first
            | (go_at_call 42; refine hszd.mono ?_; rintro e w3 ⟨rfl, hb3⟩; have hS1 : w3.cell? ⟨p, 0, none⟩ = some (.int .i64 (st.room : Int)) := (by rw [hb3.cell hplt2]; exact c0); dsimp only))
        all_goals go_wp2
        all_goals go_ret
        all_goals exact ⟨rfl, Goes.saw hD hS hk0 (hsaw.more (Kp.of_below hb3))⟩
      · have hgt : ¬ ((st.room : Int) - (U : Int) < (bn : Int)) := by omega
        have hgt2 : (bn : Int) ≤ (st.room : Int) - (U : Int) := by omega
        have hw : wrongF st a = 0 := by unfold wrongF; rw [ha]; simp [hdn, hbn, hth, ← hUU, hzl]; omega
        have HG : Hid (doE st a = countE st ∧ doS st a = waitF st a) := ⟨by rw [doE, if_pos hw], by rw [doS, if_pos hw]⟩
        rw [HG.out.1, HG.out.2]
        obtain ⟨ho1, ho2⟩ := ok_of_right hok hD.room (by rw [ha]; simp) (by rw [ha]; simp) (by rw [ha]; exact .inr rfl) hw
        have HTH : Hid ((getG (seenF st) nm.toList).isSome = true) := hth
        have HWT : Hid (∀ w4 m E' (s : Sl), Saw w0 E st m E' w4 → Fl w4 s zs → (∀ g, s.blk = some g → w.heap.size ≤ g) → Calls Try.prog 45 #[.pointer (some ⟨p, 0, none⟩), .agg #[.int .i64 1, .string nm, .string ByteArray.empty, .slice s.a s.n s.c, .int .i64 0]] w4 fun e w' => e = .returned (.int .u8 (countE st)) ∧ Goes w S p (waitF st a) w') := fun w4 m E' s hsaw hfs hbl => by
          have hra : (⟨1, nm, ByteArray.empty, s.a, s.n, s.c, zs, 0, 0⟩ : ARef).act = a := by rw [ha]; show (⟨1, nm.toList, ByteArray.empty.toList, zs, 0, 0⟩ : ActL) = _; rw [empty_list]
          have h5 := wait_any p lm E v rs st ⟨1, nm, ByteArray.empty, s.a, s.n, s.c, zs, 0, 0⟩ w4 (hD0.saw hsaw) hd hfs (fun e he g hg e' => by
            have h7 := (hD.last.fl e he).lt hg
            have h8 := hbl g e'
            omega) (by rw [hra]; exact ho1) (by rw [hra]; exact ho2)
          rw [hra] at h5
          refine h5.mono ?_
          rintro e w3 ⟨rfl, h6⟩
          exact ⟨rfl, Goes.wait hD hS hk0 hsaw h6 hbl⟩
        have HBS : Hid (∀ w2 m E' w3, Saw w0 E st m E' w2 → Below w2.heap.size w2 w3 → Calls Try.prog 44 #[.slice ba bn bc] w3 fun e w' => ∃ s : Sl, e = .returned s.val ∧ Fl w' s zs ∧ (∀ g, s.blk = some g → w3.heap.size ≤ g) ∧ Below w3.heap.size w3 w') := fun w2 m E' w3 hsaw hb3 =>
          clone_any ba bn bc zs w3 hnil (((hbs.kp hk0 (fun _ _ _ e => e)).kp hsaw.2.2.2.1 (fun x hx h0 e => hba x hx h0 (hS _ (.inr (.inr (.inl e)))))).below hb3 (Nat.le_refl _)) (by omega)
        have hk0s := hk0.size
        clear hc ha hth hok hdn hbn hUU hzl hbs hw ho1 ho2
        go_enter Try.func28, Try.ntmps28
        go_wp2_with fail
        refine href.mono ?_
        rintro e w1 ⟨rfl, rfl⟩
        go_wp2_with fail
        refine hseen.mono ?_
        rintro e w2 ⟨m, E', rfl, hsaw⟩
        have hmp := hsaw.2.1
        have hg : (getG E' nm.toList).isSome = true := by
          have h5 := HTH.out
          rw [← hsaw.2.2.1, files_get, Option.isSome_map] at h5
          exact h5
        have hD2 := hD0.saw hsaw
        obtain ⟨c0, c1, c2, c3, c4, c5⟩ := hD2.cells
        obtain ⟨a0, n0, c0', hv⟩ : ∃ a0 n0 c0', (slAt E' nm.toList).val = .slice a0 n0 c0' := ⟨_, _, _, rfl⟩
        have hsz := size_any m E' w2 hmp (by rw [hsaw.2.2.1]; have := HU.out.1; omega)
        rw [hsaw.2.2.1, HU.out.2] at hsz
        have hszd : Calls Try.prog 42 #[.map (some m)] w2.drew fun e w' => e = .returned (.int .i64 (U : Int)) ∧ Below w2.heap.size w2 w' := by
          have h5 := size_any m E' w2.drew (hmp.kp (Kp.refl (fun _ => False) w2).drew (fun e => e) (fun _ _ _ _ e => e)) (by rw [hsaw.2.2.1]; have := HU.out.1; omega)
          rw [hsaw.2.2.1, HU.out.2] at h5
          exact h5.mono fun e w' h => ⟨h.1, ⟨h.2.os, h.2.tape, h.2.output, h.2.size, h.2.block⟩⟩
        have hplt2 := hD2.plt
        have hS0 : w2.drew.cell? ⟨p, 0, none⟩ = some (.int .i64 (st.room : Int)) := c0
        clear hsz c1 c2 c3 c4 c5
        have hs2 := hsaw.2.2.2.1.size
        go_wp2_with (first | (at_lookup; refine wpList_at_sl_ok _ rfl _ _ rfl m E' rfl hmp nm rfl hnm ?_; rw [hg, hv]))
        go_region_held3 (fun w' => w'.cell? ⟨p, 0, none⟩ = some (.int .i64 (st.room : Int))) (first | exact hS0 | exact hS1)
          (first
            | (go_at_call 42; refine hszd.mono ?_; rintro e w3 ⟨rfl, hb3⟩; have hS1 : w3.cell? ⟨p, 0, none⟩ = some (.int .i64 (st.room : Int)) := (by rw [hb3.cell hplt2]; exact c0); dsimp only))
        all_goals go_wp2_with (first | (go_at_call 44; refine (HBS.out w2 m E' w3 hsaw hb3).mono ?_; rintro e w4 ⟨⟨sa, sn, sc⟩, rfl, hfs, hbl, hb4⟩; unfold Sl.val; dsimp only) | (go_at_call 45; refine (HWT.out w4 m E' ⟨sa, sn, sc⟩ (hsaw.more (Kp.of_below (hb3.trans (hb4.mono hb3.size)))) hfs (fun g hg => Nat.le_trans (Nat.le_trans (Nat.le_trans hk0s hs2) hb3.size) (hbl g hg))).mono ?_; rintro e w5 ⟨rfl, h6⟩; dsimp only))
        all_goals go_ret
        all_goals exact ⟨rfl, h6⟩
  · have HW : Hid (wrongF st a = c) := by
      have : wrongF st a = c := by
        rw [hc] at hc0 ⊢
        unfold refuseE at hc0 ⊢
        unfold wrongF
        cases hdn : st.down
        · rw [hdn] at hc0
          simp only [Bool.false_eq_true, if_false] at hc0 ⊢
          cases hbn : ([nm].map ByteArray.toList).any badN
          · rw [hbn] at hc0; simp at hc0
          · rw [ha]
            have h5 : badN nm.toList = true := by simpa using hbn
            simp [h5]
        · rfl
      exact this
    have t0 : (c == 0) = false := by simpa using hc0
    have HG : Hid (doE st a = c ∧ doS st a = st) := ⟨by rw [doE, HW.out, if_neg hc0], by rw [doS, HW.out, if_neg hc0]⟩
    clear hc hseen hc0
    rw [HG.out.1, HG.out.2]
    go_enter Try.func28, Try.ntmps28
    go_wp2_with fail
    refine href.mono ?_
    rintro e w1 ⟨rfl, rfl⟩
    go_wp2
    go_ret
    exact ⟨rfl, Goes.same ⟨lm, E, v, rs, hD, hS, hSl⟩ hk0⟩
end Go.Proofs.Ytngkapddobgfaaa
