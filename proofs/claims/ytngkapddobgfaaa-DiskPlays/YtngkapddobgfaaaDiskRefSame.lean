/-
  The law's own Same: what is seen of a disk is just the files of a list.
-/
import Derived.Test.YtngkapddobgfaaaDiskFIn
import Derived.Deep.QuietTactic
import Derived.BigQuiet
namespace Go.Proofs.Ytngkapddobgfaaa
open Go.RowKit Go.Maps
set_option linter.unusedVariables false

set_option maxRecDepth 100000 in
set_option maxHeartbeats 2000000 in
theorem lawSame_t (T : Nat → Prop) (p : Nat) (st : St) (a : Option Addr) (n c : Nat) (rs : List FRef) (w : World) (h : DkT T w p st) (hd : st.deeds ≤ 1099511627776) (hg : Good st) (hf : Fs w a n c rs) (hfin : FIn T a n rs) (hm : rs.map FRef.file = seenF st) :
    Calls Try.prog 18 #[.pointer (some ⟨p, 0, none⟩), .slice a n c] w fun e w' => e = .returned (.bool true) ∧ DkT T w' p st ∧ Kp (fun i => ¬ T i) w w' := by
  obtain ⟨_, hokf, hroom⟩ := h.deeds
  obtain ⟨L, hL⟩ : ∃ L, L = seenF st := ⟨_, rfl⟩
  have hnames := names_t T p st w h hd
  have hnL : n = L.length := by rw [hf.1, hL, ← hm, List.length_map]
  rw [← hL] at hnames hokf hm
  have HS : Hid (SortedG L ∧ (∀ f ∈ L, badN f.1 = false) ∧ usedF L ≤ 1073741824) := ⟨hokf.1, by rw [hL]; exact hg.seen, Nat.le_trans hokf.2.2 hroom⟩
  have hll : L.length ≤ 64 := hokf.2.1
  have HL : Hid (L = seenF st) := hL
  have HM : Hid (rs.map FRef.file = L) := hm
  have hTl := h.1
  have HK : Hid (∀ w', Kp (fun i => ¬ T i) w w' → Fs w' a n c rs) := fun w' hk => hf.kp hk ⟨fun x hx h0 e => e (hfin.1 x hx h0), fun r hr x hx h0 e => e (hfin.2 r hr x hx h0)⟩
  have HFB : Hid (∀ x, a = some x → 0 < n → T x.block) := hfin.1
  clear hokf hL hg h hf hfin hm
  subst hnL
  go_enter Try.func18, Try.ntmps18
  go_wp2_with fail
  refine hnames.mono ?_
  rintro e w1 ⟨v1, rfl, hrow1, hD1, hk1, hst1⟩
  clear hnames
  obtain ⟨a1, c1, rfl, l1, l2, l3, hcs1⟩ := ownsRow_cs hrow1
  have hs1 := hk1.size
  obtain ⟨NB, hNB⟩ : ∃ NB : Nat → Prop, NB = fun i => (Value.slice a1 L.length c1).ownBlock = some i := ⟨_, rfl⟩
  have HNB : Hid (∀ i, NB i → w.heap.size ≤ i ∧ i < w1.heap.size) := fun i hi => by rw [hNB] at hi; exact hrow1.lt i hi
  have HNE : Hid (∀ i, (Value.slice a1 L.length c1).ownBlock = some i → NB i) := fun i hi => by rw [hNB]; exact hi
  have hDT := hst1 (fun i => T i ∨ NB i) (fun i hi => by
    rcases hi with e | e
    · exact Nat.lt_of_lt_of_le (hTl i e) hs1
    · exact (HNB.out i e).2) (fun i hi => by
    rcases hi with e | e
    · exact .inl e
    · exact .inr (HNB.out i e).1)
  have hused := used_t (fun i => T i ∨ NB i) p st w1 hDT hd
  rw [← HL.out] at hused
  have HN1 : Hid (w1.ownsRow w.heap.size 9 1 (.slice a1 L.length c1) L.length ((namesF L).map encStr)) := hrow1
  obtain ⟨U, hU⟩ : ∃ U, U = usedF L := ⟨_, rfl⟩
  rw [← hU] at hused
  have HRU : Hid (∀ w', Kp (fun i => ¬ T i) w w' → Calls Try.prog 37 #[.slice a L.length c] w' fun e w'' => e = .returned (.int .i64 (U : Int)) ∧ w'' = w') := fun w' hk => by
    have h5 := refUsed_any a L.length c rs w' (HK.out w' hk) (by omega) (by rw [HM.out]; have := HS.out.2.2; omega)
    rw [HM.out, ← hU] at h5
    exact h5
  clear hst1 hD1 hcs1 hNB hrow1 hU hDT
  go_wp2_with fail
  refine hused.mono ?_
  rintro e w2 ⟨rfl, hD2, hk2⟩
  have hk2' : Kp (fun i => ¬ T i) w w2 := hk1.trans hk2 (fun i _ e ht => e (.inl ht))
  have hru := HRU.out w2 hk2'
  have hrn2 := row1_kp HN1.out hk2 (fun g hg e => e (.inr (HNE.out g hg)))
  have hs2 := hk2.size
  clear hused HRU HN1
  go_wp2_with fail
  refine hru.mono ?_
  rintro e w3 ⟨rfl, rfl⟩
  go_wp2_with fail
  go_loopw [6] (fun iv wr => ∃ k : Nat, iv = .int .i64 (k : Int) ∧ k ≤ L.length ∧ wr.ownsRow w.heap.size 9 1 (.slice a1 L.length c1) L.length ((namesF L).map encStr) ∧ DkT (fun i => T i ∨ NB i) wr p st ∧ Kp (fun i => ¬ T i) w wr ∧ w1.heap.size ≤ wr.heap.size) (fun iv _ => L.length - (intOf iv).toNat)
  case atStart => exact ⟨0, rfl, Nat.zero_le _, hrn2, hD2, hk2', hs2⟩
  case round =>
    obtain ⟨k, rfl, hk, hrn, hDk, hkk, hw1r⟩ := hrel
    by_cases hlt : k < L.length
    · obtain ⟨f, hf⟩ : ∃ f, L[k]? = some f := ⟨_, List.getElem?_eq_getElem hlt⟩
      have hfm : f ∈ L := List.mem_of_getElem? hf
      obtain ⟨nm, hnm⟩ : ∃ nm : ByteArray, nm = ⟨f.1.toArray⟩ := ⟨_, rfl⟩
      have hnl : nm.toList = f.1 := by rw [hnm]; exact arr_list f.1
      have hbad := HS.out.2.1 f hfm
      have hnsz : nm.size ≤ maxLen := by
        have h5 := hbad
        unfold badN at h5
        rw [Bool.or_eq_false_iff] at h5
        have := of_decide_eq_false h5.2
        rw [← size_list, hnl]
        unfold maxLen; omega
      have hget : getG (seenF st) f.1 = some f.2 := by rw [← HL.out]; exact get_of_mem HS.out.1.names hfm
      have HRD : Hid (∀ q, Calls Try.prog 26 #[.pointer (some ⟨p, 0, none⟩), .string nm] (wr.drewN q) fun e w' => ∃ s : Sl, e = .returned (.tuple #[s.val, .int .u8 (readE st f.1)]) ∧ Fl w' s (readB st f.1) ∧ DkT (fun i => T i ∨ NB i) w' p st ∧ Kp (fun i => ¬ (T i ∨ NB i)) wr w') := fun q => by
        have hkq : Kp (fun _ => False) wr (wr.drewN q) := Kp.of_below (below_drewN (Below.refl _ _) q)
        have hread := read_t _ _ _ (wr.drewN q) (hDk.below (below_drewN (Below.refl _ _) q)) nm hd hnsz
        rw [hnl] at hread
        refine hread.mono ?_
        rintro e w' ⟨s, rfl, h1, h2, h3⟩
        exact ⟨s, rfl, h1, h3.1, (hkq.mono (S1 := fun i => ¬ (T i ∨ NB i)) (fun _ _ e => e.elim)).trans h3.2.1 (fun i _ e => e)⟩
      obtain ⟨b, off, g, rfl, hgk, hgo, d1, d2⟩ := (HK.out wr hkk).at hlt
      have hgf : g.file = f := by
        have h5 := hf
        rw [← HM.out, List.getElem?_map, hgk] at h5
        simpa using h5
      have hgn : g.name.toList = f.1 := by rw [← hgf]; rfl
      have hgz : g.zs = f.2 := by rw [← hgf]; rfl
      have heq : (nm.toList == g.name.toList) = true := by rw [hnl, hgn]; simp
      have hne2 : (nm.toList != g.name.toList) = false := by simp [bne, heq]
      have HGK : Hid (rs[k]? = some g ∧ g.zs = f.2) := ⟨hgk, hgz⟩
      obtain ⟨a1', c1', e1, _, _, _, hcs⟩ := ownsRow_cs hrn
      cases e1
      have hne : (namesF L).map encStr ≠ [] := fun e => by
        have := congrArg List.length e
        rw [List.length_map, namesF, List.length_map, List.length_nil] at this
        omega
      rcases hcs with e | ⟨b1, off1, rfl, hbl, hcell⟩
      · exact absurd e hne
      have hc1 := hcell k (by simp [namesF]; omega)
      rw [List.getElem?_map, namesF, List.getElem?_map, hf] at hc1
      have hc2 : wr.cell? ⟨b1, off1 + k, none⟩ = some (.string nm) := by rw [hc1, hnm]; rfl
      have HUP : Hid (∀ w', DkT (fun i => T i ∨ NB i) w' p st → Calls Try.prog 15 #[.pointer (some ⟨p, 0, none⟩)] w' fun e w'' => e = .returned (.bool (!st.down)) ∧ w'' = w') := fun w' h => up_t _ p st w' h
      have HFI : Hid (T b) := HFB.out ⟨b, off, none⟩ rfl (by omega)
      have HREAD : Hid (st.down = false → readE st f.1 = 0 ∧ readB st f.1 = f.2) := fun hup => by
        have hrE : readE st f.1 = 0 := by unfold readE; rw [hup, hbad, hget]; rfl
        exact ⟨hrE, by unfold readB; rw [hrE, if_pos rfl, bytes_get, hget]; rfl⟩
      have hbNB : NB b1 := HNE.out b1 rfl
      have hbytes : f.2.length ≤ 1073741824 := by
        have e := usedF_take_succ L k f hf
        have e2 := usedF_take_le L (k + 1)
        have := HS.out.2.2
        omega
      clear hf hfm hnm hnl hbad hget hcell hc1 hne hgf hgn hgz hgk
      go_wp2_with fail
      go_quiet (fail)
      go_wp2_with fail
      refine (HRD.out nq).mono ?_
      rintro e w2 ⟨⟨sa, sn, sc⟩, rfl, hf2, hD2, hk2⟩
      have d2' := hk2.cell d2 (fun e => e (.inl HFI.out))
      have hrn2 := row1_kp hrn hk2 (fun g hg e => e (.inr (HNE.out g hg)))
      have hkw2 : Kp (fun i => ¬ T i) w w2 := hkk.trans hk2 (fun i _ e ht => e (.inl ht))
      have hfs2 := HK.out w2 hkw2
      have hgo2 : Bs w2 g.a g.n g.zs := (hfs2.2.2.2.2 g (List.mem_of_getElem? HGK.out.1)).2.2.2
      have HUPQ : Hid (∀ q, Calls Try.prog 15 #[.pointer (some ⟨p, 0, none⟩)] (w2.drewN q) fun e w'' => e = .returned (.bool (!st.down)) ∧ w'' = w2.drewN q) := fun q => HUP.out _ (hD2.below (below_drewN (Below.refl _ _) q))
      have hup0 := HUP.out w2 hD2
      have hs2r := hk2.size
      have HFIN : Hid (∀ q, (w2.drewN q).ownsRow w.heap.size 9 1 (.slice (some ⟨b1, off1, none⟩) L.length c1) L.length ((namesF L).map encStr) ∧ DkT (fun i => T i ∨ NB i) (w2.drewN q) p st ∧ Kp (fun i => ¬ T i) w (w2.drewN q)) := fun q => ⟨hrn2, hD2.below (below_drewN (Below.refl _ _) q), hkw2.trans (Kp.of_below (S := fun i => ¬ T i) (below_drewN (Below.refl _ _) q)) (fun i _ e => e)⟩
      unfold Sl.val
      clear hDk hrn hkk hrn2 hD2 hkw2 hfs2 d1 d2 hc2 HUP hk2
      by_cases hup : st.down = false
      · have hdn : (!st.down) = true := by simp [hup]
        obtain ⟨q1, q2⟩ := HREAD.out hup
        rw [q2] at hf2
        have hb2 := hf2.bs
        have hsn : sn ≤ 1073741824 := by have := hb2.1; have h5 : f.2.length = sn := this; omega
        have hgn : g.n ≤ 1073741824 := by have := hgo2.1; rw [HGK.out.2] at this; omega
        have HSQ : Hid (∀ q, Calls Try.prog 14 #[.slice sa sn sc, .slice g.a g.n g.c] (w2.drewN q) fun e w'' => e = .returned (.bool true) ∧ ∃ m, w'' = (w2.drewN q).drewN m) := fun q => by
          have h5 := same_any sa g.a sn g.n sc g.c f.2 g.zs (w2.drewN q) (hb2.drewN q) (hgo2.drewN q) (by omega) (by omega)
          rw [HGK.out.2, decide_eq_true rfl] at h5
          exact h5
        rw [hdn] at hup0
        rw [q1]
        clear hup hf2 hb2 hgo2 q1 q2
        go_wp2_with fail
        refine hup0.mono ?_
        rintro e w3 ⟨rfl, rfl⟩
        clear hup0
        go_wp2_with fail
        refine (HSQ.out 0).mono ?_
        rintro e w4 ⟨rfl, m, rfl⟩
        go_wp2
        go_roundw
        · obtain ⟨z1, z2, z3⟩ := HFIN.out (0 + m)
          rw [← drewN_add] at z1 z2 z3
          exact ⟨k + 1, by go_num, by omega, z1, z2, z3, Nat.le_trans hw1r hs2r⟩
        · simp [intOf]; omega
      · have hdn : (!st.down) = false := by simpa using hup
        rw [hdn] at hup0
        obtain ⟨E5, hE5⟩ : ∃ E5, readE st f.1 = E5 := ⟨_, rfl⟩
        rw [hE5]
        clear hup hf2 hgo2 hE5
        go_wp2_with fail
        refine hup0.mono ?_
        rintro e w3 ⟨rfl, rfl⟩
        clear hup0
        go_wp2_with fail
        obtain ⟨z1, z2, z3⟩ := HFIN.out 0
        refine ⟨⟨k + 1, by go_num, by omega, z1, z2, z3, Nat.le_trans hw1r hs2r⟩, ?_⟩
        simp [intOf]; omega
    · obtain rfl : k = L.length := by omega
      go_wp2
      go_ret
      exact ⟨rfl, DkT.more hDk (fun i hi => Nat.lt_of_lt_of_le (hTl i hi) hkk.size) (fun i hi => .inl hi), hkk⟩
end Go.Proofs.Ytngkapddobgfaaa
