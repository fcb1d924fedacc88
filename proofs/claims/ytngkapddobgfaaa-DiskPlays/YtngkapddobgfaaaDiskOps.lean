/-
  What the disk's calls return, and what they leave.
-/
import Derived.Test.YtngkapddobgfaaaDiskWait
namespace Go.Proofs.Ytngkapddobgfaaa
open Go.RowKit Go.Maps
set_option linter.unusedVariables false

/-- A disk at p, all its blocks among S. -/
def Dk (w : World) (S : Nat → Prop) (p : Nat) (st : St) : Prop := ∃ lm E v rs, DkE w p lm E v rs st ∧ (∀ i, ftp p lm E v rs i → S i) ∧ ∀ i, S i → i < w.heap.size
/-- What a call leaves of it. -/
def Goes (w : World) (S : Nat → Prop) (p : Nat) (st : St) (w' : World) : Prop := ∃ S', Dk w' S' p st ∧ (∀ i, S' i → S i ∨ w.heap.size ≤ i) ∧ Kp S w w'

theorem DkE.ftp_lt {w : World} {p : Nat} {lm : Option Nat} {E : Ents} {v : Value} {rs : List ARef} {st : St} (h : DkE w p lm E v rs st) {i : Nat} (hi : ftp p lm E v rs i) : i < w.heap.size := by
  rcases hi with rfl | hi | ⟨e, he, hi⟩ | hi | ⟨r, hr, hi⟩
  · exact h.plt
  · rcases h.last with ⟨e, _⟩ | ⟨b, e, hm⟩
    · rw [e] at hi; cases hi
    · rw [hi] at e; cases e; exact hm.lt
  · exact (h.last.fl e he).lt hi
  · exact (h.row.lt i hi).2
  · exact (h.tails r hr).lt hi
theorem Goes.intro {w w' : World} {S : Nat → Prop} {p : Nat} {lm : Option Nat} {E : Ents} {v : Value} {rs : List ARef} {st : St} (h : DkE w' p lm E v rs st) (hf : ∀ i, ftp p lm E v rs i → S i ∨ w.heap.size ≤ i) (hk : Kp S w w') : Goes w S p st w' :=
  ⟨ftp p lm E v rs, ⟨lm, E, v, rs, h, fun _ e => e, fun i hi => h.ftp_lt hi⟩, hf, hk⟩
/-- Nothing of the disk has turned. -/
theorem Goes.same {w w' : World} {S : Nat → Prop} {p : Nat} {st : St} (h : Dk w S p st) (hk : Kp (fun _ => False) w w') : Goes w S p st w' := by
  obtain ⟨lm, E, v, rs, hD, hS, hSl⟩ := h
  exact Goes.intro (hD.same hk) (fun i hi => .inl (hS i hi)) (hk.mono (fun _ _ e => e.elim))
/-- All that is seen has been looked at. -/
theorem Goes.saw {w w0 w1 : World} {S : Nat → Prop} {p : Nat} {lm : Option Nat} {E : Ents} {v : Value} {rs : List ARef} {st : St} {m : Nat} {E' : Ents} (hD : DkE w p lm E v rs st) (hS : ∀ i, ftp p lm E v rs i → S i) (hk0 : Kp (fun _ => False) w w0) (hs : Saw w0 E st m E' w1) : Goes w S p st w1 :=
  Goes.intro ((hD.same hk0).saw hs) (fun i hi => .inl (hS i hi)) ((hk0.mono (S1 := S) (fun _ _ e => e.elim)).trans hs.2.2.2.1 (fun i _ e => hS i (.inr (.inr (.inl e)))))
theorem Goes.more {w w1 w2 : World} {S : Nat → Prop} {p : Nat} {st : St} (h : Goes w S p st w1) (hk : Kp (fun _ => False) w1 w2) : Goes w S p st w2 := by
  obtain ⟨S', hD, hS, hk1⟩ := h
  obtain ⟨S2, hD2, hS2, _⟩ := Goes.same hD hk
  refine ⟨S', ?_, hS, hk1.trans hk (fun _ _ e => e.elim)⟩
  obtain ⟨lm, E, v, rs, hE, h1, h2⟩ := hD
  exact ⟨lm, E, v, rs, hE.same hk, h1, fun i hi => Nat.lt_of_lt_of_le (h2 i hi) hk.size⟩

/-- The disk is what it was, in the same blocks. -/
def Stays (w : World) (S : Nat → Prop) (p : Nat) (st : St) (w' : World) : Prop := Dk w' S p st ∧ Kp S w w'
theorem Stays.goes {w w' : World} {S : Nat → Prop} {p : Nat} {st : St} (h : Stays w S p st w') : Goes w S p st w' := ⟨S, h.1, fun i hi => .inl hi, h.2⟩
theorem Stays.same {w w' : World} {S : Nat → Prop} {p : Nat} {st : St} (h : Dk w S p st) (hk : Kp (fun _ => False) w w') : Stays w S p st w' := by
  obtain ⟨lm, E, v, rs, hD, hS, hSl⟩ := h
  exact ⟨⟨lm, E, v, rs, hD.same hk, hS, fun i hi => Nat.lt_of_lt_of_le (hSl i hi) hk.size⟩, hk.mono (fun _ _ e => e.elim)⟩
theorem Stays.saw {w w0 w1 : World} {S : Nat → Prop} {p : Nat} {lm : Option Nat} {E : Ents} {v : Value} {rs : List ARef} {st : St} {m : Nat} {E' : Ents} (hD : DkE w p lm E v rs st) (hS : ∀ i, ftp p lm E v rs i → S i) (hSl : ∀ i, S i → i < w.heap.size) (hk0 : Kp (fun _ => False) w w0) (hs : Saw w0 E st m E' w1) : Stays w S p st w1 :=
  ⟨⟨lm, E, v, rs, (hD.same hk0).saw hs, hS, fun i hi => Nat.lt_of_lt_of_le (hSl i hi) (Nat.le_trans hk0.size hs.2.2.2.1.size)⟩, (hk0.mono (S1 := S) (fun _ _ e => e.elim)).trans hs.2.2.2.1 (fun i _ e => hS i (.inr (.inr (.inl e))))⟩

/-- The error of a deed, ahead of its being counted; 0: there is none. -/
def wrongF (st : St) (a : ActL) : Int :=
  if st.down then 3
  else if badN a.name || (decide (a.kind = 3) && badN a.to) then 1
  else if a.kind = 0 then (if (getG (seenF st) a.name).isSome then 6 else if 64 ≤ (seenF st).length then 4 else 0)
  else if a.kind = 2 ∧ (a.num < 0 ∨ ((getG (seenF st) a.name).isSome = true ∧ ((bytesF (seenF st) a.name).length : Int) < a.num)) then 1
  else if (getG (seenF st) a.name).isSome = false then 5
  else if a.kind = 1 ∧ st.room < usedF (seenF st) + a.b.length then 4 else 0
def doE (st : St) (a : ActL) : Int := if wrongF st a = 0 then countE st else wrongF st a
def doS (st : St) (a : ActL) : St := if wrongF st a = 0 then waitF st a else st

/-- What the rest of a deed's call does, once nothing is wrong. -/
theorem Goes.wait {w w0 w1 w2 : World} {S : Nat → Prop} {p : Nat} {lm : Option Nat} {E : Ents} {v : Value} {rs : List ARef} {st st' : St} {m : Nat} {E' : Ents} {r : ARef} (hD : DkE w p lm E v rs st) (hS : ∀ i, ftp p lm E v rs i → S i) (hk0 : Kp (fun _ => False) w w0) (hs : Saw w0 E st m E' w1)
    (hw : ∃ v' rs', DkE w2 p lm E v' rs' st' ∧ (∀ x ∈ rs', x ∈ rs ∨ x = r) ∧ (∀ g, v'.ownBlock = some g → v.ownBlock = some g ∨ w1.heap.size ≤ g) ∧ Kp (fun i => i = p ∨ v.ownBlock = some i) w1 w2) (hr : ∀ g, r.tl.blk = some g → w.heap.size ≤ g) : Goes w S p st' w2 := by
  obtain ⟨v', rs', h1, h2, h3, h4⟩ := hw
  have hz := hk0.size
  have hz1 := hs.2.2.2.1.size
  have hk1 : Kp S w w1 := (hk0.mono (S1 := S) (fun _ _ e => e.elim)).trans hs.2.2.2.1 (fun i _ e => hS i (.inr (.inr (.inl e))))
  refine Goes.intro h1 (fun i hi => ?_) (hk1.trans h4 (fun i _ e => ?_))
  · rcases hi with rfl | hi | hi | hi | ⟨x, hx, hi⟩
    · exact .inl (hS _ (.inl rfl))
    · exact .inl (hS _ (.inr (.inl hi)))
    · exact .inl (hS _ (.inr (.inr (.inl hi))))
    · rcases h3 i hi with e | e
      · exact .inl (hS _ (.inr (.inr (.inr (.inl e)))))
      · exact .inr (by omega)
    · rcases h2 x hx with e | rfl
      · exact .inl (hS _ (.inr (.inr (.inr (.inr ⟨x, e, hi⟩)))))
      · exact .inr (hr i hi)
  · rcases e with rfl | e
    · exact hS _ (.inl rfl)
    · exact hS _ (.inr (.inr (.inr (.inl e))))

/-- A file more, or fewer. -/
theorem used_drop (L : List FileL) (k : List UInt8) : usedF (dropF L k) ≤ usedF L := by
  induction L with
  | nil => exact Nat.le_refl _
  | cons f L ih =>
    unfold dropF at ih ⊢
    rw [List.filter_cons]
    split
    · show f.2.length + _ ≤ f.2.length + _; omega
    · show _ ≤ f.2.length + _; omega
theorem used_put (L : List FileL) (f : FileL) : usedF (putF L f) = usedF (dropF L f.1) + f.2.length := by
  have h := congrArg usedF (List.takeWhile_append_dropWhile (p := fun g : FileL => Op.bytesLess g.1 f.1) (l := dropF L f.1))
  rw [usedF_append] at h
  unfold putF
  rw [usedF_append]
  show usedF _ + (f.2.length + usedF _) = _
  omega
theorem used_at {L : List FileL} (hs : SortedG L) {k : List UInt8} {b : List Int} (h : getG L k = some b) : usedF (dropF L k) + b.length = usedF L := by
  induction L with
  | nil => simp [getG] at h
  | cons f L ih =>
    obtain ⟨h1, h2⟩ := List.pairwise_cons.1 hs
    by_cases hf : f.1 = k
    · have hb : f.2 = b := by simpa [getG, hf] using h
      have hd : dropF (f :: L) k = L := by
        unfold dropF
        rw [List.filter_cons, if_neg (by simpa using hf), List.filter_eq_self]
        intro x hx
        have := h1 x hx
        have : x.1 ≠ k := fun e => by rw [e, ← hf, less_irrefl] at this; cases this
        simpa using this
      rw [hd, ← hb]
      show usedF L + f.2.length = f.2.length + usedF L
      omega
    · have hg : getG L k = some b := by simpa [getG, hf] using h
      have hd : dropF (f :: L) k = f :: dropF L k := by
        unfold dropF
        rw [List.filter_cons, if_pos (by simpa using hf)]
      rw [hd]
      have := ih h2 hg
      show f.2.length + usedF (dropF L k) + b.length = f.2.length + usedF L
      omega
theorem len_drop_at {L : List FileL} {k : List UInt8} (h : (getG L k).isSome = true) : (dropF L k).length + 1 ≤ L.length := by
  obtain ⟨b, hb⟩ := Option.isSome_iff_exists.1 h
  have hm := getG_mem hb
  have : (dropF L k).length < L.length := by
    unfold dropF
    exact List.length_filter_lt_length_iff_exists.2 ⟨_, hm, by simp⟩
  omega

/-- A deed that isn't wrong can be done. -/
theorem ok_of_right {st : St} {a : ActL} (hok : okFiles st.room (seenF st)) (hr : st.room ≤ 1073741824) (h0 : 0 ≤ a.kind) (h4 : a.kind ≤ 4) (hto : a.kind = 3 ∨ a.to = []) (hw : wrongF st a = 0) : okAct (seenF st) a ∧ okFiles st.room (doneF (seenF st) a) := by
  obtain ⟨hs, hl, hu⟩ := hok
  unfold wrongF at hw
  cases hdn : st.down with
  | true => rw [hdn] at hw; simp at hw
  | false =>
  rw [hdn] at hw
  simp only [Bool.false_eq_true, if_false] at hw
  cases hbn : (badN a.name || (decide (a.kind = 3) && badN a.to)) with
  | true => rw [hbn] at hw; simp at hw
  | false =>
  rw [hbn] at hw
  simp only [Bool.false_eq_true, if_false] at hw
  rw [Bool.or_eq_false_iff] at hbn
  have hn : a.name.length ≤ 16 := by
    have := hbn.1
    unfold badN at this
    rw [Bool.or_eq_false_iff] at this
    have := of_decide_eq_false this.2
    omega
  have ht : a.to.length ≤ 16 := by
    rcases hto with h3 | h3
    · have h5 := hbn.2
      rw [h3] at h5
      have h6 : badN a.to = false := by simpa using h5
      unfold badN at h6
      rw [Bool.or_eq_false_iff] at h6
      have := of_decide_eq_false h6.2
      omega
    · rw [h3]; simp
  by_cases k0 : a.kind = 0
  · rw [if_pos k0] at hw
    have hng : (getG (seenF st) a.name).isSome = false := by
      cases hg : (getG (seenF st) a.name).isSome
      · rfl
      · rw [hg] at hw; simp at hw
    rw [hng] at hw
    simp only [Bool.false_eq_true, if_false] at hw
    have hl2 : (seenF st).length < 64 := by
      rcases Nat.lt_or_ge (seenF st).length 64 with h | h
      · exact h
      · rw [if_pos h] at hw; simp at hw
    refine ⟨⟨by omega, by omega, hn, ht, fun e => by omega, fun e => by omega⟩, ?_⟩
    unfold doneF
    rw [if_pos k0]
    refine ⟨hs.put _, ?_, ?_⟩
    · rw [putF_eq, length_putG]
      have := length_dropG_le (seenF st) a.name
      simp only
      omega
    · rw [used_put]
      have := used_drop (seenF st) a.name
      simp only [List.length_nil]
      omega
  rw [if_neg k0] at hw
  by_cases k2c : a.kind = 2 ∧ (a.num < 0 ∨ ((getG (seenF st) a.name).isSome = true ∧ ((bytesF (seenF st) a.name).length : Int) < a.num))
  · rw [if_pos k2c] at hw; simp at hw
  rw [if_neg k2c] at hw
  cases hg : (getG (seenF st) a.name).isSome with
  | false => rw [hg] at hw; simp at hw
  | true =>
  rw [hg] at hw k2c
  simp only [Bool.true_eq_false, if_false] at hw
  obtain ⟨b, hb⟩ := Option.isSome_iff_exists.1 hg
  have hby : bytesF (seenF st) a.name = b := by rw [bytes_get, hb]; rfl
  have hus := used_at hs hb
  have hld := len_drop_at hg
  by_cases k1 : a.kind = 1
  · have hroom : usedF (seenF st) + a.b.length ≤ st.room := by
      rcases Nat.lt_or_ge st.room (usedF (seenF st) + a.b.length) with h | h
      · rw [if_pos ⟨k1, h⟩] at hw; simp at hw
      · exact h
    refine ⟨⟨by omega, by omega, hn, ht, fun e => by omega, fun e => by rw [hby]; omega⟩, ?_⟩
    unfold doneF
    rw [if_neg k0, if_pos k1, hby]
    refine ⟨hs.put _, ?_, ?_⟩
    · rw [putF_eq, length_putG, ← dropF_eq]
      exact Nat.le_trans hld hl
    · rw [used_put]
      simp only [List.length_append]
      omega
  by_cases k2 : a.kind = 2
  · have hnum : 0 ≤ a.num ∧ a.num ≤ (b.length : Int) := by
      rw [hby] at k2c
      constructor
      · rcases Int.lt_or_le a.num 0 with h | h
        · exact absurd ⟨k2, .inl h⟩ k2c
        · exact h
      · rcases Int.lt_or_le (b.length : Int) a.num with h | h
        · exact absurd ⟨k2, .inr ⟨rfl, h⟩⟩ k2c
        · exact h
    refine ⟨⟨by omega, by omega, hn, ht, fun e => by rw [hby]; exact hnum, fun e => by omega⟩, ?_⟩
    unfold doneF
    rw [if_neg k0, if_neg k1, if_pos k2, hby]
    refine ⟨hs.put _, ?_, ?_⟩
    · rw [putF_eq, length_putG, ← dropF_eq]
      exact Nat.le_trans hld hl
    · rw [used_put]
      simp only [List.length_take]
      omega
  by_cases k3 : a.kind = 3
  · refine ⟨⟨by omega, by omega, hn, ht, fun e => by omega, fun e => by omega⟩, ?_⟩
    unfold doneF
    rw [if_neg k0, if_neg k1, if_neg k2, if_pos k3, hby]
    refine ⟨(hs.drop a.name).put _, ?_, ?_⟩
    · rw [putF_eq, length_putG]
      have := length_dropG_le (dropF (seenF st) a.name) a.to
      simp only
      omega
    · rw [used_put]
      have := used_drop (dropF (seenF st) a.name) a.to
      simp only
      omega
  · refine ⟨⟨by omega, by omega, hn, ht, fun e => by omega, fun e => by omega⟩, ?_⟩
    unfold doneF
    rw [if_neg k0, if_neg k1, if_neg k2, if_neg k3]
    refine ⟨hs.drop a.name, by omega, by omega⟩

theorem empty_list : ByteArray.empty.toList = [] := by rw [ByteArray.toList_eq]; rfl

set_option maxRecDepth 100000 in
set_option maxHeartbeats 400000 in
theorem make_any (S : Nat → Prop) (p : Nat) (st : St) (nm : ByteArray) (w : World) (h : Dk w S p st) (hd : st.deeds ≤ 1099511627776) (hnm : nm.size ≤ maxLen) :
    Calls Try.prog 27 #[.pointer (some ⟨p, 0, none⟩), .string nm] w fun e w' => e = .returned (.int .u8 (doE st ⟨0, nm.toList, [], [], 0, 0⟩)) ∧ Goes w S p (doS st ⟨0, nm.toList, [], [], 0, 0⟩) w' := by
  obtain ⟨a, ha⟩ : ∃ a : ActL, a = ⟨0, nm.toList, [], [], 0, 0⟩ := ⟨_, rfl⟩
  rw [← ha]
  obtain ⟨lm, E, v, rs, hD, hS, hSl⟩ := h
  have hk0 : Kp (fun _ => False) w (w.alloc (.cells #[.string nm] 9)) := (Kp.refl _ _).alloc _
  have hcs := Cs.new w [.string nm] 9
  obtain ⟨w0, hw0⟩ : ∃ w0, w0 = w.alloc (.cells #[.string nm] 9) := ⟨_, rfl⟩
  have hcs : Cs w0 (some ⟨w.heap.size, 0, none⟩) ([nm].map Value.string) := by rw [hw0]; exact hcs
  rw [← hw0] at hk0
  have hD0 := hD.same hk0
  have href := refuse_any p lm E v rs st (some ⟨w.heap.size, 0, none⟩) 1 [nm] w0 hD0 hcs (by simp) (by simp)
  have hseen := seen_any p lm E v rs st w0 hD0 hd
  have hw0' : w.alloc (.cells #[.string nm] 9) = w0 := hw0.symm
  clear hw0
  obtain ⟨c, hc⟩ : ∃ c, c = refuseE st ([nm].map ByteArray.toList) := ⟨_, rfl⟩
  rw [← hc] at href
  by_cases hc0 : c = 0
  · subst hc0
    obtain ⟨hdn, hbn⟩ : st.down = false ∧ badN nm.toList = false := by
      unfold refuseE at hc
      cases hdn : st.down
      · rw [hdn] at hc
        refine ⟨rfl, ?_⟩
        cases hb : badN nm.toList
        · rfl
        · simp [hb] at hc
      · rw [hdn] at hc; simp at hc
    have hok := hD.run.fold
    cases hth : (getG (seenF st) nm.toList).isSome with
    | true =>
      have HG : Hid (doE st a = 6 ∧ doS st a = st) := by
        have : wrongF st a = 6 := by unfold wrongF; rw [ha]; simp [hdn, hbn, hth]
        exact ⟨by rw [doE, this]; rfl, by rw [doS, this]; rfl⟩
      rw [HG.out.1, HG.out.2]
      have HTH : Hid ((getG (seenF st) nm.toList).isSome = true) := hth
      clear hc ha hth hok hdn hbn
      go_enter Try.func27, Try.ntmps27
      go_wp2_with fail
      refine href.mono ?_
      rintro e w1 ⟨rfl, rfl⟩
      go_wp2_with fail
      refine hseen.mono ?_
      rintro e w2 ⟨m, E', rfl, hsaw⟩
      have hg : (getG E' nm.toList).isSome = true := by
        have h5 := HTH.out
        rw [← hsaw.2.2.1, files_get, Option.isSome_map] at h5
        exact h5
      have hmp := hsaw.2.1
      go_wp2_with (first | (at_lookup; refine wpList_at_sl_ok _ rfl _ _ rfl m E' rfl hmp nm rfl hnm ?_; rw [hg]))
      go_ret
      exact ⟨rfl, Goes.saw hD hS hk0 hsaw⟩
    | false =>
      by_cases hfl : 64 ≤ (seenF st).length
      · have HG : Hid (doE st a = 4 ∧ doS st a = st) := by
          have : wrongF st a = 4 := by unfold wrongF; rw [ha]; simp [hdn, hbn, hth, hfl]
          exact ⟨by rw [doE, this]; rfl, by rw [doS, this]; rfl⟩
        rw [HG.out.1, HG.out.2]
        have HTH : Hid ((getG (seenF st) nm.toList).isSome = false) := hth
        have HFL : Hid (64 ≤ (seenF st).length) := hfl
        clear hc ha hth hok hdn hbn hfl
        go_enter Try.func27, Try.ntmps27
        go_wp2_with fail
        refine href.mono ?_
        rintro e w1 ⟨rfl, rfl⟩
        go_wp2_with fail
        refine hseen.mono ?_
        rintro e w2 ⟨m, E', rfl, hsaw⟩
        have hg : (getG E' nm.toList).isSome = false := by
          have h5 := HTH.out
          rw [← hsaw.2.2.1, files_get, Option.isSome_map] at h5
          exact h5
        have hmp := hsaw.2.1
        obtain ⟨N, hN⟩ : ∃ N, N = E'.length := ⟨_, rfl⟩
        have hlen : ∀ ty, Sem.run Try.prog (Builtin.len_ #[63] ty #[.map (some m)]) w2 = .ok (.int .i64 (N : Int)) w2 := fun ty => by
          have := hmp.1.len Try.underlying63 ty
          rw [dOf_size, ← hN] at this
          exact this
        have hN1 : 64 ≤ N := by rw [hN, ← files_length, hsaw.2.2.1]; exact HFL.out
        clear hN
        go_wp2_with (first | (at_lookup; refine wpList_at_sl_ok _ rfl _ _ rfl m E' rfl hmp nm rfl hnm ?_; rw [hg]))
        go_ret
        exact ⟨rfl, Goes.saw hD hS hk0 hsaw⟩
      · have hw : wrongF st a = 0 := by unfold wrongF; rw [ha]; simp [hdn, hbn, hth, hfl]
        have HG : Hid (doE st a = countE st ∧ doS st a = waitF st a) := ⟨by rw [doE, if_pos hw], by rw [doS, if_pos hw]⟩
        rw [HG.out.1, HG.out.2]
        obtain ⟨ho1, ho2⟩ := ok_of_right hok hD.room (by rw [ha]; simp) (by rw [ha]; simp) (by rw [ha]; exact .inr rfl) hw
        obtain ⟨r, hr⟩ : ∃ r : ARef, r = ⟨0, nm, ByteArray.empty, none, 0, 0, [], 0, 0⟩ := ⟨_, rfl⟩
        have hra : r.act = a := by rw [hr, ha]; show (⟨0, nm.toList, ByteArray.empty.toList, [], 0, 0⟩ : ActL) = _; rw [empty_list]
        have hrt : r.tl = ⟨none, 0, 0⟩ := by rw [hr]; rfl
        have hrz : r.zs = [] := by rw [hr]
        have hrd : r.deed = .agg #[.int .i64 0, .string nm, .string ByteArray.empty, .slice none 0 0, .int .i64 0] := by rw [hr]; rfl
        have HTH : Hid ((getG (seenF st) nm.toList).isSome = false) := hth
        have HFL : Hid (¬ 64 ≤ (seenF st).length) := hfl
        have HWT : Hid (∀ w2 m E', Saw w0 E st m E' w2 → Calls Try.prog 45 #[.pointer (some ⟨p, 0, none⟩), .agg #[.int .i64 0, .string nm, .string ByteArray.empty, .slice none 0 0, .int .i64 0]] w2 fun e w' => e = .returned (.int .u8 (countE st)) ∧ Goes w S p (waitF st a) w') := fun w2 m E' hsaw => by
          have h5 := wait_any p lm E v rs st r w2 (hD0.saw hsaw) hd (by rw [hrt, hrz]; exact Fl.nil _) (fun e he g hg e' => by rw [hrt] at e'; cases e') (by rw [hra]; exact ho1) (by rw [hra]; exact ho2)
          rw [hrd, hra] at h5
          refine h5.mono ?_
          rintro e w3 ⟨rfl, h6⟩
          exact ⟨rfl, Goes.wait hD hS hk0 hsaw h6 (fun g e' => by rw [hrt] at e'; cases e')⟩
        clear hc ha hth hok hdn hbn hfl hr hra hrt hrz hrd ho1 ho2 hw
        go_enter Try.func27, Try.ntmps27
        go_wp2_with fail
        refine href.mono ?_
        rintro e w1 ⟨rfl, rfl⟩
        go_wp2_with fail
        refine hseen.mono ?_
        rintro e w2 ⟨m, E', rfl, hsaw⟩
        have hg : (getG E' nm.toList).isSome = false := by
          have h5 := HTH.out
          rw [← hsaw.2.2.1, files_get, Option.isSome_map] at h5
          exact h5
        have hmp := hsaw.2.1
        obtain ⟨N, hN⟩ : ∃ N, N = E'.length := ⟨_, rfl⟩
        have hlen : ∀ ty, Sem.run Try.prog (Builtin.len_ #[63] ty #[.map (some m)]) w2 = .ok (.int .i64 (N : Int)) w2 := fun ty => by
          have := hmp.1.len Try.underlying63 ty
          rw [dOf_size, ← hN] at this
          exact this
        have hN1 : N < 64 := by rw [hN, ← files_length, hsaw.2.2.1]; have := HFL.out; omega
        clear hN
        go_wp2_with (first | (at_lookup; refine wpList_at_sl_ok _ rfl _ _ rfl m E' rfl hmp nm rfl hnm ?_; rw [hg]) | (go_at_call 45; refine (HWT.out w2 m E' hsaw).mono ?_; rintro e w3 ⟨rfl, h6⟩; dsimp only))
        go_ret
        exact ⟨rfl, h6⟩
  · have HW : Hid (wrongF st a = c) := by
      have : wrongF st a = c := by
        rw [hc] at hc0 ⊢
        unfold refuseE at hc0 ⊢
        unfold wrongF
        cases hdn : st.down
        · rw [hdn] at hc0
          simp only [Bool.false_eq_true, if_false] at hc0 ⊢
          cases hbn : ([nm].map ByteArray.toList).any badN
          · rw [hbn] at hc0; simp at hc0
          · rw [ha]
            have h5 : badN nm.toList = true := by simpa using hbn
            simp [h5]
        · rfl
      exact this
    have t0 : (c == 0) = false := by simpa using hc0
    have HG : Hid (doE st a = c ∧ doS st a = st) := ⟨by rw [doE, HW.out, if_neg hc0], by rw [doS, HW.out, if_neg hc0]⟩
    clear hc hseen hc0
    rw [HG.out.1, HG.out.2]
    go_enter Try.func27, Try.ntmps27
    go_wp2_with fail
    refine href.mono ?_
    rintro e w1 ⟨rfl, rfl⟩
    go_wp2
    go_ret
    exact ⟨rfl, Goes.same ⟨lm, E, v, rs, hD, hS, hSl⟩ hk0⟩
end Go.Proofs.Ytngkapddobgfaaa
