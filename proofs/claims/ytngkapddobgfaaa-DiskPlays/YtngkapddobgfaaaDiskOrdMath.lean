/-
  Plain facts on the files behind some of the deeds that wait: a file that is there is put in its own place; what a crash keeps.
-/
import Derived.Test.YtngkapddobgfaaaDiskLaw2
namespace Go.Proofs.Ytngkapddobgfaaa
open Go.RowKit Go.Maps
set_option linter.unusedVariables false

theorem put_there {L : List FileL} (hs : SortedG L) {k : List UInt8} (hk : (getG L k).isSome = true) (z : List Int) : putG L (k, z) = L.map fun f => if f.1 = k then (k, z) else f := by
  induction L with
  | nil => cases hk
  | cons x r ih =>
    obtain ⟨h1, h2⟩ := List.pairwise_cons.1 hs
    by_cases hx : x.1 = k
    · have hr : ∀ y ∈ r, y.1 ≠ k := fun y hy e => by
        have := h1 y hy
        rw [e, hx, less_irrefl] at this
        cases this
      have hd : dropG (x :: r) k = r := by
        unfold dropG
        rw [List.filter_cons, if_neg (by simp [hx]), List.filter_eq_self]
        intro y hy
        simpa using hr y hy
      have ht : r.takeWhile (fun g => Op.bytesLess g.1 k) = [] ∧ r.dropWhile (fun g => Op.bytesLess g.1 k) = r := by
        cases r with
        | nil => exact ⟨rfl, rfl⟩
        | cons y r =>
          have hy := h1 y List.mem_cons_self
          rw [hx] at hy
          have hn := less_asymm hy
          exact ⟨by rw [List.takeWhile_cons, if_neg (by rw [hn]; simp)], by rw [List.dropWhile_cons, if_neg (by rw [hn]; simp)]⟩
      unfold putG
      rw [hd, ht.1, ht.2, List.map_cons, if_pos hx, List.nil_append]
      congr 1
      symm
      refine Eq.trans (List.map_congr_left (g := id) (fun y hy => ?_)) (List.map_id _)
      exact if_neg (hr y hy)
    · have hk' : (getG r k).isSome = true := by
        unfold getG at hk ⊢
        rw [List.find?_cons_of_neg (by simpa using hx)] at hk
        exact hk
      obtain ⟨b, hb⟩ := Option.isSome_iff_exists.1 hk'
      have hlt := h1 _ (getG_mem hb)
      have hd : dropG (x :: r) k = x :: dropG r k := by
        unfold dropG
        rw [List.filter_cons, if_pos (by simp [hx])]
      have := ih h2 hk'
      unfold putG at this ⊢
      simp only at this ⊢
      rw [hd, List.takeWhile_cons, if_pos hlt, List.dropWhile_cons, if_pos hlt, List.cons_append, this, List.map_cons, if_neg hx]

theorem put_same {L : List FileL} (hs : SortedG L) {k : List UInt8} {b : List Int} (hk : getG L k = some b) : putG L (k, b) = L := by
  rw [put_there hs (by rw [hk]; rfl)]
  refine Eq.trans (List.map_congr_left (g := id) (fun f hf => ?_)) (List.map_id _)
  split
  · rename_i e
    have h1 := get_of_mem hs.names (k := f.1) (b := f.2) hf
    rw [e, hk] at h1
    cases h1
    exact Prod.ext e.symm rfl
  · rfl

/-- A longer file in the place of one that is there. -/
theorem put_more {L : List FileL} (hs : SortedG L) {k : List UInt8} (hk : (getG L k).isSome = true) (z : List Int) : putG L (k, bytesF L k ++ z) = L.map fun f => if f.1 = k then (f.1, f.2 ++ z) else f := by
  rw [put_there hs hk]
  refine List.map_congr_left fun f hf => ?_
  split
  · rename_i e
    have h1 := get_of_mem hs.names (k := f.1) (b := f.2) hf
    rw [bytes_get, ← e, h1]
    rfl
  · rfl

theorem done_sorted {L : List FileL} (h : SortedG L) (a : ActL) : SortedG (doneF L a) := by
  unfold doneF
  split
  · exact h.put _
  split
  · exact h.put _
  split
  · exact h.put _
  split
  · exact (h.drop _).put _
  · exact h.drop _
theorem fold_sorted (al : List ActL) : ∀ {L : List FileL}, SortedG L → SortedG (foldF L al) := by
  induction al with
  | nil => intro L h; exact h
  | cons a al ih => intro L h; exact ih (done_sorted h a)

theorem deed_kind {a : ActL} (h0 : 0 ≤ a.kind) (h4 : a.kind < 5) : (deedA a).kind = a.kind := by
  unfold deedA
  repeat' split
  all_goals simp_all
  all_goals omega
theorem deed_one {a : ActL} (h : a.kind = 1) : deedA a = ⟨1, a.name, [], a.b, 0, 0⟩ := by
  unfold deedA
  rw [if_neg (by omega), if_pos h]

/-- The disk of the walk: nothing lasts yet, each call that went well waits. -/
structure Ord (R : Nat) (st : St) (nx : List ARef) : Prop where
  idle : Idle R st
  good : Good st
  last : st.last = []
  waits : st.waits = nx.map fun r => deedA r.act
  deeds : st.deeds = nx.length
  there : ∀ k a, st.waits[k]? = some a → a.kind = 1 → (getG (foldF [] (st.waits.take k)) a.name).isSome = true

theorem ord_new (R : Nat) : Ord R (newS R) [] := ⟨idle_new R, good_new R, rfl, rfl, rfl, fun k a h => by cases h⟩
theorem Ord.seen {R : Nat} {st : St} {nx : List ARef} (h : Ord R st nx) : seenF st = foldF [] (st.waits.take nx.length) := by
  unfold seenF
  rw [h.last, List.take_of_length_le (by rw [h.waits, List.length_map]; exact Nat.le_refl _)]

/-- A call that may wait. -/
theorem ord_step {R : Nat} {st : St} {nx : List ARef} (h : Ord R st nx) (r : ARef) (hk : r.kind < 5) :
    (playE st r.act = 0 ∧ Ord R (playS st r.act) (nx ++ [r]) ∧ ∀ k, k ≤ nx.length → (playS st r.act).waits.take k = st.waits.take k) ∨ (playE st r.act ≠ 0 ∧ playS st r.act = st) := by
  have hk' : r.act.kind < 5 := hk
  obtain ⟨⟨i1, i2, i3⟩, hg, hl, hw, hd, ht⟩ := h
  have hwr := wrong_up i1 (deedA r.act)
  unfold playE playS
  rw [if_pos hk', if_pos hk']
  by_cases h0 : wrongF st (deedA r.act) = 0
  · have ha : st.armed ≠ 1 := by omega
    have e1 : doS st (deedA r.act) = { st with armed := st.armed - 1, deeds := st.deeds + 1, waits := st.waits ++ [deedA r.act] } := by
      unfold doS waitF; rw [if_pos h0, if_neg ha]
    have hwl : st.waits.length = nx.length := by rw [hw, List.length_map]
    refine .inl ⟨?_, ⟨⟨?_, ?_, ?_⟩, good_do hg _, ?_, ?_, ?_, ?_⟩, ?_⟩
    · unfold doE countE; rw [if_pos h0, if_neg ha]
    · rw [e1]; exact i1
    · rw [e1]; show st.armed - 1 = 0; omega
    · rw [e1]; exact i3
    · rw [e1]; exact hl
    · rw [e1]; show st.waits ++ [deedA r.act] = _; rw [hw, List.map_append]; rfl
    · rw [e1]; show st.deeds + 1 = _; rw [hd, List.length_append]; rfl
    · rw [e1]
      intro k a hk1 ha1
      have hk1' : (st.waits ++ [deedA r.act])[k]? = some a := hk1
      show (getG (foldF [] ((st.waits ++ [deedA r.act]).take k)) a.name).isSome = true
      rcases Nat.lt_or_ge k st.waits.length with hlt | hge
      · rw [List.getElem?_append_left hlt] at hk1'
        rw [List.take_append_of_le_length (by omega)]
        exact ht k a hk1' ha1
      · have hke : k = st.waits.length := by
          rcases Nat.lt_or_ge st.waits.length k with h' | h'
          · rw [List.getElem?_eq_none (by simp; omega)] at hk1'; cases hk1'
          · omega
        rw [hke, List.getElem?_append_right (Nat.le_refl _), Nat.sub_self] at hk1'
        have hae : a = deedA r.act := by simpa using hk1'.symm
        rw [hke, List.take_append_of_le_length (Nat.le_refl _), List.take_of_length_le (Nat.le_refl _)]
        have hse : seenF st = foldF [] st.waits := by unfold seenF; rw [hl]
        rw [hwr, hse] at h0
        rw [hae] at ha1 ⊢
        unfold wrongL at h0
        cases hx : (getG (foldF [] st.waits) (deedA r.act).name).isSome with
        | true => rfl
        | false =>
          rw [hx, ha1] at h0
          simp at h0
          split at h0 <;> cases h0
    · intro k hk2
      rw [e1]
      show (st.waits ++ [deedA r.act]).take k = _
      rw [List.take_append_of_le_length (by omega)]
  · refine .inr ⟨?_, ?_⟩
    · unfold doE; rw [if_neg h0]; exact h0
    · unfold doS; rw [if_neg h0]

theorem cut_nat (keep : Int) (M : Nat) : ∃ k : Nat, cutZ keep (M : Int) = (k : Int) ∧ k ≤ M := by
  unfold cutZ
  split
  · exact ⟨0, rfl, Nat.zero_le _⟩
  · split
    · exact ⟨M, rfl, Nat.le_refl _⟩
    · exact ⟨keep.toNat, by omega, by omega⟩

/-- What is seen behind a crash: just some deeds. -/
theorem ord_same {R : Nat} {st : St} {nx : List ARef} (h : Ord R st nx) (keep torn : Int) {k : Nat} (hk : cutZ keep (nx.length : Int) = (k : Int)) (hc : k = nx.length ∨ ∃ r, nx[k]? = some r ∧ (0 ≤ r.kind ∧ r.kind < 5) ∧ (r.kind ≠ 1 ∨ torn ≤ 0)) :
    seenF (crashF st keep torn) = foldF [] (st.waits.take k) := by
  have hwl : st.waits.length = nx.length := by rw [h.waits, List.length_map]
  rw [(idle_crash rfl keep torn).2.2.2, h.last]
  unfold crashW
  rw [hwl, hk, Int.toNat_natCast]
  rcases hc with rfl | ⟨r, hr, hr5, hc⟩
  · rw [List.getElem?_eq_none (by omega)]
  · have hw : st.waits[k]? = some (deedA r.act) := by rw [h.waits, List.getElem?_map, hr]; rfl
    rw [hw]
    simp only
    have hkd : (deedA r.act).kind = r.kind := deed_kind (a := r.act) hr5.1 hr5.2
    by_cases h1 : r.kind = 1
    · have ht : torn ≤ 0 := by omega
      rw [if_pos (by rw [hkd, h1])]
      have hth := h.there k _ hw (by rw [hkd, h1])
      rw [deed_one (a := r.act) h1] at hth ⊢
      have hb : tornA ⟨1, r.act.name, [], r.act.b, 0, 0⟩ torn = ⟨1, r.act.name, [], [], 0, 0⟩ := by
        unfold tornA
        have : (cutZ torn (r.act.b.length : Int)).toNat = 0 := by unfold cutZ; repeat' split <;> omega
        simp only
        rw [this]; rfl
      rw [hb]
      show (st.waits.take k ++ [_]).foldl doneF [] = _
      rw [List.foldl_append, List.foldl_cons, List.foldl_nil]
      show doneF (foldF [] (st.waits.take k)) _ = _
      unfold doneF
      simp only
      rw [if_neg (by omega), if_pos trivial, putF_eq, List.append_nil]
      obtain ⟨b, hb'⟩ := Option.isSome_iff_exists.1 hth
      rw [bytes_get, hb']
      exact put_same (fold_sorted _ List.Pairwise.nil) hb'
    · rw [if_neg (by rw [hkd]; exact h1)]

/-- What is seen behind a crash that tears an append. -/
theorem ord_torn {R : Nat} {st : St} {nx : List ARef} (h : Ord R st nx) (keep torn : Int) {k : Nat} (hk : cutZ keep (nx.length : Int) = (k : Int)) {r : ARef} (hr : nx[k]? = some r) (h1 : r.kind = 1) :
    seenF (crashF st keep torn) = (foldF [] (st.waits.take k)).map fun f => if f.1 = r.name.toList then (f.1, f.2 ++ r.zs.take (cutZ torn (r.zs.length : Int)).toNat) else f := by
  have hwl : st.waits.length = nx.length := by rw [h.waits, List.length_map]
  rw [(idle_crash rfl keep torn).2.2.2, h.last]
  unfold crashW
  rw [hwl, hk, Int.toNat_natCast]
  have hw : st.waits[k]? = some (deedA r.act) := by rw [h.waits, List.getElem?_map, hr]; rfl
  rw [hw]
  simp only
  have hkd : (deedA r.act).kind = r.kind := deed_kind (a := r.act) (by show 0 ≤ r.kind; omega) (by show r.kind < 5; omega)
  rw [if_pos (by rw [hkd, h1])]
  have hth := h.there k _ hw (by rw [hkd, h1])
  rw [deed_one (a := r.act) h1] at hth ⊢
  show (st.waits.take k ++ [_]).foldl doneF [] = _
  rw [List.foldl_append, List.foldl_cons, List.foldl_nil]
  show doneF (foldF [] (st.waits.take k)) (tornA _ torn) = _
  unfold doneF tornA
  simp only
  rw [if_neg (by omega), if_pos trivial, putF_eq]
  exact put_more (fold_sorted _ List.Pairwise.nil) hth _
end Go.Proofs.Ytngkapddobgfaaa
