/-
  All files of a disk read by a law, and two such lists held side by side.
-/
import Derived.Test.YtngkapddobgfaaaDiskCall
import Derived.Deep.RegionLaw
namespace Go.Proofs.Ytngkapddobgfaaa
open Go.RowKit Go.Maps
set_option linter.unusedVariables false

/-- Good names alone. -/
def GoodA (a : ActL) : Prop := badN a.name = false ∧ (a.kind = 3 → badN a.to = false)
def Good (st : St) : Prop := (∀ f ∈ st.last, badN f.1 = false) ∧ ∀ a ∈ st.waits, GoodA a

theorem done_good {L : List FileL} {a : ActL} (h : ∀ f ∈ L, badN f.1 = false) (ha : GoodA a) : ∀ f ∈ doneF L a, badN f.1 = false := by
  intro f hf
  unfold doneF at hf
  by_cases k0 : a.kind = 0
  · rw [if_pos k0, putF_eq] at hf
    rcases mem_putG.1 hf with rfl | ⟨h1, _⟩
    · exact ha.1
    · exact h f h1
  rw [if_neg k0] at hf
  by_cases k1 : a.kind = 1
  · rw [if_pos k1, putF_eq] at hf
    rcases mem_putG.1 hf with rfl | ⟨h1, _⟩
    · exact ha.1
    · exact h f h1
  rw [if_neg k1] at hf
  by_cases k2 : a.kind = 2
  · rw [if_pos k2, putF_eq] at hf
    rcases mem_putG.1 hf with rfl | ⟨h1, _⟩
    · exact ha.1
    · exact h f h1
  rw [if_neg k2] at hf
  by_cases k3 : a.kind = 3
  · rw [if_pos k3, putF_eq] at hf
    rcases mem_putG.1 hf with rfl | ⟨h1, _⟩
    · exact ha.2 k3
    · exact h f (mem_dropG.1 h1).1
  rw [if_neg k3, dropF_eq] at hf
  exact h f (mem_dropG.1 hf).1
theorem fold_good {al : List ActL} : ∀ {L : List FileL}, (∀ f ∈ L, badN f.1 = false) → (∀ a ∈ al, GoodA a) → ∀ f ∈ foldF L al, badN f.1 = false := by
  induction al with
  | nil => intro L h _ f hf; exact h f hf
  | cons a al ih => intro L h ha; exact ih (done_good h (ha a (by simp))) (fun x hx => ha x (by simp [hx]))
theorem Good.seen {st : St} (h : Good st) : ∀ f ∈ seenF st, badN f.1 = false := fold_good h.1 h.2
theorem good_new (room : Nat) : Good (newS room) := ⟨by simp [newS], by simp [newS]⟩
theorem good_wrong {st : St} {a : ActL} (h : wrongF st a = 0) : GoodA a := by
  unfold wrongF at h
  cases hd : st.down with
  | true => rw [hd] at h; simp at h
  | false =>
    rw [hd] at h
    simp only [Bool.false_eq_true, if_false] at h
    cases hb : (badN a.name || (decide (a.kind = 3) && badN a.to)) with
    | true => rw [hb] at h; simp at h
    | false =>
      rw [Bool.or_eq_false_iff] at hb
      exact ⟨hb.1, fun e => by simpa [e] using hb.2⟩
theorem good_do {st : St} (h : Good st) (a : ActL) : Good (doS st a) := by
  unfold doS
  by_cases h0 : wrongF st a = 0
  · rw [if_pos h0]
    unfold waitF
    split
    · exact h
    · exact ⟨h.1, fun x hx => by
        rcases List.mem_append.1 hx with h1 | h1
        · exact h.2 x h1
        · have : x = a := by simpa using h1
          rw [this]; exact good_wrong h0⟩
  · rw [if_neg h0]; exact h
theorem good_settle {st : St} (h : Good st) : Good (settleF st) := ⟨h.seen, by simp [settleF]⟩
theorem good_sync {st : St} (h : Good st) : Good (syncS st) := by
  unfold syncS
  split
  · exact h
  · split
    · unfold countF; split <;> exact h
    · refine good_settle ?_
      unfold countF; split <;> exact h
theorem good_crash {st : St} (h : Good st) (keep torn : Int) : Good (crashF st keep torn) := by
  refine ⟨fold_good h.1 (fun a ha => ?_), by simp [crashF]⟩
  unfold crashW at ha
  split at ha
  · rename_i x hx
    split at ha
    · rcases List.mem_append.1 ha with h1 | h1
      · exact h.2 a (List.mem_of_mem_take h1)
      · have : a = tornA x torn := by simpa using h1
        rw [this]
        exact h.2 x (List.mem_of_getElem? hx)
    · exact h.2 a (List.mem_of_mem_take ha)
  · exact h.2 a (List.mem_of_mem_take ha)

/-- Blocks that are none of the disk's have turned. -/
theorem DkT.turn {T T' : Nat → Prop} {w w' : World} {p : Nat} {st : St} (h : DkT T w p st) (hk : Kp (fun i => T i) w w') (hT : ∀ i, T' i → i < w'.heap.size) (hs : ∀ i, T' i → T i ∨ w.heap.size ≤ i) : DkT T' w' p st := by
  obtain ⟨h1, S, ⟨lm, E, v, rs, hD, hS, hSl⟩, hST⟩ := h
  refine ⟨hT, S, ⟨lm, E, v, rs, hD.kp hk (fun i hi e => absurd e (hST i (hS i hi))) (fun e he => (hD.last.fl e he).kp hk (fun g hg e' => hST g (hS g (.inr (.inr (.inl ⟨e, he, hg⟩)))) e')), hS, fun i hi => Nat.lt_of_lt_of_le (hSl i hi) hk.size⟩, fun i hi e => ?_⟩
  rcases hs i e with e' | e'
  · exact hST i hi e'
  · have := hSl i hi; omega

set_option maxRecDepth 100000 in
set_option maxHeartbeats 400000 in
theorem same_yes (a b : Option Addr) (n ca cb : Nat) (ss : List ByteArray) (w : World) (hn : n = ss.length) (ha : Cs w a (ss.map Value.string)) (hb : Cs w b (ss.map Value.string)) (hl : n ≤ 1000000) :
    Calls Try.prog 23 #[.slice a n ca, .slice b n cb] w fun e w' => e = .returned (.bool true) ∧ Below w.heap.size w w' := by
  go_enter Try.func23, Try.ntmps23
  go_wp2
  go_loopw [5] (fun i wr => ∃ k nq : Nat, i = .int .i64 (k : Int) ∧ k ≤ n ∧ wr = w.drewN nq) (fun i _ => n - (intOf i).toNat)
  case atStart => exact ⟨0, 0, rfl, by omega, rfl⟩
  case round =>
    obtain ⟨k, nq0, rfl, hk, rfl⟩ := hrel
    by_cases hlt : k < n
    · rcases ha with e | ⟨b1, o1, rfl, hb1, hc1⟩
      · have := congrArg List.length e
        rw [List.length_map, List.length_nil] at this
        omega
      rcases hb with e | ⟨b2, o2, rfl, hb2, hc2⟩
      · have := congrArg List.length e
        rw [List.length_map, List.length_nil] at this
        omega
      have d1 := hc1 k (by rw [List.length_map]; omega)
      have d2 := hc2 k (by rw [List.length_map]; omega)
      rw [List.getElem?_map, List.getElem?_eq_getElem (show k < ss.length by omega), Option.map_some] at d1 d2
      obtain ⟨s, hs⟩ : ∃ s, s = ss[k]'(by omega) := ⟨_, rfl⟩
      rw [← hs] at d1 d2
      clear hc1 hc2 hs hn
      go_wp2_with fail
      go_quiet (fail)
      go_wp2
      go_roundw
      case rel => exact ⟨k + 1, nq0 + nq, by go_num, by omega, rfl⟩
      case measure => simp [intOf]; omega
    · clear hn
      go_wp2
      go_ret
      exact ⟨rfl, ⟨rfl, rfl, rfl, Nat.le_refl _, fun _ _ => rfl⟩⟩

/-- Files as a law reads them: a name, its bytes, and so on. -/
def strsF (L : List FileL) : List ByteArray := L.flatMap fun f => [⟨f.1.toArray⟩, strOfNums f.2]
theorem strs_length (L : List FileL) : (strsF L).length = L.length * 2 := by
  induction L with
  | nil => rfl
  | cons f L ih => show (_ :: _ :: strsF L).length = _; simp [ih]; omega
theorem strs_take {L : List FileL} {k : Nat} {f : FileL} (h : L[k]? = some f) : strsF (L.take (k + 1)) = strsF (L.take k) ++ [⟨f.1.toArray⟩, strOfNums f.2] := by
  have hk : k < L.length := by
    rcases Nat.lt_or_ge k L.length with h' | h'
    · exact h'
    · rw [List.getElem?_eq_none h'] at h; cases h
  rw [List.getElem?_eq_getElem hk] at h
  cases h
  unfold strsF
  rw [List.take_succ_eq_append_getElem hk, List.flatMap_append]
  simp only [List.flatMap_cons, List.flatMap_nil, List.append_nil]
theorem row_base {w : World} {B : Nat} {e : TypeId} {size : Nat} {v : Value} {n : Nat} {xs : List Value} (h : w.ownsRow 0 e size v n xs) (hb : ∀ g, v.ownBlock = some g → B ≤ g) : w.ownsRow B e size v n xs := by
  obtain ⟨h1, h2⟩ := h
  refine ⟨h1, ?_⟩
  rcases h2 with h2 | ⟨g, cap, cur, rfl, hg, r⟩
  · exact .inl h2
  · exact .inr ⟨g, cap, cur, rfl, hb g rfl, r⟩
theorem arr_list (l : List UInt8) : (⟨l.toArray⟩ : ByteArray).toList = l := by rw [ByteArray.toList_eq]

theorem info_str : (Try.prog.info? 9).map (fun i => (i.zero, i.size, i.bytes)) = some (some (.string ByteArray.empty), 1, 16) := by kernel_rfl
theorem row1_kp {S : Nat → Prop} {w w' : World} {base : Nat} {e : TypeId} {v : Value} {n : Nat} {xs : List Value} (h : w.ownsRow base e 1 v n xs) (hk : Kp S w w') (hn : ∀ g, v.ownBlock = some g → ¬ S g) : w'.ownsRow base e 1 v n xs := by
  obtain ⟨h1, h2⟩ := h
  refine ⟨h1, ?_⟩
  rcases h2 with h2 | ⟨g, cap, cur, rfl, hg, hh, r⟩
  · exact .inl h2
  · exact .inr ⟨g, cap, cur, rfl, hg, (hk.block g (Array.getElem?_eq_some_iff.1 hh).1 (hn g rfl)).trans hh, r⟩

set_option maxRecDepth 100000 in
set_option maxHeartbeats 1000000 in
theorem readAll_t (T : Nat → Prop) (p : Nat) (st : St) (w : World) (h : DkT T w p st) (hd : st.deeds ≤ 1099511627776) (hup : st.down = false) (hg : Good st) :
    Calls Try.prog 21 #[.pointer (some ⟨p, 0, none⟩)] w fun e w' => ∃ v, e = .returned v ∧ w'.ownsRow w.heap.size 9 1 v ((seenF st).length * 2) ((strsF (seenF st)).map Value.string) ∧ DkT (fun i => T i ∨ v.ownBlock = some i) w' p st ∧ Kp (fun i => ¬ T i) w w' := by
  obtain ⟨_, hokf, _⟩ := h.deeds
  obtain ⟨L, hL⟩ : ∃ L, L = seenF st := ⟨_, rfl⟩
  have hnames := names_t T p st w h hd
  rw [← hL] at hnames hokf ⊢
  have HS : Hid (SortedG L ∧ ∀ f ∈ L, badN f.1 = false) := ⟨hokf.1, by rw [hL]; exact hg.seen⟩
  have hll : L.length ≤ 64 := hokf.2.1
  have HL : Hid (L = seenF st) := hL
  have hTl := h.1
  clear hokf hL hg h
  go_enter Try.func21, Try.ntmps21
  go_wp2_with fail
  refine hnames.mono ?_
  rintro e w1 ⟨v1, rfl, hrow1, hD1, hk1, hst1⟩
  clear hnames
  obtain ⟨a1, c1, rfl, l1, l2, l3, hcs1⟩ := ownsRow_cs hrow1
  have hs1 := hk1.size
  have HN1 : Hid (w1.ownsRow w.heap.size 9 1 (.slice a1 L.length c1) L.length ((namesF L).map encStr)) := hrow1
  obtain ⟨NB, hNB⟩ : ∃ NB : Nat → Prop, NB = fun i => (Value.slice a1 L.length c1).ownBlock = some i := ⟨_, rfl⟩
  have HNB : Hid (∀ i, NB i → w.heap.size ≤ i ∧ i < w1.heap.size) := fun i hi => by rw [hNB] at hi; exact hrow1.lt i hi
  have HNE : Hid (∀ i, (Value.slice a1 L.length c1).ownBlock = some i → NB i) := fun i hi => by rw [hNB]; exact hi
  have hDT := hst1 (fun i => T i ∨ NB i) (fun i hi => by
    rcases hi with e | e
    · exact Nat.lt_of_lt_of_le (hTl i e) hs1
    · exact (HNB.out i e).2) (fun i hi => by
    rcases hi with e | e
    · exact .inl e
    · exact .inr (HNB.out i e).1)
  clear hst1 hD1 hcs1 hNB hrow1
  go_wp2_with fail
  go_loopw [3, 5] (fun ov iv wr => ∃ k : Nat, iv = .int .i64 (k : Int) ∧ k ≤ L.length ∧ wr.ownsRow w.heap.size 9 1 ov (k * 2) ((strsF (L.take k)).map Value.string) ∧ wr.ownsRow w.heap.size 9 1 (.slice a1 L.length c1) L.length ((namesF L).map encStr) ∧
      (∀ g, ov.ownBlock = some g → w1.heap.size ≤ g) ∧ DkT (fun i => T i ∨ NB i ∨ ov.ownBlock = some i) wr p st ∧ Kp (fun i => ¬ T i) w wr ∧ w1.heap.size ≤ wr.heap.size) (fun _ iv _ => L.length - (intOf iv).toNat)
  case atStart =>
    refine ⟨0, rfl, Nat.zero_le _, World.ownsRow_nil _ _ _ _, HN1.out, (fun g hg => by cases hg), DkT.more hDT (fun i hi => ?_) (fun i hi => ?_), hk1, Nat.le_refl _⟩
    · rcases hi with e | e | e
      · exact Nat.lt_of_lt_of_le (hTl i e) hs1
      · exact (HNB.out i e).2
      · cases e
    · rcases hi with e | e | e
      · exact .inl e
      · exact .inr e
      · cases e
  case round =>
    obtain ⟨k, rfl, hk, hro, hrn, hob, hDk, hkk, hw1r⟩ := hrel
    by_cases hlt : k < L.length
    · obtain ⟨f, hf⟩ : ∃ f, L[k]? = some f := ⟨_, List.getElem?_eq_getElem hlt⟩
      have hfm : f ∈ L := List.mem_of_getElem? hf
      obtain ⟨nm, hnm⟩ : ∃ nm : ByteArray, nm = ⟨f.1.toArray⟩ := ⟨_, rfl⟩
      have hnl : nm.toList = f.1 := by rw [hnm]; exact arr_list f.1
      have hbad := HS.out.2 f hfm
      have hnsz : nm.size ≤ maxLen := by
        have h5 := hbad
        unfold badN at h5
        rw [Bool.or_eq_false_iff] at h5
        have := of_decide_eq_false h5.2
        rw [← size_list, hnl]
        unfold maxLen; omega
      have hget : getG (seenF st) f.1 = some f.2 := by rw [← HL.out]; exact get_of_mem HS.out.1.names hfm
      have hrE : readE st f.1 = 0 := by unfold readE; rw [hup, hbad, hget]; rfl
      have hrB : readB st f.1 = f.2 := by unfold readB; rw [hrE, if_pos rfl, bytes_get, hget]; rfl
      obtain ⟨ao, co, rfl, _, _, _, _⟩ := ownsRow_cs hro
      have hread := read_t _ _ _ wr hDk nm hd hnsz
      rw [hnl, hrE, hrB] at hread
      obtain ⟨a1', c1', e1, _, _, _, hcs⟩ := ownsRow_cs hrn
      cases e1
      have hne : (namesF L).map encStr ≠ [] := fun e => by
        have := congrArg List.length e
        rw [List.length_map, namesF, List.length_map, List.length_nil] at this
        omega
      rcases hcs with e | ⟨b, off, rfl, hbl, hcell⟩
      · exact absurd e hne
      have hd1 := hcell k (by simp [namesF]; omega)
      rw [List.getElem?_map, namesF, List.getElem?_map, hf] at hd1
      have hd2 : wr.cell? ⟨b, off + k, none⟩ = some (.string nm) := by rw [hd1, hnm]; rfl
      have HF : Hid (L[k]? = some f ∧ nm = ⟨f.1.toArray⟩) := ⟨hf, hnm⟩
      have hbNB : NB b := HNE.out b rfl
      have hbW := HNB.out b hbNB
      clear hf hfm hnm hnl hbad hget hrE hrB hcell hd1 hne
      go_wp2_with fail
      refine hread.mono ?_
      rintro e w2 ⟨⟨sa, sn, sc⟩, rfl, hf2, _, hD2, hk2, _⟩
      have d2 := hk2.cell hd2 (fun e => e (.inr (.inl hbNB)))
      have hro2 := row1_kp hro hk2 (fun g hg e => e (.inr (.inr hg)))
      have hrn2 := row1_kp hrn hk2 (fun g hg e => e (.inr (.inl (HNE.out g hg))))
      have hstr := run_str (w := w2.drew) (hf2.bs.drewN 1) sc
      have hs2 := hk2.size
      have hskk := hkk.size
      have hkA : Kp (fun _ => False) w2 (w2.alloc (.cells #[.string nm, .string (strOfNums f.2)] 9)).drew := ((Kp.refl _ _).alloc _).drew
      obtain ⟨v3, w3, hrun, ho3, hg3, hv3⟩ := run_append_row (P := Try.prog) (w2.alloc (.cells #[.string nm, .string (strOfNums f.2)] 9)).drew 45 45 9 _ 1 16 Try.underlying45 info_str rfl (by decide) (.slice ao (k * 2) co) (k * 2) _ (ownsRow_mono (row1_kp hro2 hkA (fun _ _ e => e)) (Nat.zero_le _)) ⟨w2.heap.size, 0, none⟩ 2 2 [.string nm, .string (strOfNums f.2)] (Cs.new w2 [.string nm, .string (strOfNums f.2)] 9) rfl (by intro u hu; simp at hu; rcases hu with rfl | rfl <;> rfl) (by unfold maxLen; omega) (by omega)
      obtain ⟨a3, c3, rfl, _⟩ := ownsRow_cs ho3
      have hsA := hkA.size
      have hob3 : ∀ g, (Value.slice a3 (k * 2 + 2) c3).ownBlock = some g → w1.heap.size ≤ g := fun g hg => by
        rcases hv3 with e | e
        · rw [hg] at e; exact hob g e.symm
        · have := e g hg; omega
      have hkB : Kp (fun i => (Value.slice ao (k * 2) co).ownBlock = some i) w2 w3 := (hkA.mono (S1 := fun i => (Value.slice ao (k * 2) co).ownBlock = some i) (fun _ _ e => e.elim)).trans (Kp.of_grown hg3) (fun i _ e => e)
      have hs3 := hkB.size
      have hfin : w3.ownsRow w.heap.size 9 1 (.slice a3 (k * 2 + 2) c3) ((k + 1) * 2) ((strsF (L.take (k + 1))).map Value.string) ∧ w3.ownsRow w.heap.size 9 1 (.slice (some ⟨b, off, none⟩) L.length c1) L.length ((namesF L).map encStr) ∧
          DkT (fun i => T i ∨ NB i ∨ (Value.slice a3 (k * 2 + 2) c3).ownBlock = some i) w3 p st ∧ Kp (fun i => ¬ T i) w w3 := by
        refine ⟨?_, row1_kp hrn2 hkB (fun g hg e => ?_), DkT.turn hD2 (hkB.mono (fun i _ e => .inr (.inr e))) (fun i hi => ?_) (fun i hi => ?_), (hkk.trans hk2 (fun i _ e ht => e (.inl ht))).trans hkB (fun i hi e => ?_)⟩
        · have h7 := row_base (B := w.heap.size) ho3 (fun g hg => by have := hob3 g hg; omega)
          rw [strs_take HF.out.1, List.map_append, show (k + 1) * 2 = k * 2 + 2 by omega, ← HF.out.2]
          exact h7
        · have h8 := HNB.out g (HNE.out g hg)
          have h9 := hob g e
          omega
        · rcases hi with e | e | e
          · have := hTl i e; omega
          · have := (HNB.out i e).2; omega
          · exact (ho3.lt i e).2
        · rcases hi with e | e | e
          · exact .inl (.inl e)
          · exact .inl (.inr (.inl e))
          · rcases hv3 with e' | e'
            · rw [e] at e'; exact .inl (.inr (.inr e'.symm))
            · have := e' i e
              exact .inr (by omega)
        · have := hob i e
          omega
      have HFIN : Hid (w3.ownsRow w.heap.size 9 1 (.slice a3 (k * 2 + 2) c3) ((k + 1) * 2) ((strsF (L.take (k + 1))).map Value.string) ∧ w3.ownsRow w.heap.size 9 1 (.slice (some ⟨b, off, none⟩) L.length c1) L.length ((namesF L).map encStr) ∧
          DkT (fun i => T i ∨ NB i ∨ (Value.slice a3 (k * 2 + 2) c3).ownBlock = some i) w3 p st ∧ Kp (fun i => ¬ T i) w w3) := hfin
      have HRUN : Hid (Sem.run Try.prog (Builtin.append_ #[45, 45] 45 #[.slice ao (k * 2) co, .slice (some ⟨w2.heap.size, 0, none⟩) 2 2]) (w2.alloc (.cells #[.string nm, .string (strOfNums f.2)] 9)).drew = .ok (.slice a3 (k * 2 + 2) c3) w3) := hrun
      have HOB : Hid (∀ g, (Value.slice a3 (k * 2 + 2) c3).ownBlock = some g → w1.heap.size ≤ g) := hob3
      clear hfin hrun hob3 hread hf2 hD2 hk2 hro2 hrn2 hkA hkB ho3 hg3 hv3 hro hrn hob hDk hkk hd2
      unfold Sl.val
      go_wp2_with fail
      go_region_law (refine step_append_run _ rfl _ _ 45 rfl _ _ rfl rfl (.slice a3 (k * 2 + 2) c3) w3 HRUN.out ?_)
      all_goals go_wp2
      all_goals go_roundw
      all_goals first
        | exact ⟨k + 1, by go_num, by omega, HFIN.out.1, HFIN.out.2.1, HOB.out, HFIN.out.2.2.1, HFIN.out.2.2.2, by omega⟩
        | (simp [intOf]; omega)
    · obtain rfl : k = L.length := by omega
      rw [List.take_of_length_le (Nat.le_refl _)] at hro
      go_wp2
      go_ret
      refine ⟨_, rfl, hro, DkT.more hDk (fun i hi => ?_) (fun i hi => ?_), hkk⟩
      · rcases hi with e | e
        · exact Nat.lt_of_lt_of_le (hTl i e) hkk.size
        · exact (hro.lt i e).2
      · rcases hi with e | e
        · exact .inl e
        · exact .inr (.inr e)
end Go.Proofs.Ytngkapddobgfaaa
