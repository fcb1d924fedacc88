/-
  The document's disk and ours, as models: a call and the deed that is made of it do the same; what waits can be done.
-/
import Derived.Test.YtngkapddobgfaaaDiskFIn
import Derived.Test.YtngkapddobgfaaaDiskWrong
namespace Go.Proofs.Ytngkapddobgfaaa
open Go.RowKit Go.Maps
set_option linter.unusedVariables false

def IsDeed (a : ActL) : Prop := 0 ≤ a.kind ∧ a.kind ≤ 4

theorem deed_cases {a : ActL} (h : IsDeed a) : a.kind = 0 ∨ a.kind = 1 ∨ a.kind = 2 ∨ a.kind = 3 ∨ a.kind = 4 := by
  obtain ⟨h1, h2⟩ := h
  omega
theorem done_deed {a : ActL} (h : IsDeed a) (L : List FileL) : doneF L (deedA a) = doneF L a := by
  rcases deed_cases h with e | e | e | e | e <;> simp [deedA, doneF, e]
theorem fold_deed {al : List ActL} (h : ∀ a ∈ al, IsDeed a) (L : List FileL) : foldF L (al.map deedA) = foldF L al := by
  induction al generalizing L with
  | nil => rfl
  | cons a al ih =>
    show foldF (doneF L (deedA a)) (al.map deedA) = foldF (doneF L a) al
    rw [done_deed (h a (by simp)), ih (fun x hx => h x (by simp [hx]))]
theorem wrong_deed {a : ActL} (h : IsDeed a) (room : Nat) (L : List FileL) : wrongL room L (deedA a) = wrongL room L a := by
  rcases deed_cases h with e | e | e | e | e <;> simp [deedA, wrongL, e]
theorem torn_deed {a : ActL} (h : a.kind = 1) (k : Int) : tornA (deedA a) k = deedA (tornA a k) := by
  simp [deedA, tornA, h]
theorem kind_deed {a : ActL} (h : IsDeed a) : (deedA a).kind = a.kind := by
  rcases deed_cases h with e | e | e | e | e <;> simp [deedA, e]

theorem canRun.snoc {L : List FileL} {al : List ActL} (h : canRun L al) {a : ActL} (hc : canF (foldF L al) a) (hb : a.b.length ≤ 4294967296) (hu : usedF (doneF (foldF L al) a) ≤ 4294967296 ∧ (doneF (foldF L al) a).length ≤ 64) : canRun L (al ++ [a]) := by
  induction al generalizing L with
  | nil => exact ⟨h, hc, hb, hu⟩
  | cons b al ih => exact ⟨h.1, h.2.1, h.2.2.1, ih h.2.2.2 hc hu⟩
theorem canRun.take {L : List FileL} {al : List ActL} (h : canRun L al) (k : Nat) : canRun L (al.take k) := by
  induction al generalizing L k with
  | nil => simpa using h
  | cons b al ih =>
    cases k with
    | zero => exact h.1
    | succ k => exact ⟨h.1, h.2.1, h.2.2.1, ih h.2.2.2 k⟩
theorem canRun.nil {L : List FileL} (h : usedF L ≤ 4294967296 ∧ L.length ≤ 64) : canRun L [] := h
theorem canRun.fold {L : List FileL} {al : List ActL} (h : canRun L al) : usedF (foldF L al) ≤ 4294967296 ∧ (foldF L al).length ≤ 64 := by
  induction al generalizing L with
  | nil => exact h
  | cons b al ih => exact ih h.2.2.2

theorem can_right {room : Nat} {L : List FileL} {a : ActL} (h : IsDeed a) (hw : wrongL room L a = 0) : canF L a := by
  unfold wrongL at hw
  refine ⟨fun hk => ?_, fun hk => ?_⟩
  · rw [find_get]
    by_cases hg : (getG L a.name).isSome = true
    · exact hg
    · exfalso
      have h0 : a.kind ≠ 0 := by omega
      have hg' : (getG L a.name).isSome = false := by simpa using hg
      split at hw
      · omega
      · split at hw <;> omega
  · have h0 : a.kind ≠ 0 := by omega
    split at hw
    · omega
    · split at hw
      · omega
      · rename_i hn
        split at hw
        · omega
        · rename_i hg
          have hg' : (getG L a.name).isSome = true := by
            cases hq : (getG L a.name).isSome with
            | true => rfl
            | false => exact absurd hq hg
          have h1 : ¬ (a.num < 0 ∨ ((getG L a.name).isSome = true ∧ ((bytesF L a.name).length : Int) < a.num)) := fun e => hn ⟨hk, e⟩
          refine ⟨?_, ?_⟩
          · have : ¬ a.num < 0 := fun e => h1 (.inl e)
            omega
          · have : ¬ ((bytesF L a.name).length : Int) < a.num := fun e => h1 (.inr ⟨hg', e⟩)
            omega

/-- The document's disk (its calls, its numbers) beside ours, behind j calls. -/
structure Twin (j : Nat) (st : St) (al : List ActL) (armed : Int) (down : Bool) (deeds : Int) : Prop where
  deeds_ : ∀ a ∈ al, IsDeed a
  waits : al.map deedA = st.waits
  run : canRun st.last al
  down_ : down = st.down
  count : deeds = (st.deeds : Int)
  armed_ : st.down = true ∨ armed = (st.armed : Int) ∨ (4611686018427387904 - (j : Int) ≤ armed ∧ 4611686018427387904 - (j : Int) ≤ (st.armed : Int))
  low : 0 ≤ armed ∧ armed ≤ 4611686018427387904

theorem Twin.seen {j : Nat} {st : St} {al : List ActL} {armed : Int} {down : Bool} {deeds : Int} (h : Twin j st al armed down deeds) : seenF st = foldF st.last al := by
  unfold seenF
  rw [← h.waits, fold_deed h.deeds_]
theorem Twin.one {j : Nat} {st : St} {al : List ActL} {armed : Int} {down : Bool} {deeds : Int} (h : Twin j st al armed down deeds) (hj : j ≤ 1000) (hd : st.down = false) : armed = 1 ↔ st.armed = 1 := by
  rcases h.armed_ with e | e | e
  · rw [hd] at e; cases e
  · omega
  · omega
theorem twin_new (room : Nat) : Twin 0 (newS room) [] 0 false 0 :=
  ⟨by simp, rfl, ⟨by simp [newS, usedF], by simp [newS]⟩, rfl, rfl, .inr (.inl rfl), by omega⟩
theorem Twin.more {j : Nat} {st : St} {al : List ActL} {armed : Int} {down : Bool} {deeds : Int} (h : Twin j st al armed down deeds) : Twin (j + 1) st al armed down deeds :=
  ⟨h.deeds_, h.waits, h.run, h.down_, h.count, by
    rcases h.armed_ with e | e | e
    · exact .inl e
    · exact .inr (.inl e)
    · exact .inr (.inr (by omega)), h.low⟩
theorem Twin.arm {j : Nat} {st : St} {al : List ActL} {armed : Int} {down : Bool} {deeds : Int} (h : Twin j st al armed down deeds) (n : Int) : Twin (j + 1) (armF st n) al (cutZ n 4611686018427387904) down deeds := by
  refine ⟨h.deeds_, h.waits, h.run, h.down_, h.count, .inr ?_, ?_⟩
  · show cutZ n 4611686018427387904 = ((n.toNat : Nat) : Int) ∨ (_ ≤ cutZ n 4611686018427387904 ∧ _ ≤ ((n.toNat : Nat) : Int))
    unfold cutZ
    split
    · exact .inl (by omega)
    · split
      · exact .inr (by omega)
      · exact .inl (by omega)
  · unfold cutZ
    split
    · omega
    · split <;> omega
theorem Twin.goDown {j : Nat} {st : St} {al : List ActL} {armed : Int} {down : Bool} {deeds : Int} (h : Twin j st al armed down deeds) : Twin (j + 1) { st with armed := 0, down := true } al armed true deeds :=
  ⟨h.deeds_, h.waits, h.run, rfl, h.count, .inl rfl, h.low⟩
/-- The counting down of an arming. -/
def lessZ (armed : Int) : Int := if 1 < armed then armed - 1 else armed
theorem Twin.less {j : Nat} {st : St} {al : List ActL} {armed : Int} {down : Bool} {deeds : Int} (h : Twin j st al armed down deeds) (hj : j ≤ 1000) (hd : st.down = false) (h1 : armed ≠ 1) : (lessZ armed = ((st.armed - 1 : Nat) : Int) ∨ (4611686018427387904 - ((j + 1 : Nat) : Int) ≤ lessZ armed ∧ 4611686018427387904 - ((j + 1 : Nat) : Int) ≤ ((st.armed - 1 : Nat) : Int))) ∧ 0 ≤ lessZ armed ∧ lessZ armed ≤ 4611686018427387904 := by
  obtain ⟨l1, l2⟩ := h.low
  unfold lessZ
  rcases h.armed_ with e | e | e
  · rw [hd] at e; cases e
  · refine ⟨.inl ?_, ?_⟩
    · split <;> omega
    · split <;> omega
  · refine ⟨.inr ?_, ?_⟩
    · split <;> omega
    · split <;> omega
theorem Twin.deed {j : Nat} {st : St} {al : List ActL} {armed : Int} {down : Bool} {deeds : Int} (h : Twin j st al armed down deeds) (hj : j ≤ 1000) (hd : st.down = false) (h1 : armed ≠ 1) {a : ActL} (ha : IsDeed a) (hw : wrongL st.room (seenF st) a = 0) (hb : a.b.length ≤ 4294967296)
    (hu : usedF (doneF (seenF st) a) ≤ 4294967296 ∧ (doneF (seenF st) a).length ≤ 64) : Twin (j + 1) { st with armed := st.armed - 1, deeds := st.deeds + 1, waits := st.waits ++ [deedA a] } (al ++ [a]) (lessZ armed) down (deeds + 1) := by
  obtain ⟨m1, m2⟩ := h.less hj hd h1
  rw [h.seen] at hw hu
  refine ⟨fun x hx => ?_, ?_, h.run.snoc (can_right ha hw) hb hu, h.down_, ?_, .inr m1, m2⟩
  · rcases List.mem_append.1 hx with e | e
    · exact h.deeds_ x e
    · have : x = a := by simpa using e
      rw [this]; exact ha
  · rw [List.map_append, h.waits]; rfl
  · have := h.count
    show deeds + 1 = ((st.deeds + 1 : Nat) : Int)
    omega
theorem Twin.sync {j : Nat} {st : St} {al : List ActL} {armed : Int} {down : Bool} {deeds : Int} (h : Twin j st al armed down deeds) (hj : j ≤ 1000) (hd : st.down = false) (h1 : armed ≠ 1) : Twin (j + 1) (settleF { st with armed := st.armed - 1, deeds := st.deeds + 1 }) [] (lessZ armed) down (deeds + 1) := by
  obtain ⟨m1, m2⟩ := h.less hj hd h1
  refine ⟨by simp, rfl, ?_, h.down_, ?_, .inr m1, m2⟩
  · show usedF (seenF st) ≤ _ ∧ (seenF st).length ≤ _
    rw [h.seen]
    exact h.run.fold
  · have := h.count
    show deeds + 1 = ((st.deeds + 1 : Nat) : Int)
    omega
/-- What a crash keeps, of the document's calls. -/
def crashA (al : List ActL) (keep torn : Int) : List ActL :=
  match al[(cutZ keep al.length).toNat]? with
  | some a => if a.kind = 1 then al.take (cutZ keep al.length).toNat ++ [tornA a torn] else al.take (cutZ keep al.length).toNat
  | none => al.take (cutZ keep al.length).toNat
theorem Twin.kept {j : Nat} {st : St} {al : List ActL} {armed : Int} {down : Bool} {deeds : Int} (h : Twin j st al armed down deeds) (keep torn : Int) : crashW st keep torn = (crashA al keep torn).map deedA ∧ ∀ a ∈ crashA al keep torn, IsDeed a := by
  have hl : st.waits.length = al.length := by rw [← h.waits, List.length_map]
  unfold crashW crashA
  rw [hl]
  obtain ⟨k, hk⟩ : ∃ k, (cutZ keep al.length).toNat = k := ⟨_, rfl⟩
  rw [hk]
  have htk : st.waits.take k = (al.take k).map deedA := by rw [← h.waits, List.map_take]
  have hal : ∀ a ∈ al.take k, IsDeed a := fun a ha => h.deeds_ a (List.mem_of_mem_take ha)
  have hget : st.waits[k]? = al[k]?.map deedA := by rw [← h.waits, List.getElem?_map]
  cases ha : al[k]? with
  | none =>
    rw [hget, ha]
    exact ⟨htk, hal⟩
  | some a =>
    have hd := h.deeds_ a (List.mem_of_getElem? ha)
    rw [hget, ha]
    show (if (deedA a).kind = 1 then st.waits.take k ++ [tornA (deedA a) torn] else st.waits.take k) = _ ∧ ∀ x ∈ (if a.kind = 1 then _ else _), _
    rw [kind_deed hd]
    by_cases h1 : a.kind = 1
    · simp only [if_pos h1]
      rw [torn_deed h1, List.map_append, htk]
      refine ⟨rfl, fun x hx => ?_⟩
      rcases List.mem_append.1 hx with e | e
      · exact hal x e
      · have : x = tornA a torn := by simpa using e
        rw [this]; exact hd
    · simp only [if_neg h1]
      exact ⟨htk, hal⟩
theorem Twin.crash {j : Nat} {st : St} {al : List ActL} {armed : Int} {down : Bool} {deeds : Int} (h : Twin j st al armed down deeds) (keep torn : Int) (hu : usedF (crashF st keep torn).last ≤ 4294967296 ∧ (crashF st keep torn).last.length ≤ 64) : (crashF st keep torn).last = foldF st.last (crashA al keep torn) ∧ Twin (j + 1) (crashF st keep torn) [] 0 false deeds := by
  obtain ⟨k1, k2⟩ := h.kept keep torn
  refine ⟨?_, ⟨by simp, rfl, hu, rfl, h.count, .inr (.inl rfl), by omega⟩⟩
  show foldF st.last (crashW st keep torn) = _
  rw [k1, fold_deed k2]
end Go.Proofs.Ytngkapddobgfaaa
