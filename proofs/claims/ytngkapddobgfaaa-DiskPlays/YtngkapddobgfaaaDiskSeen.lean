/-
  The disk in memory, and what is seen of it.
-/
import Derived.Test.YtngkapddobgfaaaDiskSize
namespace Go.Proofs.Ytngkapddobgfaaa
open Go.RowKit Go.Maps
set_option linter.unusedVariables false

/-- A disk: its room, what lasts, what waits, how many deeds there were, when it goes down, whether it is down. -/
structure St where
  room : Nat
  last : List FileL
  waits : List ActL
  deeds : Nat
  armed : Nat
  down : Bool

def foldF (L : List FileL) (al : List ActL) : List FileL := al.foldl doneF L
def seenF (st : St) : List FileL := foldF st.last st.waits

def okFiles (room : Nat) (L : List FileL) : Prop := SortedG L ∧ L.length ≤ 64 ∧ usedF L ≤ room
def okAct (L : List FileL) (a : ActL) : Prop :=
  0 ≤ a.kind ∧ a.kind ≤ 4 ∧ a.name.length ≤ 16 ∧ a.to.length ≤ 16 ∧ (a.kind = 2 → 0 ≤ a.num ∧ a.num ≤ (bytesF L a.name).length) ∧ (a.kind = 1 → (bytesF L a.name).length + a.b.length ≤ 4294967296)
/-- Each deed could be done where it waits. -/
def okRun (room : Nat) : List FileL → List ActL → Prop
  | L, [] => okFiles room L
  | L, a :: al => okFiles room L ∧ okAct L a ∧ okRun room (doneF L a) al

theorem okRun.files {room : Nat} {L : List FileL} {al : List ActL} (h : okRun room L al) : okFiles room L := by
  cases al with
  | nil => exact h
  | cons a al => exact h.1
theorem okRun.take {room : Nat} {L : List FileL} {al : List ActL} (h : okRun room L al) (k : Nat) : okRun room L (al.take k) := by
  induction al generalizing L k with
  | nil => simpa using h
  | cons a al ih =>
    cases k with
    | zero => exact h.1
    | succ k => exact ⟨h.1, h.2.1, ih h.2.2 k⟩
theorem okRun.fold {room : Nat} {L : List FileL} {al : List ActL} (h : okRun room L al) : okFiles room (foldF L al) := by
  induction al generalizing L with
  | nil => exact h
  | cons a al ih => exact ih h.2.2
theorem okRun.at {room : Nat} {L : List FileL} {al : List ActL} (h : okRun room L al) {k : Nat} {a : ActL} (hk : al[k]? = some a) : okAct (foldF L (al.take k)) a := by
  induction al generalizing L k with
  | nil => simp at hk
  | cons b al ih =>
    cases k with
    | zero =>
      have : b = a := by simpa using hk
      subst this
      exact h.2.1
    | succ k => exact ih h.2.2 (by simpa using hk)
theorem foldF_succ (L : List FileL) (al : List ActL) {k : Nat} {a : ActL} (hk : al[k]? = some a) : foldF L (al.take (k + 1)) = doneF (foldF L (al.take k)) a := by
  have hl : k < al.length := by
    rcases Nat.lt_or_ge k al.length with h | h
    · exact h
    · rw [List.getElem?_eq_none h] at hk; cases hk
  rw [List.getElem?_eq_getElem hl] at hk
  cases hk
  unfold foldF
  rw [List.take_succ_eq_append_getElem hl, List.foldl_append]
  rfl
theorem okRun.snoc {room : Nat} {L : List FileL} {al : List ActL} (h : okRun room L al) {a : ActL} (ha : okAct (foldF L al) a) (hf : okFiles room (doneF (foldF L al) a)) : okRun room L (al ++ [a]) := by
  induction al generalizing L with
  | nil => exact ⟨h, ha, hf⟩
  | cons b al ih => exact ⟨h.1, h.2.1, ih h.2.2 ha hf⟩

/-- A deed's tail. -/
def ARef.tl (r : ARef) : Sl := ⟨r.a, r.n, r.c⟩
def ARef.dcells (r : ARef) : List Value := [.int .i64 r.kind, .string r.name, .string r.to, .slice r.a r.n r.c, .int .i64 r.num]
def dcells (rs : List ARef) : List Value := rs.flatMap ARef.dcells
theorem dcells_cons (r : ARef) (rs : List ARef) : dcells (r :: rs) = .int .i64 r.kind :: .string r.name :: .string r.to :: .slice r.a r.n r.c :: .int .i64 r.num :: dcells rs := rfl
theorem dcells_append (a b : List ARef) : dcells (a ++ b) = dcells a ++ dcells b := by simp [dcells]
theorem dcells_length (rs : List ARef) : (dcells rs).length = rs.length * 5 := by
  induction rs with
  | nil => rfl
  | cons r rs ih => rw [dcells_cons]; simp [ih]; omega
theorem dcells_at (rs : List ARef) (k : Nat) (r : ARef) (h : rs[k]? = some r) : (dcells rs)[k * 5]? = some (.int .i64 r.kind) ∧ (dcells rs)[k * 5 + 1]? = some (.string r.name) ∧ (dcells rs)[k * 5 + 2]? = some (.string r.to) ∧ (dcells rs)[k * 5 + 3]? = some (.slice r.a r.n r.c) ∧ (dcells rs)[k * 5 + 4]? = some (.int .i64 r.num) := by
  induction rs generalizing k with
  | nil => simp at h
  | cons x rs ih =>
    cases k with
    | zero =>
      have : x = r := by simpa using h
      subst this
      simp [dcells_cons]
    | succ k =>
      have := ih k (by simpa using h)
      rw [dcells_cons, show (k + 1) * 5 = k * 5 + 1 + 1 + 1 + 1 + 1 by omega]
      simpa using this
theorem dcells_take (rs : List ARef) (k : Nat) : (dcells rs).take (k * 5) = dcells (rs.take k) := by
  induction rs generalizing k with
  | nil => simp [dcells]
  | cons r rs ih =>
    cases k with
    | zero => simp [dcells]
    | succ k => rw [dcells_cons, show (k + 1) * 5 = k * 5 + 1 + 1 + 1 + 1 + 1 by omega]; simp [dcells_cons, ih]
theorem dcells_oneCell (rs : List ARef) : ∀ u ∈ dcells rs, u.oneCell' = true := by
  induction rs with
  | nil => simp [dcells]
  | cons r rs ih =>
    intro u hu
    rw [dcells_cons] at hu
    simp only [List.mem_cons] at hu
    rcases hu with rfl | rfl | rfl | rfl | rfl | hu
    · rfl
    · rfl
    · rfl
    · rfl
    · rfl
    · exact ih u hu

/-- What lasts: no map yet, or one. -/
def Lm (w : World) (lm : Option Nat) (E : Ents) : Prop := (lm = none ∧ E = []) ∨ ∃ b, lm = some b ∧ Mp w b E

/-- The disk in block p. -/
structure DkE (w : World) (p : Nat) (lm : Option Nat) (E : Ents) (v : Value) (rs : List ARef) (st : St) : Prop where
  blk : w.heap[p]? = some (.cells #[.int .i64 (st.room : Int), .map lm, v, .int .i64 (st.deeds : Int), .int .i64 (st.armed : Int), .bool st.down] 66 (0, 0))
  last : Lm w lm E
  files : filesOf E = st.last
  row : w.ownsRow 0 76 5 v rs.length (dcells rs)
  acts : rs.map ARef.act = st.waits
  tails : ∀ r ∈ rs, Fl w r.tl r.zs
  apart : ∀ r ∈ rs, ∀ e ∈ E, ∀ g, e.2.1.blk = some g → r.tl.blk ≠ some g
  run : okRun st.room st.last st.waits
  room : st.room ≤ 1073741824
  deeds : st.waits.length ≤ st.deeds
  armed : st.armed ≤ 9223372036854775807

/-- All blocks of a disk. -/
def ftp (p : Nat) (lm : Option Nat) (E : Ents) (v : Value) (rs : List ARef) (i : Nat) : Prop :=
  i = p ∨ lm = some i ∨ (∃ e ∈ E, e.2.1.blk = some i) ∨ v.ownBlock = some i ∨ ∃ r ∈ rs, r.tl.blk = some i

def fblk (E : Ents) (i : Nat) : Prop := ∃ e ∈ E, e.2.1.blk = some i

/-- A block of a file holds bytes. -/
theorem Fl.is {w : World} {s : Sl} {zs : List Int} (h : Fl w s zs) {g : Nat} (hg : s.blk = some g) : ∃ cur, w.heap[g]? = some (.cells cur 5 (0, 0)) := by
  rcases h.2.2 with ⟨e, _⟩ | ⟨g', cur, e, hh, _⟩
  · rw [Sl.blk, e] at hg; cases hg
  · rw [Sl.blk, e] at hg; cases hg; exact ⟨cur, hh⟩
theorem Lm.fl {w : World} {lm : Option Nat} {E : Ents} (h : Lm w lm E) : ∀ e ∈ E, Fl w e.2.1 e.2.2 := by
  rcases h with ⟨_, rfl⟩ | ⟨b, _, h⟩
  · simp
  · exact h.2.1
theorem Lm.kp {S : Nat → Prop} {w w' : World} {lm : Option Nat} {E : Ents} (h : Lm w lm E) (hk : Kp S w w') (hb : ∀ b, lm = some b → ¬ S b) (hf : ∀ e ∈ E, Fl w' e.2.1 e.2.2) : Lm w' lm E := by
  rcases h with h | ⟨b, e, h⟩
  · exact .inl h
  · refine .inr ⟨b, e, ?_, hf, h.2.2⟩
    obtain ⟨es, clock, hm, r⟩ := h.1
    exact ⟨es, clock, (hk.block b h.lt (hb b e)).trans hm, r⟩
theorem DkE.ne_p {w : World} {p : Nat} {lm : Option Nat} {E : Ents} {v : Value} {rs : List ARef} {st : St} (h : DkE w p lm E v rs st) {s : Sl} {zs : List Int} (hf : Fl w s zs) : s.blk ≠ some p := fun e => by
  obtain ⟨cur, hc⟩ := hf.is e
  rw [h.blk] at hc
  injection hc with hc
  injection hc with _ hc
  revert hc
  decide
theorem DkE.plt {w : World} {p : Nat} {lm : Option Nat} {E : Ents} {v : Value} {rs : List ARef} {st : St} (h : DkE w p lm E v rs st) : p < w.heap.size := (Array.getElem?_eq_some_iff.1 h.blk).1
theorem row_is {w : World} {base : Nat} {v : Value} {n : Nat} {xs : List Value} (h : w.ownsRow base 76 5 v n xs) {g : Nat} (hg : v.ownBlock = some g) : ∃ cur, w.heap[g]? = some (.cells cur 76 (0, 0)) := by
  rcases h.2 with ⟨rfl, _⟩ | ⟨g', cap, cur, rfl, _, hh, _⟩
  · cases hg
  · cases hg; exact ⟨cur, hh⟩
theorem row_kp {S : Nat → Prop} {w w' : World} {base : Nat} {v : Value} {n : Nat} {xs : List Value} (h : w.ownsRow base 76 5 v n xs) (hk : Kp S w w') (hn : ∀ g, v.ownBlock = some g → ¬ S g) : w'.ownsRow base 76 5 v n xs := by
  obtain ⟨h1, h2⟩ := h
  refine ⟨h1, ?_⟩
  rcases h2 with h2 | ⟨g, cap, cur, rfl, hg, hh, r⟩
  · exact .inl h2
  · exact .inr ⟨g, cap, cur, rfl, hg, (hk.block g (Array.getElem?_eq_some_iff.1 hh).1 (hn g rfl)).trans hh, r⟩

/-- What turns no block of the disk but for room behind its files leaves the disk. -/
theorem DkE.kp {S : Nat → Prop} {w w' : World} {p : Nat} {lm : Option Nat} {E : Ents} {v : Value} {rs : List ARef} {st : St} (h : DkE w p lm E v rs st) (hk : Kp S w w') (hS : ∀ i, ftp p lm E v rs i → S i → fblk E i) (hf : ∀ e ∈ E, Fl w' e.2.1 e.2.2) : DkE w' p lm E v rs st where
  blk := (hk.block p h.plt (fun e => by
    obtain ⟨x, hx, e'⟩ := hS p (.inl rfl) e
    exact h.ne_p (h.last.fl x hx) e')).trans h.blk
  last := h.last.kp hk (fun b hb e => by
    obtain ⟨x, hx, e'⟩ := hS b (.inr (.inl hb)) e
    rcases h.last with ⟨h1, _⟩ | ⟨b', h1, h2⟩
    · rw [h1] at hb; cases hb
    · rw [hb] at h1; cases h1; exact h2.apart x hx e') hf
  files := h.files
  row := row_kp h.row hk (fun g hg e => by
    obtain ⟨x, hx, e'⟩ := hS g (.inr (.inr (.inr (.inl hg)))) e
    obtain ⟨cur, hc⟩ := (h.last.fl x hx).is e'
    obtain ⟨cur2, hc2⟩ := row_is h.row hg
    rw [hc] at hc2
    injection hc2 with hc2
    injection hc2 with _ hc2
    revert hc2
    decide)
  acts := h.acts
  tails := fun r hr => (h.tails r hr).kp hk (fun g hg e => by
    obtain ⟨x, hx, e'⟩ := hS g (.inr (.inr (.inr (.inr ⟨r, hr, hg⟩)))) e
    exact h.apart r hr x hx g e' hg)
  apart := h.apart
  run := h.run
  room := h.room
  deeds := h.deeds
  armed := h.armed

/-- The cells of the deed at a place. -/
theorem DkE.at {w : World} {p : Nat} {lm : Option Nat} {E : Ents} {v : Value} {rs : List ARef} {st : St} (h : DkE w p lm E v rs st) {k : Nat} {r : ARef} (hk : rs[k]? = some r) :
    ∃ g cap, v = .slice (some ⟨g, 0, none⟩) rs.length cap ∧ rs.length ≤ cap ∧ w.cell? ⟨g, k * 5, none⟩ = some (.int .i64 r.kind) ∧ w.cell? ⟨g, k * 5 + 1, none⟩ = some (.string r.name) ∧ w.cell? ⟨g, k * 5 + 2, none⟩ = some (.string r.to) ∧ w.cell? ⟨g, k * 5 + 3, none⟩ = some (.slice r.a r.n r.c) ∧ w.cell? ⟨g, k * 5 + 4, none⟩ = some (.int .i64 r.num) := by
  have hl : k < rs.length := by
    rcases Nat.lt_or_ge k rs.length with h' | h'
    · exact h'
    · rw [List.getElem?_eq_none h'] at hk; cases hk
  rcases h.row.2 with ⟨_, e⟩ | ⟨g, cap, cur, e, _, hh, hn, _, hs, ht⟩
  · omega
  · obtain ⟨c0, c1, c2, c3, c4⟩ := dcells_at rs k r hk
    have hlen := dcells_length rs
    refine ⟨g, cap, e, hn, ?_, ?_, ?_, ?_, ?_⟩
    · rw [cell_of_take hh ht (by omega)]; exact c0
    · rw [cell_of_take hh ht (by omega)]; exact c1
    · rw [cell_of_take hh ht (by omega)]; exact c2
    · rw [cell_of_take hh ht (by omega)]; exact c3
    · rw [cell_of_take hh ht (by omega)]; exact c4

/-- What must stay of the blocks of the files that last. -/
def grdOf (E : Ents) : List (Nat × Nat) := E.filterMap fun e => e.2.1.blk.map fun g => (g, e.2.1.n)
theorem mem_grd {E : Ents} {q : Nat × Nat} : q ∈ grdOf E ↔ ∃ e ∈ E, e.2.1.blk = some q.1 ∧ e.2.1.n = q.2 := by
  obtain ⟨q1, q2⟩ := q
  simp only [grdOf, List.mem_filterMap, Option.map_eq_some_iff, Prod.mk.injEq]
  constructor
  · rintro ⟨e, he, g, hg, rfl, rfl⟩
    exact ⟨e, he, hg, rfl⟩
  · rintro ⟨e, he, hg, hn⟩
    exact ⟨e, he, q1, hg, rfl, hn⟩
theorem Lm.grd {w : World} {lm : Option Nat} {E : Ents} (h : Lm w lm E) (hs : SortedG E) : Grd E (grdOf E) := by
  intro x hx q hq hb
  obtain ⟨e, he, hg, hn⟩ := mem_grd.1 hq
  rcases h with ⟨_, rfl⟩ | ⟨b, _, h⟩
  · simp at hx
  · by_cases hne : x.1 = e.1
    · have e1 := get_of_mem hs.names (k := x.1) (b := x.2) hx
      have e2 := get_of_mem hs.names (k := e.1) (b := e.2) he
      rw [hne, e2] at e1
      have e3 : x.2 = e.2 := (Option.some.inj e1).symm
      rw [e3]
      exact .inl (by omega)
    · exact absurd hg (h.2.2 x hx e he hne q.1 hb)
theorem fl_of_prA {w w' : World} {E : Ents} (h : ∀ e ∈ E, Fl w e.2.1 e.2.2) (hp : PrA w w' (grdOf E)) : ∀ e ∈ E, Fl w' e.2.1 e.2.2 := fun e he =>
  (h e he).prefix fun g hg => hp (g, e.2.1.n) (mem_grd.2 ⟨e, he, hg, rfl⟩)

/-- What a call that looks at all that is seen leaves. -/
def Saw (w : World) (E : Ents) (st : St) (m : Nat) (E' : Ents) (w' : World) : Prop :=
  w.heap.size ≤ m ∧ Mp w' m E' ∧ filesOf E' = seenF st ∧ Kp (fblk E) w w' ∧ PrA w w' (grdOf E) ∧ ∀ x ∈ E', ∀ g, x.2.1.blk = some g → w.heap.size ≤ g ∨ fblk E g

theorem size_list (b : ByteArray) : b.toList.length = b.size := by rw [ByteArray.toList_eq]; exact Array.length_toList
theorem ARef.okOf {w : World} {r : ARef} (h : Fl w r.tl r.zs) : r.ok w := ⟨h.le.2.2, h.le.1, h.le.2.1, h.bs⟩

set_option maxRecDepth 100000 in
set_option maxHeartbeats 400000 in
theorem seen_any (p : Nat) (lm : Option Nat) (E : Ents) (v : Value) (rs : List ARef) (st : St) (w : World) (h : DkE w p lm E v rs st) (hd : st.deeds ≤ 1099511627776) :
    Calls Try.prog 43 #[.pointer (some ⟨p, 0, none⟩)] w fun e w' => ∃ m E', e = .returned (.map (some m)) ∧ Saw w E st m E' w' := by
  have hcell : ∀ {w' : World} (j : Nat), w'.heap[p]? = w.heap[p]? → w'.cell? ⟨p, j, none⟩ = (#[Value.int .i64 (st.room : Int), .map lm, v, .int .i64 (st.deeds : Int), .int .i64 (st.armed : Int), .bool st.down])[j]? := fun j hb => by
    simp [World.cell?, hb, h.blk]
  have c1 : w.cell? ⟨p, 1, none⟩ = some (.map lm) := hcell 1 rfl
  have c2 : w.cell? ⟨p, 2, none⟩ = some v := hcell 2 rfl
  obtain ⟨va, vc, hv⟩ : ∃ va vc, v = .slice va rs.length vc := by
    obtain ⟨a, c, e, _⟩ := ownsRow_cs h.row
    exact ⟨a, c, e⟩
  have hfs := h.run.files
  have hsE : SortedG E := SortedG.ents (by rw [h.files]; exact hfs.1)
  have hEl : E.length ≤ 64 := by rw [← files_length, h.files]; exact hfs.2.1
  have hlen : ∀ ty, Sem.run Try.prog (Builtin.len_ #[63] ty #[.map lm]) w = .ok (.int .i64 (E.length : Int)) w := fun ty => by
    rcases h.last with ⟨rfl, rfl⟩ | ⟨b, rfl, hm⟩
    · exact Maps.len_nil Try.underlying63 ty
    · have := hm.1.len Try.underlying63 ty
      rw [dOf_size] at this
      exact this
  have hmm : Sem.run Try.prog (Instr.makeMap 63 (some (.int .i64 (E.length : Int)))) w = .ok (.map (some w.heap.size)) (w.alloc (.map #[] 0)) := by
    simp [Instr.makeMap, asInt, asIntOf]
  have hplt := h.plt
  obtain ⟨w0, hw0⟩ : ∃ w0, w0 = w.alloc (.map #[] 0) := ⟨_, rfl⟩
  have hk0 : Kp (fun _ => False) w w0 := by rw [hw0]; exact (Kp.refl _ _).alloc _
  have hm0 : w0.ownsMap Try.prog 9 slR w.heap.size 0 (dOf []) := by rw [hw0]; exact World.ownsMap_made w _ _ _
  have hcopy : Calls Try.prog 50 #[.map (some w.heap.size), .map lm] w0 fun e w' => e = .returned (.tuple #[]) ∧ w'.ownsMap Try.prog 9 slR w.heap.size E.length (dOf E) ∧ Kp (fun i => i = w.heap.size) w0 w' := by
    rcases h.last with ⟨rfl, rfl⟩ | ⟨b, rfl, hm⟩
    · refine (copy_nil _ _).mono ?_
      rintro e w' ⟨rfl, hb⟩
      refine ⟨rfl, ?_, Kp.of_below hb⟩
      obtain ⟨es, clock, h1, r⟩ := hm0
      exact ⟨es, clock, (hb.block _ (Array.getElem?_eq_some_iff.1 h1).1).trans h1, r⟩
    · refine copy_any w.heap.size b E w0 ?_ hsE hm0 (by unfold maxLen; omega) (by have := hm.lt; omega)
      exact (hm.kp hk0 (fun e => e) (fun _ _ _ _ e => e)).1
  have hv' : w.cell? ⟨p, 2, none⟩ = some (.slice va rs.length vc) := by rw [c2, hv]
  rw [hw0] at hcopy hk0
  clear hw0 hm0 hcell c2
  go_enter Try.func43, Try.ntmps43
  go_wp2_with fail
  refine hcopy.mono ?_
  rintro e w1 ⟨rfl, hm1, hk1⟩
  have hk2 : Kp (fun _ => False) w w1 := hk0.trans hk1 (fun i hi e => by omega)
  have c2 := hk2.cell hv' (fun e => e)
  clear hmm hlen hcopy c1 hv'
  have HF : Hid (rs.map ARef.act = st.waits) := h.acts
  have HG : Hid (∀ g, v.ownBlock = some g → ¬ fblk E g) := fun g hg ⟨x, hx, e'⟩ => by
    obtain ⟨cur, hc⟩ := (h.last.fl x hx).is e'
    obtain ⟨cur2, hc2⟩ := row_is h.row hg
    rw [hc] at hc2
    injection hc2 with hc2
    injection hc2 with _ hc2
    revert hc2
    decide
  have hlE := h.last.fl
  have hm1' : Mp w1 w.heap.size E := ⟨hm1, fun e he => (hlE e he).kp hk2 (fun _ _ e => e), by
    rcases h.last with ⟨_, rfl⟩ | ⟨b, _, hm⟩
    · intro x hx; simp at hx
    · exact hm.2.2⟩
  have hrl : rs.length ≤ 1099511627776 := by
    have e1 := h.deeds
    rw [← h.acts, List.length_map] at e1
    omega
  go_wp2
  go_loopw [25] (fun i wr => ∃ (k : Nat) (Ek : Ents), i = .int .i64 (k : Int) ∧ k ≤ rs.length ∧ Mp wr w.heap.size Ek ∧ filesOf Ek = foldF st.last (st.waits.take k) ∧ Grd Ek (grdOf E) ∧ PrA w wr (grdOf E) ∧ Kp (fblk E) w wr ∧ ∀ x ∈ Ek, ∀ g, x.2.1.blk = some g → w.heap.size ≤ g ∨ fblk E g) (fun i _ => rs.length - (intOf i).toNat)
  case atStart =>
    exact ⟨0, E, rfl, Nat.zero_le _, hm1', by rw [h.files]; rfl, h.last.grd hsE, PrA.of_kp hk2 (fun _ _ e => e.elim), hk2.mono (fun _ _ e => e.elim), fun x hx g hg => .inr ⟨x, hx, hg⟩⟩
  case round =>
    obtain ⟨k, Ek, rfl, hkl, hmk, hfk, hgk, hpk, hkk, hbk⟩ := hrel
    by_cases hlt : k < rs.length
    · obtain ⟨g, cap, e1, hcap, d0, d1, d2, d3, d4⟩ := h.at (k := k) (r := rs[k]) (by simp [hlt])
      have hng := HG.out g (by rw [e1]; rfl)
      replace d0 := hkk.cell d0 hng
      replace d1 := hkk.cell d1 hng
      replace d2 := hkk.cell d2 hng
      replace d3 := hkk.cell d3 hng
      replace d4 := hkk.cell d4 hng
      obtain ⟨r, hr⟩ : ∃ r, r = rs[k] := ⟨_, rfl⟩
      rw [← hr] at d0 d1 d2 d3 d4
      rw [hv] at e1
      cases e1
      have HR : Hid (r = rs[k]) := hr
      have z0 : 0 + k * 5 = k * 5 := by omega
      clear hr hv
      have hwk : st.waits[k]? = some r.act := by rw [← HF.out, List.getElem?_map, List.getElem?_eq_getElem hlt, HR.out]; rfl
      have hrm : r ∈ rs := by rw [HR.out]; exact List.getElem_mem hlt
      have hact := h.run.at hwk
      rw [← hfk] at hact
      have hkd : ∀ w', Kp (fun _ => False) wr w' → Calls Try.prog 51 #[r.deed, .map (some w.heap.size)] w' fun e w'' => e = .returned (.tuple #[]) ∧ Did w' w.heap.size Ek r (grdOf E) w'' := fun w' hk' => by
        have htl : Fl w' r.tl r.zs := ((h.tails r hrm).kp hkk (fun g hg ⟨x, hx, e'⟩ => h.apart r hrm x hx g e' hg)).kp hk' (fun _ _ e => e)
        have hb := bytes_files Ek r.name.toList
        obtain ⟨a1, a2, a3, a4, a5, a6⟩ := hact
        refine do_any w.heap.size Ek r (grdOf E) w' (hmk.kp hk' (fun e => e) (fun _ _ _ _ e => e)) ⟨ARef.okOf htl, a1, a2, ?_, ?_, fun e => ?_, fun e => ?_⟩ ?_ hgk (fun q hq => ?_)
        · have h5 : r.act.name.length = r.name.size := size_list r.name
          unfold maxLen; omega
        · have h5 : r.act.to.length = r.to.size := size_list r.to
          unfold maxLen; omega
        · have := a5 e
          rw [show r.act.name = r.name.toList from rfl, hb] at this
          exact this
        · have := a6 e
          rw [show r.act.name = r.name.toList from rfl, hb] at this
          have h6 : r.act.b.length = r.n := htl.1
          omega
        · have h7 := (h.run.take k).fold
          rw [← hfk] at h7
          have := h7.2.1
          rw [files_length] at this
          unfold maxLen; omega
        · obtain ⟨e, he, hg, _⟩ := mem_grd.1 hq
          have h8 := (hlE e he).lt hg
          have := hkk.size
          have := hk'.size
          omega
      have HK : Hid (∀ w', Kp (fun _ => False) wr w' → Calls Try.prog 51 #[r.deed, .map (some w.heap.size)] w' fun e w'' => e = .returned (.tuple #[]) ∧ Did w' w.heap.size Ek r (grdOf E) w'') := hkd
      have HW : Hid (st.waits[k]? = some r.act) := hwk
      have HX : Hid (filesOf Ek = foldF st.last (st.waits.take k)) := hfk
      clear hkd hact hwk hfk hrm
      go_wp2_with fail
      have hka : Kp (fun _ => False) wr (wr.alloc (.cells #[.int .i64 r.kind, .string r.name, .string r.to, .slice r.a r.n r.c, .int .i64 r.num] 76)) := (Kp.refl _ _).alloc _
      refine (HK.out _ hka).mono ?_
      rintro e w2 ⟨rfl, E2, hm2, hf2, hg2, hp2, hk2', hb2⟩
      have hp3 : PrA w w2 (grdOf E) := (hpk.trans (PrA.of_kp hka (fun _ _ e => e.elim))).trans hp2
      have hk3 : Kp (fblk E) w w2 := (hkk.trans hka (fun _ _ e => e.elim)).trans hk2' (fun i hi e => by
        rcases e with e | ⟨x, hx, e⟩
        · omega
        · rcases hbk x hx i e with h9 | h9
          · omega
          · exact h9)
      have hb3 : ∀ x ∈ E2, ∀ g, x.2.1.blk = some g → w.heap.size ≤ g ∨ fblk E g := fun x hx g hg => by
        rcases hb2 x hx g hg with h9 | ⟨y, hy, h9⟩
        · have := hka.size
          have := hkk.size
          exact .inl (by omega)
        · exact hbk y hy g h9
      have HY : Hid (filesOf E2 = foldF st.last (st.waits.take (k + 1))) := by rw [foldF_succ _ _ HW.out, ← HX.out]; exact hf2
      clear hp2 hk2' hb2 hf2 hka
      go_wp2
      go_roundw
      case rel => exact ⟨k + 1, E2, by go_num, by omega, hm2, HY.out, hg2, hp3, hk3, hb3⟩
      case measure => simp [intOf]; omega
    · have hke : k = rs.length := by omega
      have HX : Hid (filesOf Ek = seenF st) := by
        rw [seenF, hfk, List.take_of_length_le (by rw [← HF.out, List.length_map]; omega)]; exact rfl
      clear hfk hke
      go_wp2
      go_ret
      exact ⟨_, Ek, rfl, Nat.le_refl _, hmk, HX.out, hkk, hpk, hbk⟩
end Go.Proofs.Ytngkapddobgfaaa
