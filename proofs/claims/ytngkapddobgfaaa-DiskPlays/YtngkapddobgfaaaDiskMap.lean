/-
  Maps from names to slices of bytes: what they hold as files, in order of names. No function of the program is named here.
-/
import Derived.Test.YtngkapddobgfaaaDiskSl
import Derived.Test.YtngkapddobgfaaaDiskDone
import Derived.Maps.RangeWalk
namespace Go.Proofs.Ytngkapddobgfaaa
open Go.RowKit Go.Maps
set_option linter.unusedVariables false

section
variable {β γ : Type}

def dropG (fs : List (List UInt8 × β)) (name : List UInt8) : List (List UInt8 × β) := fs.filter fun f => decide (f.1 ≠ name)
def putG (fs : List (List UInt8 × β)) (f : List UInt8 × β) : List (List UInt8 × β) :=
  (dropG fs f.1).takeWhile (fun g => Op.bytesLess g.1 f.1) ++ f :: (dropG fs f.1).dropWhile (fun g => Op.bytesLess g.1 f.1)
def getG (fs : List (List UInt8 × β)) (name : List UInt8) : Option β := (fs.find? fun f => f.1 == name).map Prod.snd
def projG (φ : β → γ) (fs : List (List UInt8 × β)) : List (List UInt8 × γ) := fs.map fun f => (f.1, φ f.2)

theorem mem_dropG {fs : List (List UInt8 × β)} {k : List UInt8} {x : List UInt8 × β} : x ∈ dropG fs k ↔ x ∈ fs ∧ x.1 ≠ k := by simp [dropG]
theorem mem_putG {fs : List (List UInt8 × β)} {f x : List UInt8 × β} : x ∈ putG fs f ↔ x = f ∨ (x ∈ fs ∧ x.1 ≠ f.1) := by
  have h : x ∈ dropG fs f.1 ↔ x ∈ (dropG fs f.1).takeWhile (fun g => Op.bytesLess g.1 f.1) ∨ x ∈ (dropG fs f.1).dropWhile (fun g => Op.bytesLess g.1 f.1) := by
    rw [← List.mem_append, List.takeWhile_append_dropWhile]
  rw [← mem_dropG, h]
  simp only [putG, List.mem_append, List.mem_cons]
  constructor
  · rintro (h | h | h)
    · exact .inr (.inl h)
    · exact .inl h
    · exact .inr (.inr h)
  · rintro (h | h | h)
    · exact .inr (.inl h)
    · exact .inl h
    · exact .inr (.inr h)

theorem drop_proj (φ : β → γ) (fs : List (List UInt8 × β)) (k : List UInt8) : projG φ (dropG fs k) = dropG (projG φ fs) k := by
  simp only [projG, dropG, List.filter_map]; rfl
theorem put_proj (φ : β → γ) (fs : List (List UInt8 × β)) (f : List UInt8 × β) : projG φ (putG fs f) = putG (projG φ fs) (f.1, φ f.2) := by
  simp only [putG]
  rw [← drop_proj]
  simp only [projG, List.map_append, List.map_cons, List.takeWhile_map, List.dropWhile_map]
  rfl
theorem get_proj (φ : β → γ) (fs : List (List UInt8 × β)) (k : List UInt8) : getG (projG φ fs) k = (getG fs k).map φ := by
  simp only [getG, projG, List.find?_map, Option.map_map]
  rfl
theorem length_proj (φ : β → γ) (fs : List (List UInt8 × β)) : (projG φ fs).length = fs.length := by simp [projG]

theorem getG_mem {fs : List (List UInt8 × β)} {k : List UInt8} {b : β} (h : getG fs k = some b) : (k, b) ∈ fs := by
  simp only [getG, Option.map_eq_some_iff] at h
  obtain ⟨x, hx, rfl⟩ := h
  have h1 := List.find?_some hx
  have h2 := List.mem_of_find?_eq_some hx
  have : x.1 = k := by simpa using h1
  rw [← this]
  exact h2
theorem getG_none {fs : List (List UInt8 × β)} {k : List UInt8} (h : getG fs k = none) : ∀ x ∈ fs, x.1 ≠ k := by
  simp only [getG, Option.map_eq_none_iff, List.find?_eq_none] at h
  intro x hx
  simpa using h x hx
theorem length_dropG_le (fs : List (List UInt8 × β)) (k : List UInt8) : (dropG fs k).length ≤ fs.length := List.length_filter_le _ _
theorem length_putG (fs : List (List UInt8 × β)) (f : List UInt8 × β) : (putG fs f).length = (dropG fs f.1).length + 1 := by
  have := congrArg List.length (List.takeWhile_append_dropWhile (p := fun g : List UInt8 × β => Op.bytesLess g.1 f.1) (l := dropG fs f.1))
  simp only [List.length_append] at this
  simp only [putG, List.length_append, List.length_cons]
  omega
end

theorem before_eq : ∀ a b : List UInt8, bytesBefore a b = Op.bytesLess a b
  | [], [] => rfl
  | [], _ :: _ => rfl
  | _ :: _, [] => rfl
  | a :: r, b :: s => by simp only [bytesBefore, Op.bytesLess, before_eq r s]

theorem less_total {a b : List UInt8} (h : a ≠ b) : Op.bytesLess a b = true ∨ Op.bytesLess b a = true := by
  rw [← before_eq, ← before_eq]; exact WideAt.bytes_total a b h
theorem less_irrefl (a : List UInt8) : Op.bytesLess a a = false := by rw [← before_eq]; exact WideAt.bytes_irrefl a
theorem less_trans {a b c : List UInt8} (h : Op.bytesLess a b = true) (k : Op.bytesLess b c = true) : Op.bytesLess a c = true := by
  rw [← before_eq] at h k ⊢; exact WideShapes.bytes_trans a b c h k
theorem less_asymm {a b : List UInt8} (h : Op.bytesLess a b = true) : Op.bytesLess b a = false := by
  cases hb : Op.bytesLess b a
  · rfl
  · have := less_trans h hb
    rw [less_irrefl] at this
    cases this

/-- A file's slice and its bytes. -/
abbrev Ent := Sl × List Int
abbrev Ents := List (List UInt8 × Ent)
def filesOf (E : Ents) : List FileL := projG Prod.snd E
def dOf (E : Ents) : DataW Sl := .map (E.map fun e => (.string e.1, .held e.2.1))
/-- How a slice reads: as itself. -/
def slR : Value → Option (DataW Sl × List MemPlace)
  | .slice a n c => some (.held ⟨a, n, c⟩, [])
  | _ => none
theorem slR_val (s : Sl) : slR s.val = some (.held s, []) := rfl
theorem slR_inv {v : Value} {z : DataW Sl × List MemPlace} (h : slR v = some z) : ∃ s : Sl, v = s.val ∧ z = (.held s, []) := by
  unfold slR at h
  split at h
  · cases h; exact ⟨⟨_, _, _⟩, rfl, rfl⟩
  · cases h

theorem putF_eq (fs : List FileL) (f : FileL) : putF fs f = putG fs f := rfl
theorem dropF_eq (fs : List FileL) (k : List UInt8) : dropF fs k = dropG fs k := rfl
theorem files_put (E : Ents) (k : List UInt8) (s : Sl) (zs : List Int) : filesOf (putG E (k, (s, zs))) = putF (filesOf E) (k, zs) := put_proj _ _ _
theorem files_drop (E : Ents) (k : List UInt8) : filesOf (dropG E k) = dropF (filesOf E) k := drop_proj _ _ _
theorem files_length (E : Ents) : (filesOf E).length = E.length := length_proj _ _

theorem insert_eq {β : Type} (f : List UInt8 × β) (φ : β → DataW Sl) : ∀ l : List (List UInt8 × β), (∀ x ∈ l, x.1 ≠ f.1) →
    DataW.insert (Lit.string f.1, φ f.2) (l.map fun e => (Lit.string e.1, φ e.2)) = (l.takeWhile (fun g => Op.bytesLess g.1 f.1) ++ f :: l.dropWhile (fun g => Op.bytesLess g.1 f.1)).map fun e => (Lit.string e.1, φ e.2)
  | [], _ => rfl
  | y :: r, h => by
    have ih := insert_eq f φ r (fun x hx => h x (by simp [hx]))
    have hy := h y (by simp)
    simp only [List.map_cons, DataW.insert, Lit.before, before_eq]
    rcases less_total hy with h1 | h1
    · have h2 := less_asymm h1
      simp [h1, h2, ih]
    · have h2 := less_asymm h1
      simp [h1, h2]

theorem dOf_put (E : Ents) (k : List UInt8) (s : Sl) (zs : List Int) : (dOf E).put (.string k) (.held s) = dOf (putG E (k, (s, zs))) := by
  have h := insert_eq (k, (s, zs)) (fun e : Ent => DataW.held e.1) (dropG E k) (fun x hx => (mem_dropG.1 hx).2)
  show DataW.map (DataW.insert (Lit.string k, DataW.held s) ((E.map fun e => (Lit.string e.1, DataW.held e.2.1)).filter fun p => !p.1.sameKey (.string k))) = DataW.map ((putG E (k, (s, zs))).map fun e => (Lit.string e.1, DataW.held e.2.1))
  congr 1
  rw [show (E.map fun e => (Lit.string e.1, (DataW.held e.2.1 : DataW Sl))).filter (fun p => !p.1.sameKey (.string k)) = (dropG E k).map fun e => (Lit.string e.1, DataW.held e.2.1) by
    rw [dropG, List.filter_map]
    congr 1
    apply List.filter_congr
    intro x _
    simp only [Function.comp, Lit.sameKey]
    cases hx : (x.1 == k) <;> simp_all]
  exact h
theorem dOf_del (E : Ents) (k : List UInt8) : (dOf E).del (.string k) = dOf (dropG E k) := by
  show DataW.map ((E.map fun e => (Lit.string e.1, DataW.held e.2.1)).filter fun p => !p.1.sameKey (.string k)) = DataW.map ((dropG E k).map fun e => (Lit.string e.1, DataW.held e.2.1))
  congr 1
  rw [dropG, List.filter_map]
  congr 1
  apply List.filter_congr
  intro x _
  simp only [Function.comp, Lit.sameKey]
  cases hx : (x.1 == k) <;> simp_all
theorem any_find {α : Type} (f : α → Bool) : ∀ l : List α, l.any f = (l.find? f).isSome
  | [] => rfl
  | x :: r => by
    rw [List.any_cons, List.find?_cons]
    cases h : f x
    · simpa using any_find f r
    · rfl
theorem find_dOf (E : Ents) (k : List UInt8) : (E.map fun e => (Lit.string e.1, (DataW.held e.2.1 : DataW Sl))).find? (fun p => p.1.sameKey (.string k)) = (E.find? fun f => f.1 == k).map fun e => (Lit.string e.1, DataW.held e.2.1) := by
  rw [List.find?_map]; rfl
theorem dOf_has (E : Ents) (k : List UInt8) : Maps.has (dOf E) (.string k) = (getG E k).isSome := by
  show (E.map fun e => (Lit.string e.1, (DataW.held e.2.1 : DataW Sl))).any (fun p => p.1.sameKey (.string k)) = _
  rw [any_find, find_dOf]
  simp [getG]
theorem dOf_size (E : Ents) : Maps.size (dOf E) = E.length := by simp [dOf, Maps.size]

def slAt (E : Ents) (k : List UInt8) : Sl := match getG E k with | some e => e.1 | none => ⟨none, 0, 0⟩
def zsAt (E : Ents) (k : List UInt8) : List Int := match getG E k with | some e => e.2 | none => []

theorem dOf_at (E : Ents) (k : List UInt8) : (dOf E).atKey (.string k) (.held ⟨none, 0, 0⟩) = .held (slAt E k) := by
  unfold dOf DataW.atKey
  simp only [find_dOf, slAt, getG]
  cases E.find? fun f => f.1 == k <;> rfl

theorem bytes_get (fs : List FileL) (k : List UInt8) : bytesF fs k = (getG fs k).getD [] := by
  unfold bytesF findF getG
  induction fs with
  | nil => rfl
  | cons f fs ih =>
    rw [List.findIdx?_cons, List.find?_cons]
    cases h : (f.1 == k)
    · simp only [Bool.false_eq_true, if_false]
      rw [← ih]
      cases hi : List.findIdx? (fun f => f.1 == k) fs <;> simp
    · simp
theorem find_get (fs : List FileL) (k : List UInt8) : (findF fs k).isSome = (getG fs k).isSome := by
  unfold findF getG
  rw [Option.isSome_map, List.findIdx?_isSome, any_find]
theorem files_get (E : Ents) (k : List UInt8) : getG (filesOf E) k = (getG E k).map Prod.snd := get_proj _ _ _
theorem bytes_files (E : Ents) (k : List UInt8) : bytesF (filesOf E) k = zsAt E k := by
  rw [bytes_get, files_get, zsAt]
  cases getG E k <;> rfl

/-- Different files lie in different blocks. -/
def SepE (E : Ents) : Prop := ∀ x ∈ E, ∀ y ∈ E, x.1 ≠ y.1 → ∀ g, x.2.1.blk = some g → y.2.1.blk ≠ some g

/-- Block b is a map that holds these files. -/
def Mp (w : World) (b : Nat) (E : Ents) : Prop :=
  w.ownsMap Try.prog 9 slR b E.length (dOf E) ∧ (∀ e ∈ E, Fl w e.2.1 e.2.2) ∧ SepE E

theorem own_size {w : World} {b n : Nat} {E : Ents} (h : w.ownsMap Try.prog 9 slR b n (dOf E)) : w.ownsMap Try.prog 9 slR b E.length (dOf E) := by
  obtain ⟨es, clock, hb, F, hs, hD⟩ := h
  refine ⟨es, clock, hb, F, ?_, hD⟩
  have e := congrArg Maps.size hD
  rw [dOf_size] at e
  rw [e]
  simp [Maps.size, length_sorted]

theorem Mp.lt {w : World} {b : Nat} {E : Ents} (h : Mp w b E) : b < w.heap.size := h.1.lt
theorem Mp.flAt {w : World} {b : Nat} {E : Ents} (h : Mp w b E) (k : List UInt8) : Fl w (slAt E k) (zsAt E k) := by
  unfold slAt zsAt
  cases hg : getG E k with
  | none => exact Fl.nil w
  | some e => exact h.2.1 _ (getG_mem hg)
theorem Mp.names {w : World} {b : Nat} {E : Ents} (h : Mp w b E) (K : Keyed Try.prog 9) : E.Pairwise (fun x y => x.1 ≠ y.1) := by
  obtain ⟨es, e, hp⟩ := h.1.tidy K
  unfold dOf at e
  cases e
  rw [List.pairwise_map] at hp
  exact hp.imp (fun h e => h (by rw [e]))
/-- A map's block is none of its files'. -/
theorem Mp.apart {w : World} {b : Nat} {E : Ents} (h : Mp w b E) : ∀ e ∈ E, e.2.1.blk ≠ some b := by
  intro e he hb
  obtain ⟨es, clock, hm, _⟩ := h.1
  rcases (h.2.1 e he).2.2 with ⟨e1, _⟩ | ⟨g, cur, e1, hh, _⟩
  · rw [Sl.blk, e1] at hb; cases hb
  · rw [Sl.blk, e1] at hb
    cases hb
    rw [hm] at hh
    cases hh

theorem Mp.kp {S : Nat → Prop} {w w' : World} {b : Nat} {E : Ents} (h : Mp w b E) (hk : Kp S w w') (hb : ¬ S b) (hf : ∀ e ∈ E, ∀ g, e.2.1.blk = some g → ¬ S g) : Mp w' b E := by
  refine ⟨?_, fun e he => (h.2.1 e he).kp hk (hf e he), h.2.2⟩
  have hlt := h.lt
  obtain ⟨es, clock, hm, F, hs, hD⟩ := h.1
  exact ⟨es, clock, (hk.block b hlt hb).trans hm, F, hs, hD⟩

theorem keyS (s : ByteArray) (hs : s.size ≤ maxLen) : keyOf Try.prog 9 (.string s) = some (.string s.toList) := by
  rw [ByteArray.toList_eq]; exact WideMaps.keyOf_string_mk Try.underlying9 hs
theorem keyedS : Keyed Try.prog 9 := string_keyed Try.underlying9
theorem zeroS (w : World) : (zeroValue 32).run Try.prog w = .ok (.slice none 0 0) w := by kernel_rfl

theorem Mp.put {w w' : World} {b : Nat} {E : Ents} {k : List UInt8} {s : Sl} {zs : List Int} (hown : w.ownsMap Try.prog 9 slR b E.length (dOf E)) (hk : w'.ownsMap Try.prog 9 slR b (E.length + 1) ((dOf E).put (.string k) (.held s)))
    (hfl : ∀ e ∈ E, e.1 ≠ k → Fl w' e.2.1 e.2.2) (hs : Fl w' s zs) (hsep : SepE E) (hnew : ∀ e ∈ E, e.1 ≠ k → ∀ g, s.blk = some g → e.2.1.blk ≠ some g) : Mp w' b (putG E (k, (s, zs))) := by
  rw [dOf_put E k s zs] at hk
  refine ⟨own_size hk, fun e he => ?_, fun x hx y hy hne g hg => ?_⟩
  · rcases mem_putG.1 he with rfl | ⟨h1, h2⟩
    · exact hs
    · exact hfl e h1 h2
  · rcases mem_putG.1 hx with rfl | ⟨h1, h2⟩
    · rcases mem_putG.1 hy with rfl | ⟨h3, h4⟩
      · exact absurd rfl hne
      · exact hnew y h3 h4 g hg
    · rcases mem_putG.1 hy with rfl | ⟨h3, h4⟩
      · exact fun e => hnew x h1 h2 g e hg
      · exact hsep x h1 y h3 hne g hg

theorem Kp.of_turned {w w' : World} {b : Nat} (h : w.mapTurned w' b) : Kp (fun i => i = b) w w' :=
  (Kp.of_grown h.grown).mono (fun i _ e => by cases e; rfl)

section
variable (w : World) {ops : Array Oper} {rest : List Oper} {o : Oper} {a : Act} {Q : Exit → Act → World → Prop}

/-- 'm[k]'. -/
theorem wpList_at_sl (hg : o.guard = none) (m x : Operand) (hop : o.op = Op.lookup 63 m x false) (b : Nat) (E : Ents) (hm : a.eval m = .map (some b)) (h : Mp w b E) (s : ByteArray) (hx : a.eval x = .string s) (hs : s.size ≤ maxLen)
    (hK : wpList Try.prog ops Q rest (a.put o.dst (slAt E s.toList).val) w) : wpList Try.prog ops Q (o :: rest) a w := by
  refine wpList_plain hg fun K' hK' => ?_
  obtain ⟨v, ps, hrun, hv⟩ := h.1.lookup keyedS Try.underlying63 (zeroS w) (slR_val ⟨none, 0, 0⟩) (keyS s hs)
  rw [dOf_at] at hv
  obtain ⟨s', rfl, e⟩ := slR_inv hv
  cases e
  unfold Oper.wp
  simp [execOp, hop, hm, hx, hrun, Result.andThen]
  exact hK' _ _ hK

/-- 'v, ok := m[k]'. -/
theorem wpList_at_sl_ok (hg : o.guard = none) (m x : Operand) (hop : o.op = Op.lookup 63 m x true) (b : Nat) (E : Ents) (hm : a.eval m = .map (some b)) (h : Mp w b E) (s : ByteArray) (hx : a.eval x = .string s) (hs : s.size ≤ maxLen)
    (hK : wpList Try.prog ops Q rest (a.put o.dst (.tuple #[(slAt E s.toList).val, .bool (getG E s.toList).isSome])) w) : wpList Try.prog ops Q (o :: rest) a w := by
  refine wpList_plain hg fun K' hK' => ?_
  obtain ⟨v, ps, hrun, hv⟩ := h.1.look_ok keyedS Try.underlying63 (zeroS w) (slR_val ⟨none, 0, 0⟩) (keyS s hs)
  rw [dOf_at] at hv
  obtain ⟨s', rfl, e⟩ := slR_inv hv
  cases e
  rw [dOf_has] at hrun
  unfold Oper.wp
  simp [execOp, hop, hm, hx, hrun, Result.andThen]
  exact hK' _ _ hK

theorem wp_put_sl {K : Act → World → Prop} (m x v : Operand) (hop : o.op = Op.mapUpdate 63 m x v) (b : Nat) (E : Ents) (hm : a.eval m = .map (some b)) (h : w.ownsMap Try.prog 9 slR b E.length (dOf E)) (hE : E.length < maxLen)
    (nm : ByteArray) (hx : a.eval x = .string nm) (hs : nm.size ≤ maxLen) (s : Sl) (hv : a.eval v = s.val)
    (hK : ∀ w', w'.ownsMap Try.prog 9 slR b (E.length + 1) ((dOf E).put (.string nm.toList) (.held s)) → Kp (fun i => i = b) w w' → K (a.put o.dst undef) w') : o.wp Try.prog a w K Q := by
  obtain ⟨w', hrun, h1, h2⟩ := h.store keyedS Try.underlying63 hE (keyS nm hs) (slR_val s)
  unfold Oper.wp
  simp [execOp, hop, hm, hx, hv, hrun, Result.andThen]
  exact hK w' h1 (Kp.of_turned h2)

theorem run_put_sl {w : World} {b : Nat} {E : Ents} (h : w.ownsMap Try.prog 9 slR b E.length (dOf E)) (hE : E.length < maxLen) (nm : ByteArray) (hs : nm.size ≤ maxLen) (s : Sl) :
    ∃ w', Sem.run Try.prog (Instr.mapUpdate 63 (.map (some b)) (.string nm) s.val) w = .ok () w' ∧ w'.ownsMap Try.prog 9 slR b (E.length + 1) ((dOf E).put (.string nm.toList) (.held s)) ∧ Kp (fun i => i = b) w w' := by
  obtain ⟨w', hrun, h1, h2⟩ := h.store keyedS Try.underlying63 hE (keyS nm hs) (slR_val s)
  exact ⟨w', hrun, h1, Kp.of_turned h2⟩

/-- 'm[k] = v'. -/
theorem wpList_put_sl (hg : o.guard = none) (m x v : Operand) (hop : o.op = Op.mapUpdate 63 m x v) (b : Nat) (E : Ents) (hm : a.eval m = .map (some b)) (h : w.ownsMap Try.prog 9 slR b E.length (dOf E)) (hE : E.length < maxLen)
    (nm : ByteArray) (hx : a.eval x = .string nm) (hs : nm.size ≤ maxLen) (s : Sl) (hv : a.eval v = s.val)
    (hK : ∀ w', w'.ownsMap Try.prog 9 slR b (E.length + 1) ((dOf E).put (.string nm.toList) (.held s)) → Kp (fun i => i = b) w w' → wpList Try.prog ops Q rest (a.put o.dst undef) w') : wpList Try.prog ops Q (o :: rest) a w :=
  wpList_plain hg fun K' hK' => wp_put_sl w m x v hop b E hm h hE nm hx hs s hv fun w' h1 h2 => hK' _ _ (hK w' h1 h2)

theorem step_put_sl {K : Act → World → Prop} {E' : Prop} (hgd : Region.wanted o (yielded ops a.tmps) = true) (m x v : Operand) (hop : o.op = Op.mapUpdate 63 m x v) (b : Nat) (E : Ents) (hm : a.eval m = .map (some b)) (h : w.ownsMap Try.prog 9 slR b E.length (dOf E)) (hE : E.length < maxLen)
    (nm : ByteArray) (hx : a.eval x = .string nm) (hs : nm.size ≤ maxLen) (s : Sl) (hv : a.eval v = s.val)
    (hK : ∀ w', w'.ownsMap Try.prog 9 slR b (E.length + 1) ((dOf E).put (.string nm.toList) (.held s)) → Kp (fun i => i = b) w w' → K (a.put o.dst undef) w') :
    if Region.wanted o (yielded ops a.tmps) = true then Oper.wp Try.prog o a w K Q else E' := by
  rw [if_pos hgd]
  exact wp_put_sl w m x v hop b E hm h hE nm hx hs s hv hK

/-- 'delete(m, k)'. -/
theorem wpList_del_sl (hg : o.guard = none) (m x : Operand) (hop : o.op = Op.call { callee := Callee.builtin Builtin.delete, args := #[m, x], argTypes := #[63, 9] }) (b : Nat) (E : Ents) (hm : a.eval m = .map (some b))
    (h : w.ownsMap Try.prog 9 slR b E.length (dOf E)) (nm : ByteArray) (hx : a.eval x = .string nm) (hs : nm.size ≤ maxLen)
    (hK : ∀ w', w'.ownsMap Try.prog 9 slR b (dropG E nm.toList).length (dOf (dropG E nm.toList)) → Kp (fun i => i = b) w w' → wpList Try.prog ops Q rest (a.put o.dst (.tuple #[])) w') : wpList Try.prog ops Q (o :: rest) a w :=
  wpList_delete_own w hg m x _ _ hop _ keyedS Try.underlying63 slR b E.length (dOf E) hm h (.string nm) (.string nm.toList) hx (keyS nm hs) fun w' h1 h2 => hK w' (by rw [dOf_del] at h1; exact own_size h1) (Kp.of_turned h2)
end
end Go.Proofs.Ytngkapddobgfaaa
