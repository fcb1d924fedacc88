/-
  What the document's Put, Used and cut return.
-/
import Derived.Test.YtngkapddobgfaaaDiskRef
namespace Go.Proofs.Ytngkapddobgfaaa
open Go.RowKit
set_option linter.unusedVariables false

/-- A number held between 0 and another one. -/
def cutZ (n m : Int) : Int := if n < 0 then 0 else if m < n then m else n

set_option maxRecDepth 100000 in
set_option maxHeartbeats 400000 in
theorem refCut_any (n m : Int) (w : World) : Calls Try.prog 33 #[.int .i64 n, .int .i64 m] w fun e w' => e = .returned (.int .i64 (cutZ n m)) ∧ w' = w := by
  by_cases h1 : n < 0
  · have t1 : decide (n < 0) = true := by simp [h1]
    have E : Hid (cutZ n m = 0) := by rw [cutZ, if_pos h1]; exact rfl
    go_enter Try.func33, Try.ntmps33
    go_wp2
    go_ret
    exact ⟨by rw [E.out]; rfl, rfl⟩
  · have t1 : decide (n < 0) = false := by simp [h1]
    by_cases h2 : m < n
    · have t2 : decide (m < n) = true := by simp [h2]
      have E : Hid (cutZ n m = m) := by rw [cutZ, if_neg h1, if_pos h2]; exact rfl
      go_enter Try.func33, Try.ntmps33
      go_wp2
      go_ret
      exact ⟨by rw [E.out]; rfl, rfl⟩
    · have t2 : decide (m < n) = false := by simp [h2]
      have E : Hid (cutZ n m = n) := by rw [cutZ, if_neg h1, if_neg h2]; exact rfl
      go_enter Try.func33, Try.ntmps33
      go_wp2
      go_ret
      exact ⟨by rw [E.out]; rfl, rfl⟩

/-- Bytes of files. -/
def usedF : List FileL → Nat
  | [] => 0
  | f :: fs => f.2.length + usedF fs
theorem usedF_append (a b : List FileL) : usedF (a ++ b) = usedF a + usedF b := by
  induction a with
  | nil => simp [usedF]
  | cons f a ih => simp [usedF, ih]; omega
theorem usedF_take_succ (fs : List FileL) (k : Nat) (f : FileL) (h : fs[k]? = some f) : usedF (fs.take (k + 1)) = usedF (fs.take k) + f.2.length := by
  have hk : k < fs.length := by
    rcases Nat.lt_or_ge k fs.length with h' | h'
    · exact h'
    · rw [List.getElem?_eq_none h'] at h; cases h
  rw [List.getElem?_eq_getElem hk] at h
  cases h
  rw [List.take_succ_eq_append_getElem hk, usedF_append]; simp [usedF]
theorem usedF_take_le (fs : List FileL) (k : Nat) : usedF (fs.take k) ≤ usedF fs := by
  have e := usedF_append (fs.take k) (fs.drop k)
  rw [List.take_append_drop] at e
  omega

set_option maxRecDepth 100000 in
set_option maxHeartbeats 400000 in
theorem refUsed_any (a : Option Addr) (n c : Nat) (rs : List FRef) (w : World) (h : Fs w a n c rs) (hn : n ≤ 1000) (hu : usedF (rs.map FRef.file) ≤ 4611686018427387904) :
    Calls Try.prog 37 #[.slice a n c] w fun e w' => e = .returned (.int .i64 ((usedF (rs.map FRef.file) : Nat) : Int)) ∧ w' = w := by
  have HN : Hid (n = rs.length) := h.1
  go_enter Try.func37, Try.ntmps37
  go_wp2
  go_loop [3, 4] (fun s i => ∃ k u : Nat, i = .int .i64 (k : Int) ∧ k ≤ n ∧ s = .int .i64 (u : Int) ∧ u = usedF ((rs.map FRef.file).take k)) (fun s i => n - (intOf i).toNat)
  case atStart => exact ⟨0, 0, rfl, by omega, rfl, rfl⟩
  case round =>
    obtain ⟨k, u, rfl, hk, rfl, he⟩ := hrel
    have hul : u ≤ 4611686018427387904 := by rw [he]; exact Nat.le_trans (usedF_take_le _ _) hu
    have HE : Hid (u = usedF ((rs.map FRef.file).take k)) := he
    clear he
    by_cases hlt : k < n
    · obtain ⟨b, off, r, rfl, hr, hok, c1, c2⟩ := h.at hlt
      have hbs := hok.2.2.2.1
      have e1 : u + r.n = usedF ((rs.map FRef.file).take (k + 1)) := by
        rw [usedF_take_succ _ k r.file (by rw [List.getElem?_map, hr]; rfl), ← HE.out, ← hbs]; rfl
      have hul2 : u + r.n ≤ 4611686018427387904 := by rw [e1]; exact Nat.le_trans (usedF_take_le _ _) hu
      have HE2 : Hid (u + r.n = usedF ((rs.map FRef.file).take (k + 1))) := e1
      clear e1 h hr hok hbs hu
      go_wp2
      refine ⟨⟨k + 1, u + r.n, by go_num, by omega, by go_num, HE2.out⟩, ?_⟩
      simp [intOf]; omega
    · have e : u = usedF (rs.map FRef.file) := by rw [HE.out, List.take_of_length_le (by rw [List.length_map]; have := HN.out; omega)]
      have HF : Hid (u = usedF (rs.map FRef.file)) := e
      clear e
      go_wp2
      go_ret
      exact ⟨by rw [← HF.out]; rfl, rfl⟩

/-- All files but one name's. -/
def dropF (fs : List FileL) (name : List UInt8) : List FileL := fs.filter fun f => decide (f.1 ≠ name)
/-- A file, in order of names, in the place of the one of its name. -/
def putF (fs : List FileL) (f : FileL) : List FileL :=
  (dropF fs f.1).takeWhile (fun g => Op.bytesLess g.1 f.1) ++ f :: (dropF fs f.1).dropWhile (fun g => Op.bytesLess g.1 f.1)

theorem map_drop (rs : List FRef) (name : ByteArray) : (rs.filter fun r => decide (r.name.toList ≠ name.toList)).map FRef.file = dropF (rs.map FRef.file) name.toList := by
  rw [dropF, List.filter_map]; rfl

theorem while_take {α : Type} (l : List α) (p : α → Bool) (k : Nat) (h1 : ∀ j x, j < k → l[j]? = some x → p x = true) (h2 : ∀ x, l[k]? = some x → p x = false) : l.takeWhile p = l.take k ∧ l.dropWhile p = l.drop k := by
  induction l generalizing k with
  | nil => simp
  | cons x l ih =>
    cases k with
    | zero =>
      have := h2 x (by simp)
      simp [this]
    | succ k =>
      have hx := h1 0 x (by omega) (by simp)
      have := ih k (fun j y hj hy => h1 (j + 1) y (by omega) (by simpa using hy)) (fun y hy => h2 y (by simpa using hy))
      simp [hx, this]

theorem map_put (rs D : List FRef) (f : FRef) (k : Nat) (hD : D = rs.filter fun r => decide (r.name.toList ≠ f.name.toList)) (h1 : ∀ j r, j < k → D[j]? = some r → Op.bytesLess r.name.toList f.name.toList = true)
    (h2 : ∀ r, D[k]? = some r → Op.bytesLess r.name.toList f.name.toList = false) : (D.take k ++ [f] ++ D.drop k).map FRef.file = putF (rs.map FRef.file) f.file := by
  have e := map_drop rs f.name
  rw [← hD] at e
  obtain ⟨e1, e2⟩ := while_take (D.map FRef.file) (fun g => Op.bytesLess g.1 f.file.1) k (fun j x hj hx => by
    rw [List.getElem?_map] at hx
    cases hr : D[j]? with
    | none => rw [hr] at hx; cases hx
    | some r => rw [hr] at hx; cases hx; exact h1 j r hj hr) (fun x hx => by
    rw [List.getElem?_map] at hx
    cases hr : D[k]? with
    | none => rw [hr] at hx; cases hx
    | some r => rw [hr] at hx; cases hx; exact h2 r hr)
  unfold putF
  rw [show f.file.1 = f.name.toList from rfl] at e1 e2 ⊢
  rw [← e, e1, e2]
  simp

set_option maxRecDepth 100000 in
set_option maxHeartbeats 1000000 in
theorem refPut_any (a : Option Addr) (n c : Nat) (rs : List FRef) (f : FRef) (w : World) (h : Fs w a n c rs) (hf : f.ok w) (hn : n ≤ 900) :
    Calls Try.prog 48 #[.slice a n c, .agg #[.string f.name, .slice f.a f.n f.c]] w fun e w' => ∃ v rs', e = .returned v ∧ OwnF w' w.heap.size v rs' ∧ rs'.map FRef.file = putF (rs.map FRef.file) f.file ∧ rs'.length ≤ n + 1 ∧ Below w.heap.size w w' ∧ ∀ r' ∈ rs', r' ∈ rs ∨ r' = f := by
  have HF : Hid (Fs w a n c rs) := h
  go_enter Try.func48, Try.ntmps48
  go_wp2_with fail
  have hb0 : Below w.heap.size w (w.alloc (.cells f.cells.toArray 71)) := (Below.refl _ _).alloc (Nat.le_refl _) _
  refine (refDrop_any a n c rs f.name _ (h.below hb0 (Nat.le_refl _)) (by omega)).mono ?_
  rintro e w1 ⟨v1, rfl, ho1, hb1⟩
  obtain ⟨D, hD⟩ : ∃ D, D = rs.filter fun r => decide (r.name.toList ≠ f.name.toList) := ⟨_, rfl⟩
  rw [← hD] at ho1
  have hDl : D.length ≤ n := by rw [hD, h.1]; exact List.length_filter_le _ _
  have HD : Hid (D = rs.filter fun r => decide (r.name.toList ≠ f.name.toList)) := hD
  clear hD
  obtain ⟨a1, c1, rfl, fs1⟩ := ho1.fs
  have hc1 := fs1.2.1
  have cf1 : w1.cell? ⟨w.heap.size, 0, none⟩ = some (.string f.name) := by
    rw [hb1.cell (by simp)]; simp [FRef.cells]
  have cf2 : w1.cell? ⟨w.heap.size, 1, none⟩ = some (.slice f.a f.n f.c) := by
    rw [hb1.cell (by simp)]; simp [FRef.cells]
  have hwb : (⟨w.heap.size, 0, none⟩ : Addr).block < w1.heap.size := by have := hb1.size; simp at this; show w.heap.size < _; omega
  go_wp2
  go_loopw [5] (fun i wr => ∃ (k nq : Nat), i = .int .i64 (k : Int) ∧ k ≤ D.length ∧ wr = w1.drewN nq ∧ ∀ j r, j < k → D[j]? = some r → Op.bytesLess r.name.toList f.name.toList = true) (fun i _ => D.length - (intOf i).toNat)
  case atStart => exact ⟨0, 0, rfl, by omega, rfl, fun j r hj => by omega⟩
  case round =>
    obtain ⟨k, nq, rfl, hk, rfl, hall⟩ := hrel
    by_cases hlt : k < D.length
    · obtain ⟨b, off, r, rfl, hr, hok, d1, d2⟩ := fs1.at hlt
      have HR : Hid (D[k]? = some r) := hr
      clear hr
      have k1 : (k : Int) < (D.length : Int) := by omega
      have hck : ¬ c1 = k := by omega
      by_cases hq : Op.bytesLess r.name.toList f.name.toList = true
      · go_wp2
        go_quiet (fail)
        go_wp2
        go_roundw
        case rel => exact ⟨k + 1, _, by go_num, by omega, rfl, fun j r' hj hr' => by
          rcases Nat.lt_or_ge j k with hjk | hjk
          · exact hall j r' hjk hr'
          · obtain rfl : j = k := by omega
            rw [HR.out] at hr'
            cases hr'
            exact hq⟩
        case measure => simp [intOf]; omega
      · have hqb : Op.bytesLess r.name.toList f.name.toList = false := by simpa using hq
        have O0 : Hid (∀ q, ((w1.drewN q).alloc (.cells #[] 71)).ownsRow w1.heap.size 71 2 (.slice (some ⟨w1.heap.size, 0, none⟩) 0 0) 0 []) := fun q => World.ownsRow_made (w1.drewN q) #[] 0 (Nat.le_refl _) (by decide) rfl
        have B1 : Hid (∀ q, Below w1.heap.size w1 ((w1.drewN q).alloc (.cells #[] 71))) := fun q => (below_drewN (Below.refl _ _) q).alloc (Nat.le_refl _) _
        have B0 : Hid (∀ q, Cs ((w1.drewN q).alloc (.cells #[] 71)) (some ⟨b, off, none⟩) (fcells (D.take k))) := fun q => by
          rw [← fcells_take]; exact (fs1.2.2.2.1.take _).below (B1.out q) (Nat.le_refl _)
        go_wp2
        go_quiet (fail)
        go_wp2_with (at_builtin; refine wpList_append_cells _ rfl _ _ 29 rfl w1.heap.size 71 _ 2 40 Try.underlying29 info_file rfl (by decide) _ 0 [] rfl (O0.out _) (some ⟨b, off, none⟩) k c1 (fcells (D.take k)) rfl ?b1 (B0.out _) ?b3 (fcells_oneCell _) ?b4 ?b5 ?b6 ?_)
        case b1 => intro h; cases h
        case b3 => rw [fcells_length, List.length_take]; omega
        case b4 => unfold maxLen; omega
        case b5 => omega
        case b6 => simp
        intro v2 w2 ho2 hg2
        have hb2 : Below w1.heap.size w1 w2 := (B1.out _).trans (below_grown (O0.out _) hg2 (by simp))
        replace ho2 : w2.ownsRow w1.heap.size 71 2 v2 k (fcells (D.take k)) := by simpa using ho2
        have cg1 : w2.cell? ⟨w.heap.size, 0, none⟩ = some (.string f.name) := by rw [hb2.cell hwb]; exact cf1
        have cg2 : w2.cell? ⟨w.heap.size, 1, none⟩ = some (.slice f.a f.n f.c) := by rw [hb2.cell hwb]; exact cf2
        clear hg2
        go_wp2_with (at_builtin; refine wpList_append_cells _ rfl _ _ 29 rfl w1.heap.size 71 _ 2 40 Try.underlying29 info_file rfl (by decide) _ k (fcells (D.take k)) rfl (ho2.alloc _) (some ⟨w2.heap.size, 0, none⟩) 1 1 (fcells [f]) rfl ?e1 (Cs.new _ _ _) rfl (fcells_oneCell _) ?e2 ?e3 ?e4 ?_)
        case e1 => intro h; cases h
        case e2 => unfold maxLen; omega
        case e3 => omega
        case e4 => have := hb2.size; simp; omega
        intro v3 w3 ho3 hg3
        have hb3 : Below w1.heap.size w1 w3 := (hb2.alloc hb2.size _).trans (below_grown (ho2.alloc _) hg3 (by have := hb2.size; simp; omega))
        rw [← fcells_append] at ho3
        clear hg3 ho2 cg1 cg2 hb2
        have fs3 := fs1.below hb3 (Nat.le_refl _)
        go_wp2_with (at_builtin; refine wpList_append_cells _ rfl _ _ 29 rfl w1.heap.size 71 _ 2 40 Try.underlying29 info_file rfl (by decide) _ (k + 1) (fcells (D.take k ++ [f])) rfl ho3 (some ⟨b, off + k * 2, none⟩) (D.length - k) (c1 - k) (fcells (D.drop k)) rfl ?g1 ?g2 ?g3 (fcells_oneCell _) ?g4 ?g5 ?g6 ?_)
        case g1 => intro h; cases h
        case g2 => have := fs3.2.2.2.1.drop (p := k * 2) (by rw [fcells_length]; omega); rw [fcells_drop, show Option.map (fun x : Addr => x.add (k * 2)) (some ⟨b, off, none⟩) = some ⟨b, off + k * 2, none⟩ from by simp [Addr.add]] at this; exact this
        case g3 => rw [fcells_length, List.length_drop]
        case g4 => unfold maxLen; omega
        case g5 => omega
        case g6 => exact hb3.size
        intro v4 w4 ho4 hg4
        have hb4 : Below w1.heap.size w1 w4 := hb3.trans (below_grown ho3 hg4 hb3.size)
        have hbw4 : Below w.heap.size w w4 := hb0.trans ((hb1.mono (by simp)).trans (hb4.mono (Nat.le_trans hb0.size hb1.size)))
        rw [← fcells_append, show k + 1 + (D.length - k) = (D.take k ++ [f] ++ D.drop k).length by simp [List.length_take]; omega] at ho4
        have HP : Hid ((D.take k ++ [f] ++ D.drop k).map FRef.file = putF (rs.map FRef.file) f.file) := map_put rs D f k HD.out hall (fun r' hr' => by rw [HR.out] at hr'; cases hr'; exact hqb)
        have hkk : (D.take k ++ [f] ++ D.drop k).length ≤ n + 1 := by
          have e : (D.take k ++ [f] ++ D.drop k).length = D.length + 1 := by simp [List.length_take]; omega
          omega
        have HK : Hid ((D.take k ++ [f] ++ D.drop k).length ≤ n + 1) := hkk
        clear hkk
        have HO : Hid (∀ r' ∈ D.take k ++ [f] ++ D.drop k, r'.ok w4) := fun r' hr' => by
          have hmem : r' ∈ D ∨ r' = f := by
            simp only [List.mem_append, List.mem_singleton] at hr'
            rcases hr' with (h | h) | h
            · exact .inl (List.mem_of_mem_take h)
            · exact .inr h
            · exact .inl (List.mem_of_mem_drop h)
          rcases hmem with h' | rfl
          · rw [HD.out] at h'
            exact (HF.out.2.2.2.2 r' (List.mem_filter.1 h').1).below hbw4 (Nat.le_refl _)
          · exact hf.below hbw4 (Nat.le_refl _)
        have HM : Hid (∀ r' ∈ D.take k ++ [f] ++ D.drop k, r' ∈ rs ∨ r' = f) := fun r' hr' => by
          have hmem : r' ∈ D ∨ r' = f := by
            simp only [List.mem_append, List.mem_singleton] at hr'
            rcases hr' with (h | h) | h
            · exact .inl (List.mem_of_mem_take h)
            · exact .inr h
            · exact .inl (List.mem_of_mem_drop h)
          rcases hmem with h' | h'
          · rw [HD.out] at h'
            exact .inl (List.mem_filter.1 h').1
          · exact .inr h'
        clear hg4 ho3
        go_wp2
        go_ret
        exact ⟨_, _, rfl, ⟨ownsRow_mono ho4 (Nat.le_trans hb0.size hb1.size), HO.out⟩, HP.out, HK.out, hbw4, HM.out⟩
    · have hkb : decide ((k : Int) < (D.length : Int)) = false := by simp; omega
      have O0 : Hid (∀ q, ((w1.drewN q).alloc (.cells #[] 71)).ownsRow w1.heap.size 71 2 (.slice (some ⟨w1.heap.size, 0, none⟩) 0 0) 0 []) := fun q => World.ownsRow_made (w1.drewN q) #[] 0 (Nat.le_refl _) (by decide) rfl
      have B1 : Hid (∀ q, Below w1.heap.size w1 ((w1.drewN q).alloc (.cells #[] 71))) := fun q => (below_drewN (Below.refl _ _) q).alloc (Nat.le_refl _) _
      have B0 : Hid (∀ q, Cs ((w1.drewN q).alloc (.cells #[] 71)) a1 (fcells (D.take k))) := fun q => by
        rw [← fcells_take]; exact (fs1.2.2.2.1.take _).below (B1.out q) (Nat.le_refl _)
      go_wp2
      go_quiet (fail)
      go_wp2_with (at_builtin; refine wpList_append_cells _ rfl _ _ 29 rfl w1.heap.size 71 _ 2 40 Try.underlying29 info_file rfl (by decide) _ 0 [] rfl (O0.out _) a1 k c1 (fcells (D.take k)) rfl ?b1 (B0.out _) ?b3 (fcells_oneCell _) ?b4 ?b5 ?b6 ?_)
      case b1 => intro h; have := fs1.2.2.1 h; omega
      case b3 => rw [fcells_length, List.length_take]; omega
      case b4 => unfold maxLen; omega
      case b5 => omega
      case b6 => simp
      intro v2 w2 ho2 hg2
      have hb2 : Below w1.heap.size w1 w2 := (B1.out _).trans (below_grown (O0.out _) hg2 (by simp))
      replace ho2 : w2.ownsRow w1.heap.size 71 2 v2 k (fcells (D.take k)) := by simpa using ho2
      have cg1 : w2.cell? ⟨w.heap.size, 0, none⟩ = some (.string f.name) := by rw [hb2.cell hwb]; exact cf1
      have cg2 : w2.cell? ⟨w.heap.size, 1, none⟩ = some (.slice f.a f.n f.c) := by rw [hb2.cell hwb]; exact cf2
      clear hg2
      go_wp2_with (at_builtin; refine wpList_append_cells _ rfl _ _ 29 rfl w1.heap.size 71 _ 2 40 Try.underlying29 info_file rfl (by decide) _ k (fcells (D.take k)) rfl (ho2.alloc _) (some ⟨w2.heap.size, 0, none⟩) 1 1 (fcells [f]) rfl ?e1 (Cs.new _ _ _) rfl (fcells_oneCell _) ?e2 ?e3 ?e4 ?_)
      case e1 => intro h; cases h
      case e2 => unfold maxLen; omega
      case e3 => omega
      case e4 => have := hb2.size; simp; omega
      intro v3 w3 ho3 hg3
      have hb3 : Below w1.heap.size w1 w3 := (hb2.alloc hb2.size _).trans (below_grown (ho2.alloc _) hg3 (by have := hb2.size; simp; omega))
      rw [← fcells_append] at ho3
      clear hg3 ho2 cg1 cg2 hb2
      have fs3 := fs1.below hb3 (Nat.le_refl _)
      by_cases hck : c1 = k
      · go_wp2_with (at_builtin; refine wpList_append_cells _ rfl _ _ 29 rfl w1.heap.size 71 _ 2 40 Try.underlying29 info_file rfl (by decide) _ (k + 1) (fcells (D.take k ++ [f])) rfl ho3 _ (D.length - k) _ (fcells (D.drop k)) rfl ?g1 ?g2 ?g3 (fcells_oneCell _) ?g4 ?g5 ?g6 ?_)
        case g1 => intro h; have := fs1.2.2.1 h; omega
        case g2 => rw [List.drop_eq_nil_of_le (by omega)]; exact Cs.nil _ _
        case g3 => rw [fcells_length, List.length_drop]
        case g4 => unfold maxLen; omega
        case g5 => omega
        case g6 => exact hb3.size
        intro v4 w4 ho4 hg4
        have hb4 : Below w1.heap.size w1 w4 := hb3.trans (below_grown ho3 hg4 hb3.size)
        have hbw4 : Below w.heap.size w w4 := hb0.trans ((hb1.mono (by simp)).trans (hb4.mono (Nat.le_trans hb0.size hb1.size)))
        rw [← fcells_append, show k + 1 + (D.length - k) = (D.take k ++ [f] ++ D.drop k).length by simp [List.length_take]; omega] at ho4
        have HP : Hid ((D.take k ++ [f] ++ D.drop k).map FRef.file = putF (rs.map FRef.file) f.file) := map_put rs D f k HD.out hall (fun r' hr' => by rw [List.getElem?_eq_none (by omega)] at hr'; cases hr')
        have hkk : (D.take k ++ [f] ++ D.drop k).length ≤ n + 1 := by
          have e : (D.take k ++ [f] ++ D.drop k).length = D.length + 1 := by simp [List.length_take]; omega
          omega
        have HK : Hid ((D.take k ++ [f] ++ D.drop k).length ≤ n + 1) := hkk
        clear hkk
        have HO : Hid (∀ r' ∈ D.take k ++ [f] ++ D.drop k, r'.ok w4) := fun r' hr' => by
          have hmem : r' ∈ D ∨ r' = f := by
            simp only [List.mem_append, List.mem_singleton] at hr'
            rcases hr' with (h | h) | h
            · exact .inl (List.mem_of_mem_take h)
            · exact .inr h
            · exact .inl (List.mem_of_mem_drop h)
          rcases hmem with h' | rfl
          · rw [HD.out] at h'
            exact (HF.out.2.2.2.2 r' (List.mem_filter.1 h').1).below hbw4 (Nat.le_refl _)
          · exact hf.below hbw4 (Nat.le_refl _)
        have HM : Hid (∀ r' ∈ D.take k ++ [f] ++ D.drop k, r' ∈ rs ∨ r' = f) := fun r' hr' => by
          have hmem : r' ∈ D ∨ r' = f := by
            simp only [List.mem_append, List.mem_singleton] at hr'
            rcases hr' with (h | h) | h
            · exact .inl (List.mem_of_mem_take h)
            · exact .inr h
            · exact .inl (List.mem_of_mem_drop h)
          rcases hmem with h' | h'
          · rw [HD.out] at h'
            exact .inl (List.mem_filter.1 h').1
          · exact .inr h'
        clear hg4 ho3
        go_wp2
        go_ret
        exact ⟨_, _, rfl, ⟨ownsRow_mono ho4 (Nat.le_trans hb0.size hb1.size), HO.out⟩, HP.out, HK.out, hbw4, HM.out⟩
      · have hsome : a1 ≠ none := fun h => by have := fs1.2.2.1 h; omega
        go_wp2_with (at_builtin; refine wpList_append_cells _ rfl _ _ 29 rfl w1.heap.size 71 _ 2 40 Try.underlying29 info_file rfl (by decide) _ (k + 1) (fcells (D.take k ++ [f])) rfl ho3 _ (D.length - k) (c1 - k) (fcells (D.drop k)) rfl ?g1 ?g2 ?g3 (fcells_oneCell _) ?g4 ?g5 ?g6 ?_)
        case g1 => intro h; have := hsome; cases a1 with | none => exact absurd rfl this | some x => cases h
        case g2 => rw [List.drop_eq_nil_of_le (by omega)]; exact Cs.nil _ _
        case g3 => rw [fcells_length, List.length_drop]
        case g4 => unfold maxLen; omega
        case g5 => omega
        case g6 => exact hb3.size
        intro v4 w4 ho4 hg4
        have hb4 : Below w1.heap.size w1 w4 := hb3.trans (below_grown ho3 hg4 hb3.size)
        have hbw4 : Below w.heap.size w w4 := hb0.trans ((hb1.mono (by simp)).trans (hb4.mono (Nat.le_trans hb0.size hb1.size)))
        rw [← fcells_append, show k + 1 + (D.length - k) = (D.take k ++ [f] ++ D.drop k).length by simp [List.length_take]; omega] at ho4
        have HP : Hid ((D.take k ++ [f] ++ D.drop k).map FRef.file = putF (rs.map FRef.file) f.file) := map_put rs D f k HD.out hall (fun r' hr' => by rw [List.getElem?_eq_none (by omega)] at hr'; cases hr')
        have hkk : (D.take k ++ [f] ++ D.drop k).length ≤ n + 1 := by
          have e : (D.take k ++ [f] ++ D.drop k).length = D.length + 1 := by simp [List.length_take]; omega
          omega
        have HK : Hid ((D.take k ++ [f] ++ D.drop k).length ≤ n + 1) := hkk
        clear hkk
        have HO : Hid (∀ r' ∈ D.take k ++ [f] ++ D.drop k, r'.ok w4) := fun r' hr' => by
          have hmem : r' ∈ D ∨ r' = f := by
            simp only [List.mem_append, List.mem_singleton] at hr'
            rcases hr' with (h | h) | h
            · exact .inl (List.mem_of_mem_take h)
            · exact .inr h
            · exact .inl (List.mem_of_mem_drop h)
          rcases hmem with h' | rfl
          · rw [HD.out] at h'
            exact (HF.out.2.2.2.2 r' (List.mem_filter.1 h').1).below hbw4 (Nat.le_refl _)
          · exact hf.below hbw4 (Nat.le_refl _)
        have HM : Hid (∀ r' ∈ D.take k ++ [f] ++ D.drop k, r' ∈ rs ∨ r' = f) := fun r' hr' => by
          have hmem : r' ∈ D ∨ r' = f := by
            simp only [List.mem_append, List.mem_singleton] at hr'
            rcases hr' with (h | h) | h
            · exact .inl (List.mem_of_mem_take h)
            · exact .inr h
            · exact .inl (List.mem_of_mem_drop h)
          rcases hmem with h' | h'
          · rw [HD.out] at h'
            exact .inl (List.mem_filter.1 h').1
          · exact .inr h'
        clear hg4 ho3
        go_wp2
        go_ret
        exact ⟨_, _, rfl, ⟨ownsRow_mono ho4 (Nat.le_trans hb0.size hb1.size), HO.out⟩, HP.out, HK.out, hbw4, HM.out⟩
end Go.Proofs.Ytngkapddobgfaaa
