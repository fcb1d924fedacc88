/-
  The iterator that frame.frames returns; frame.All.
-/
import Derived.Test.YtfcckekinlobjaaFrAll
namespace Go.Proofs.Ytfcckekinlobjaa
open Go.RowKit Go.Shelf
set_option linter.unusedVariables false
attribute [local go_sem] Oper.semAt_some

/-- What a round keeps: all below n₀, the box Bb, all blocks of bytes. -/
def Kp8 (n₀ Bb : Nat) (V V' : World) : Prop := Below n₀ V V' ∧ V'.heap[Bb]? = V.heap[Bb]? ∧ ∀ (g : Nat) cs fl, V.heap[g]? = some (Obj.cells cs 5 fl) → V'.heap[g]? = some (Obj.cells cs 5 fl)

def msr (k : Nat) (nx er : Value) : Nat := if intOf er = 0 then k + 2 - (intOf nx).toNat else 0
def Rc.key (x : Rc) : Nat × List Int := (x.nx, x.zs)
def Rc.encs (x : Rc) : Array Value := #[.int .i64 (x.nx : Int), x.v]

/-- What Get has told of the place p. -/
def Got (zs : List Int) (p : Nat) (r : Value) (nx er : Int) (V : World) : Prop :=
  (getF (zs.drop p) = none ∧ er ≠ 0) ∨ ∃ (x : Rc) (n : Nat), getF (zs.drop p) = some (x.zs, n) ∧ x.nx = p + n ∧ x.ok V ∧ r = x.v ∧ nx = (x.nx : Int) ∧ er = 0

set_option maxRecDepth 100000 in
set_option maxHeartbeats 1000000 in
theorem frames1_in (l Bb k cap : Nat) (a : Option Addr) (zs : List Int) (w : World) (hb : Bs w a k zs) (hk : k ≤ 1000000) (hkc : k ≤ cap) (J : List Rc → World → Prop) (hJ : ∀ pre A B, J pre A → Below A.heap.size A B → J pre B)
    (hY : ∀ pre (x : Rc) V, J pre V → x.ok V ∧ pre.length < k → YieldAt Fence.wide 1 Try.prog l #[.int .i64 (x.nx : Int), x.v] V fun e V' => e = .returned (.bool true) ∧ J (pre ++ [x]) V' ∧ Kp8 w.heap.size Bb V V')
    (W : World) (hW : Below w.heap.size w W) (hBb : W.cell? ⟨Bb, 0, none⟩ = some (.slice a k cap)) (hBl : Bb < W.heap.size) (h0 : J [] W) :
    CallsIn Fence.wide 2 Try.prog 28 #[.func (.yield l) #[] #[], .pointer (some ⟨Bb, 0, none⟩)] W fun e W' => (∃ v, e = .returned v) ∧ ∃ xs, xs.map Rc.key = allOf zs 0 ∧ J xs W' := by
  have HG : Hid (∀ V p, Below w.heap.size w V → p ≤ k → Calls Try.prog 14 #[.slice a k cap, .int .i64 (p : Int)] V fun e w' => ∃ (r : Value) (nx er : Int), e = .returned (.tuple #[r, .int .i64 nx, .int .u8 er]) ∧ Below V.heap.size V w' ∧ Got zs p r nx er w') :=
    fun V p hV hp => (get_any a k cap p zs V (hb.below hV (Nat.le_refl _)) hk hkc hp).mono fun e w' h => by
      obtain ⟨h1, ⟨h2, er, h3, rfl⟩ | ⟨x, n, h2, h3, h4, rfl⟩⟩ := h
      · exact ⟨_, _, _, rfl, h1, .inl ⟨h2, h3⟩⟩
      · exact ⟨_, _, _, rfl, h1, .inr ⟨x, n, h2, h3, h4, rfl, rfl, rfl⟩⟩
  have hlz : zs.length = k := hb.1
  have hwf : ∀ z ∈ zs, 0 ≤ z ∧ z ≤ 255 := hb.2.1
  have HZ : Hid (zs.length = k ∧ ∀ z ∈ zs, 0 ≤ z ∧ z ≤ 255) := ⟨hlz, hwf⟩
  clear hlz hwf
  refine callsIn_of_wp Try.func28 rfl trivial ?_ rfl
  simp only [Try.ntmps28, List.size_toArray, List.length_cons, List.length_nil, Nat.reduceAdd, Nat.reduceSub, Array.replicate_succ, Array.replicate_zero, List.push_toArray, List.append_toArray, List.nil_append, List.cons_append]
  gi_wp2_with (refine ⟨trivial, ?_⟩; gi_at_call 14; refine (callsIn_wide.2 (HG.out W 0 hW (by omega))).mono ?_; rintro e w1 ⟨r, nx, er, rfl, hb1, hg1⟩)
  have hW1 : Below w.heap.size w w1 := hW.trans (hb1.mono hW.size)
  have hc1 : w1.cell? ⟨Bb, 0, none⟩ = some (.slice a k cap) := (hb1.cell (p := ⟨Bb, 0, none⟩) hBl).trans hBb
  have hJ1 := hJ _ _ _ h0 hb1
  have hl1 : Bb < w1.heap.size := Nat.lt_of_lt_of_le hBl hb1.size
  clear hb1 h0 hBb hW hBl
  gi_loopw [3, 4, 5] (fun rv nv ev wr => ∃ (pre : List Rc) (p : Nat) (r : Value) (nx er : Int), rv = r ∧ nv = .int .i64 nx ∧ ev = .int .u8 er ∧ Below w.heap.size w wr ∧ wr.cell? ⟨Bb, 0, none⟩ = some (.slice a k cap) ∧ Bb < wr.heap.size ∧ J pre wr ∧ p ≤ k ∧ 5 * pre.length ≤ p ∧ pre.map Rc.key ++ allOf zs p = allOf zs 0 ∧ Got zs p r nx er wr) (fun rv nv ev wr => msr k nv ev)
  case atStart => exact ⟨[], 0, r, nx, er, rfl, rfl, rfl, hW1, hc1, hl1, hJ1, by omega, by simp, by simp, hg1⟩
  case round =>
    obtain ⟨pre, p, r', nx', er', rfl, rfl, rfl, hWr, hcr, hlr, hJr, hp, hp5, hall, hg⟩ := hrel
    clear hc1 hJ1 hl1 hW1 hg1
    rcases hg with ⟨hn, he⟩ | ⟨x, n, hs, hnx, hok, rfl, rfl, rfl⟩
    · have hne : (er' == 0) = false := by simp [he]
      gi_wp2
      refine ⟨fun _ h => (by cases h), ?_⟩
      gi_wp2
      go_end0
      refine ⟨⟨_, rfl⟩, pre, ?_, hJr⟩
      rw [allOf_none hn, List.append_nil] at hall
      exact hall
    · have HN : Hid (x.nx = p + n) := hnx
      have HA : Hid (pre.map Rc.key ++ allOf zs p = allOf zs 0) := hall
      have HS : Hid (getF (zs.drop p) = some (x.zs, n)) := hs
      have hle := getF_le (fun z hz => HZ.out.2 z (List.mem_of_mem_drop hz)) hs
      rw [List.length_drop, HZ.out.1] at hle
      have hxk : x.nx ≤ k := by omega
      have hx5 : p + 5 ≤ x.nx := by omega
      obtain ⟨fn, tmps, assign, body, hy, hR⟩ := hY pre x _ hJr ⟨hok, by omega⟩
      clear hnx hall hs hle
      obtain ⟨N, hN⟩ : ∃ N, N = x.nx := ⟨_, rfl⟩
      have HX : Hid (N = x.nx) := hN
      rw [← hN] at hy hxk hx5 ⊢
      clear hN
      gi_wp2
      refine hR.mono ?_
      rintro e V3 ⟨rfl, hJ3, hk3⟩
      have hW3 : Below w.heap.size w V3 := hWr.trans hk3.1
      have hc3 : V3.cell? ⟨Bb, 0, none⟩ = some (.slice a k cap) := (World.cell?_of_block (w := wr) hk3.2.1).trans hcr
      have hl3 : Bb < V3.heap.size := Nat.lt_of_lt_of_le hlr hk3.1.size
      gi_wp2_with (refine ⟨trivial, ?_⟩; gi_at_call 14; refine (callsIn_wide.2 (HG.out V3 N hW3 hxk)).mono ?_; rintro e w4 ⟨r4, nx4, er4, rfl, hb4, hg4⟩)
      go_roundw
      case rel =>
        refine ⟨pre ++ [x], N, r4, nx4, er4, rfl, rfl, rfl, hW3.trans (hb4.mono hW3.size), (hb4.cell (p := ⟨Bb, 0, none⟩) hl3).trans hc3, Nat.lt_of_lt_of_le hl3 hb4.size, hJ _ _ _ hJ3 hb4, hxk, by simp; omega, ?_, hg4⟩
        rw [← HA.out, allOf_some HZ.out.2 (by rw [HZ.out.1]; omega) HS.out, HX.out, HN.out, List.map_append, List.append_assoc]
        simp [Rc.key, HN.out]
      case measure =>
        rcases hg4 with ⟨_, he4⟩ | ⟨x4, n4, hs4, hnx4, _, rfl, rfl, rfl⟩
        · simp [msr, intOf, he4]
          omega
        · have hle := getF_le (fun z hz => HZ.out.2 z (List.mem_of_mem_drop hz)) hs4
          rw [List.length_drop, HZ.out.1] at hle
          simp [msr, intOf]
          omega

set_option maxHeartbeats 1000000 in
theorem frames_in (k cap : Nat) (a : Option Addr) (w : World) :
    CallsIn Fence.wide 2 Try.prog 21 #[.slice a k cap] w fun e w' => e = .returned (.func (.func 28) #[] #[.pointer (some ⟨w.heap.size, 0, none⟩)]) ∧ w' = w.alloc (.cells #[.slice a k cap] 22) := by
  refine callsIn_of_wp Try.func21 rfl trivial ?_ rfl
  simp only [Try.ntmps21, List.size_toArray, List.length_cons, List.length_nil, Nat.reduceAdd, Nat.reduceSub, Array.replicate_succ, Array.replicate_zero, List.push_toArray, List.append_toArray, List.nil_append, List.cons_append]
  gi_wp2
  go_ret
  exact ⟨rfl, rfl⟩

/-- The place behind the last record. -/
def endOf (l : List (Nat × List Int)) : Nat := (l.getLast?.map (·.1)).getD 0
theorem endOf_snoc (l : List (Nat × List Int)) (x : Nat × List Int) : endOf (l ++ [x]) = x.1 := by simp [endOf]

theorem Rc.ok.kept {x : Rc} {V V' : World} (h : x.ok V) (hs : V.heap.size ≤ V'.heap.size) (hk : ∀ (g : Nat) cs fl, V.heap[g]? = some (Obj.cells cs 5 fl) → V'.heap[g]? = some (Obj.cells cs 5 fl)) : x.ok V' := by
  obtain ⟨⟨h1, ⟨b1, b2, b3⟩, h2⟩, ht⟩ := h
  rcases ht with ht | ⟨g, off, cur, ha, hg⟩
  · exact ⟨⟨h1, ⟨b1, b2, .inl ht⟩, h2⟩, .inl ht⟩
  · refine ⟨⟨h1, ⟨b1, b2, ?_⟩, h2⟩, .inr ⟨g, off, cur, ha, hk _ _ _ hg⟩⟩
    rcases b3 with b3 | ⟨b, o, hb, hl, hc⟩
    · exact .inl b3
    · have hb' : x.a = some ⟨b, o, none⟩ := hb
      rw [ha] at hb'
      cases hb'
      refine .inr ⟨g, off, ha, Nat.lt_of_lt_of_le hl hs, fun i hi => ?_⟩
      rw [World.cell?_of_block (w := V) (show V'.heap[g]? = V.heap[g]? from by rw [hg]; exact hk _ _ _ hg)]
      exact hc i hi

/-- What All has between two rounds. -/
def AllI (w : World) (pre : List Rc) (W : World) : Prop :=
  (∃ v, Boxed W w.heap.size 33 v ∧ W.ownsRow (w.heap.size + 3) 22 1 v pre.length (pre.map Rc.v)) ∧ Boxed W (w.heap.size + 1) 3 (.int .i64 (endOf (pre.map Rc.key) : Int)) ∧ (∀ x ∈ pre, x.ok W) ∧ Below w.heap.size w W ∧ w.heap.size + 3 ≤ W.heap.size

theorem ownsRow_cells {A B : World} {base : Nat} {e : TypeId} {size : Nat} {v : Value} {n : Nat} {xs : List Value} (h : A.ownsRow base e size v n xs) (hk : ∀ (g : Nat) cs t fl, A.heap[g]? = some (Obj.cells cs t fl) → B.heap[g]? = some (Obj.cells cs t fl)) : B.ownsRow base e size v n xs := by
  refine ⟨h.1, ?_⟩
  rcases h.2 with h2 | ⟨g, cap, cur, rfl, hg, hh, r⟩
  · exact .inl h2
  · exact .inr ⟨g, cap, cur, rfl, hg, hk _ _ _ _ hh, r⟩

theorem AllI.cells {w A B : World} {pre : List Rc} (h : AllI w pre A) (hk : ∀ (g : Nat) cs t fl, A.heap[g]? = some (Obj.cells cs t fl) → B.heap[g]? = some (Obj.cells cs t fl)) (hs : A.heap.size ≤ B.heap.size) (hb : Below w.heap.size A B) : AllI w pre B := by
  obtain ⟨⟨v, hv, hr⟩, h2, h3, h4, h5⟩ := h
  exact ⟨⟨v, hk _ _ _ _ hv, ownsRow_cells hr hk⟩, hk _ _ _ _ h2, fun x hx => (h3 x hx).kept hs (fun g cs fl => hk g cs _ fl), h4.trans hb, by omega⟩

theorem cells_putObj {A : World} {l : Nat} {o : Obj} (o' : Obj) (hl : A.heap[l]? = some o) (ho : o.isCells = false) (g : Nat) (cs : Array Value) (t : TypeId) (fl : Nat × Nat) (h : A.heap[g]? = some (Obj.cells cs t fl)) : (A.putObj l o').heap[g]? = some (Obj.cells cs t fl) := by
  by_cases e : g = l
  · subst e; rw [hl] at h; cases h; cases ho
  · rw [World.putObj_heap_other e]; exact h

theorem AllI.abides {w A B : World} {pre : List Rc} (h : AllI w pre A) (hb : Below A.heap.size A B) : AllI w pre B :=
  h.cells (fun g cs t fl hg => (hb.block g (Array.getElem?_eq_some_iff.1 hg).1).trans hg) hb.size (hb.mono (by have := h.2.2.2.2; omega))

theorem AllI.putObj {w A : World} {pre : List Rc} (h : AllI w pre A) {l : Nat} {o : Obj} (o' : Obj) (hwl : w.heap.size ≤ l) (hl : A.heap[l]? = some o) (ho : o.isCells = false) : AllI w pre (A.putObj l o') :=
  h.cells (cells_putObj o' hl ho) (by simp [World.putObj]) ⟨rfl, rfl, rfl, by simp [World.putObj], fun k hk => World.putObj_heap_other (by omega)⟩

theorem keep_set {W : World} {g b : Nat} (u : Value) (h : g ≠ b) : (W.setCell ⟨b, 0, none⟩ u).heap[g]? = W.heap[g]? := Below.heap_setCell _ _ _ _ h

/-- One round's memory. -/
theorem round_mem {w W w1 : World} {pre : List Rc} {x : Rc} {v v' : Value} {old : Value} {tmp : Obj}
    (hv : Boxed W w.heap.size 33 v) (hrow : W.ownsRow (w.heap.size + 3) 22 1 v pre.length (pre.map Rc.v)) (h2 : Boxed W (w.heap.size + 1) 3 old) (h3 : ∀ y ∈ pre, y.ok W) (h4 : Below w.heap.size w W) (h5 : w.heap.size + 3 ≤ W.heap.size) (hx : x.ok W)
    (hown : w1.ownsRow (w.heap.size + 3) 22 1 v' (pre.length + 1) (pre.map Rc.v ++ [x.v])) (hg : (W.alloc tmp).grownBy w1 v.ownBlock) :
    Boxed w1 w.heap.size 33 v ∧ Boxed (w1.setCell ⟨w.heap.size, 0, none⟩ v') (w.heap.size + 1) 3 old ∧
    KeepsOthers W ((w1.setCell ⟨w.heap.size, 0, none⟩ v').setCell ⟨w.heap.size + 1, 0, none⟩ (.int .i64 (x.nx : Int))) ∧ Kp8 w.heap.size (w.heap.size + 1 + 1) W ((w1.setCell ⟨w.heap.size, 0, none⟩ v').setCell ⟨w.heap.size + 1, 0, none⟩ (.int .i64 (x.nx : Int))) ∧
    AllI w (pre ++ [x]) ((w1.setCell ⟨w.heap.size, 0, none⟩ v').setCell ⟨w.heap.size + 1, 0, none⟩ (.int .i64 (x.nx : Int))) := by
  have hlt := hrow.lt
  have hne : ∀ g, g < w.heap.size + 3 → some g ≠ v.ownBlock := fun g hgl e => by have := (hlt g e.symm).1; omega
  have hnv' : ∀ g, g < w.heap.size + 3 → v'.ownBlock ≠ some g := fun g hgl e => by have := (hown.lt g e).1; omega
  have b1 : Boxed w1 w.heap.size 33 v := (hv.alloc tmp).kept hg (hne _ (by omega))
  have b2 : Boxed w1 (w.heap.size + 1) 3 old := (h2.alloc tmp).kept hg (hne _ (by omega))
  have c2 : Boxed (w1.setCell ⟨w.heap.size, 0, none⟩ v') (w.heap.size + 1) 3 old := b2.kept (grownBy_setCell' w1 w.heap.size v') (by simp)
  have c1 : Boxed (w1.setCell ⟨w.heap.size, 0, none⟩ v') w.heap.size 33 v' := b1.set v'
  have d1 : Boxed ((w1.setCell ⟨w.heap.size, 0, none⟩ v').setCell ⟨w.heap.size + 1, 0, none⟩ (.int .i64 (x.nx : Int))) w.heap.size 33 v' := c1.kept (grownBy_setCell' _ (w.heap.size + 1) _) (by simp)
  have d2 := c2.set (.int .i64 (x.nx : Int))
  have u8 : ∀ (g : Nat) cs fl, W.heap[g]? = some (Obj.cells cs 5 fl) → ((w1.setCell ⟨w.heap.size, 0, none⟩ v').setCell ⟨w.heap.size + 1, 0, none⟩ (.int .i64 (x.nx : Int))).heap[g]? = some (Obj.cells cs 5 fl) := by
    intro g cs fl h
    have hgl := (Array.getElem?_eq_some_iff.1 h).1
    have n1 : g ≠ w.heap.size := fun e => by rw [e, show W.heap[w.heap.size]? = _ from hv] at h; cases h
    have n2 : g ≠ w.heap.size + 1 := fun e => by rw [e, show W.heap[w.heap.size + 1]? = _ from h2] at h; cases h
    have n3 : some g ≠ v.ownBlock := fun e => by
      rcases hrow.2 with ⟨rfl, _⟩ | ⟨q, cap, cur, rfl, _, hh, _⟩
      · cases e
      · have e' : g = q := by simpa [Value.ownBlock] using e
        rw [e', hh] at h; cases h
    rw [keep_set _ n2, keep_set _ n1, hg.block g (by simp; omega) n3, Below.heap_alloc _ _ _ hgl]
    exact h
  have bb : ((w1.setCell ⟨w.heap.size, 0, none⟩ v').setCell ⟨w.heap.size + 1, 0, none⟩ (.int .i64 (x.nx : Int))).heap[w.heap.size + 1 + 1]? = W.heap[w.heap.size + 1 + 1]? := by
    rw [keep_set _ (by omega), keep_set _ (by omega), hg.block _ (by simp; omega) (hne _ (by omega)), Below.heap_alloc _ _ _ (by omega)]
  have hbel : Below w.heap.size W ((w1.setCell ⟨w.heap.size, 0, none⟩ v').setCell ⟨w.heap.size + 1, 0, none⟩ (.int .i64 (x.nx : Int))) :=
    ((((Below.refl w.heap.size W).alloc (by omega) tmp).grown hg (by simp; omega) (fun j e => by have := (hlt j e).1; omega)).setCell (p := ⟨w.heap.size, 0, none⟩) (Nat.le_refl _) _).setCell (p := ⟨w.heap.size + 1, 0, none⟩) (by show w.heap.size ≤ w.heap.size + 1; omega) _
  refine ⟨b1, c2, ?_, ⟨hbel, bb, u8⟩, ⟨v', d1, ?_⟩, ?_, ?_, h4.trans hbel, ?_⟩
  · refine (((KeepsOthers.alloc W tmp).trans (KeepsOthers.of_grownBy hg fun j o ej hj => ?_)).trans (KeepsOthers.setCell _ _ _)).trans (KeepsOthers.setCell _ _ _)
    rcases (hrow.alloc tmp).2 with ⟨rfl, _⟩ | ⟨q, cap, cur, rfl, _, hh, _⟩
    · simp [Value.ownBlock] at ej
    · obtain rfl : q = j := by simpa [Value.ownBlock] using ej
      rw [hh] at hj; cases hj; rfl
  · rw [List.length_append, List.map_append]
    exact (hown.kept (grownBy_setCell' w1 w.heap.size v') (.inr (hnv' _ (by omega)))).kept (grownBy_setCell' _ (w.heap.size + 1) _) (.inr (hnv' _ (by omega)))
  · rw [List.map_append, List.map_cons, List.map_nil, endOf_snoc]
    exact d2
  · intro y hy
    rcases List.mem_append.1 hy with hy | hy
    · exact (h3 y hy).kept hbel.size u8
    · rw [List.mem_singleton.1 hy]; exact hx.kept hbel.size u8
  · have := hbel.size; omega

theorem info_bs : (Try.prog.info? 22).map (fun i => (i.zero, i.size, i.bytes)) = some (some (.slice none 0 0), 1, 24) := by kernel_rfl

set_option maxRecDepth 100000 in
set_option maxHeartbeats 2000000 in
theorem all_in (a : Option Addr) (k cap : Nat) (zs : List Int) (w : World) (hb : Bs w a k zs) (hk : k ≤ 1000000) (hkc : k ≤ cap) :
    CallsIn Fence.wide 3 Try.prog 12 #[.slice a k cap] w fun e W' => ∃ (xs : List Rc) (v : Value), xs.map Rc.key = allOf zs 0 ∧ e = .returned (.tuple #[v, .int .i64 (endOf (allOf zs 0) : Int)]) ∧ W'.ownsRow w.heap.size 22 1 v xs.length (xs.map Rc.v) ∧ (∀ x ∈ xs, x.ok W') ∧ Below w.heap.size w W' := by
  refine callsIn_of_wp_marks Try.func12 rfl trivial ?_ rfl
  simp only [Try.ntmps12, List.size_toArray, List.length_cons, List.length_nil, Nat.reduceAdd, Nat.reduceSub, Array.replicate_succ, Array.replicate_zero, List.push_toArray, List.append_toArray, List.nil_append, List.cons_append]
  gi_wp2_with (refine ⟨trivial, ?_⟩; gi_at_call 21; refine (frames_in _ _ _ _).mono ?_; rintro e w' ⟨rfl, rfl⟩)
  have bO := Boxed.new w 33 (.slice none 0 0)
  have bE := Boxed.new (w.alloc (.cells #[.slice none 0 0] 33)) 3 (.int .i64 0)
  have bB := Boxed.new ((w.alloc (.cells #[.slice none 0 0] 33)).alloc (.cells #[.int .i64 0] 3)) 22 (.slice a k cap)
  rw [World.size_alloc] at bE
  rw [World.size_alloc, World.size_alloc] at bB
  have hB0 : Below w.heap.size w (((w.alloc (.cells #[.slice none 0 0] 33)).alloc (.cells #[.int .i64 0] 3)).alloc (.cells #[.slice a k cap] 22)) := (((Below.refl _ w).alloc (Nat.le_refl _) _).alloc (by simp) _).alloc (by simp; omega) _
  have hI0 : AllI w [] (((w.alloc (.cells #[.slice none 0 0] 33)).alloc (.cells #[.int .i64 0] 3)).alloc (.cells #[.slice a k cap] 22)) :=
    ⟨⟨_, (bO.alloc _).alloc _, World.ownsRow_nil _ _ _ _⟩, bE.alloc _, by simp, hB0, by simp⟩
  obtain ⟨i0, hi1, hi2, hi3, hi4⟩ := info_parts info_bs
  have hsz : (((w.alloc (.cells #[.slice none 0 0] 33)).alloc (.cells #[.int .i64 0] 3)).alloc (.cells #[.slice a k cap] 22)).heap.size = w.heap.size + 3 := by simp
  refine wp_collect (gf := 28) (lb := #[.pointer (some ⟨w.heap.size + 1 + 1, 0, none⟩)]) rfl (enters_of Try.func28 (by kernel_rfl) rfl)
    (encs := fun x : Rc => #[.int .i64 (x.nx : Int), x.v]) (Ok := fun pre x V => x.ok V ∧ pre.length < k) (Kp := Kp8 w.heap.size (w.heap.size + 1 + 1)) (S := fun xs => xs.map Rc.key = allOf zs 0)
    ?gives ?kt ?kb ?okp (fun _ => rfl) (AllI w) (fun pre A B h hb => h.abides hb) ?ip hI0
    (fun x => { tmps := #[.slice a k cap, undef, .slice none 0 0, .int .i64 0, .pointer (some ⟨w.heap.size, 0, none⟩), .pointer (some ⟨w.heap.size + 1, 0, none⟩), .int .i64 (x.nx : Int), x.v, .slice a k cap, .func (.func 28) #[] #[.pointer (some ⟨w.heap.size + 1 + 1, 0, none⟩)], .int .i64 (x.nx : Int), x.v, undef, undef, undef, undef, undef, undef, undef], defers := [] }) ?assign ?body ?done
  case gives =>
    intro l J W hW hJ hY h0
    have hlW : w.heap.size + 1 + 1 < W.heap.size := by have := hW.size; rw [hsz] at this; omega
    exact frames1_in l (w.heap.size + 1 + 1) k cap a zs w hb hk hkc J hJ hY W (hB0.trans (hW.mono (by rw [hsz]; omega))) ((hW.cell (p := ⟨w.heap.size + 1 + 1, 0, none⟩) (by rw [hsz]; show w.heap.size + 1 + 1 < _; omega)).trans bB.cell) hlW h0
  case kt =>
    rintro A B C ⟨h1, h2, h3⟩ ⟨k1, k2, k3⟩
    exact ⟨h1.trans k1, k2.trans h2, fun g cs fl h => k3 g cs fl (h3 g cs fl h)⟩
  case kb =>
    intro W l o o' hl h ho
    rw [hsz] at hl
    exact ⟨⟨rfl, rfl, rfl, by simp [World.putObj], fun q hq => World.putObj_heap_other (by omega)⟩, World.putObj_heap_other (by omega), fun g cs fl => cells_putObj o' h ho g cs _ fl⟩
  case okp =>
    rintro pre x W l o o' ⟨h1, h2⟩ hl ho
    exact ⟨h1.kept (by simp [World.putObj]) (fun g cs fl => cells_putObj o' hl ho g cs _ fl), h2⟩
  case ip =>
    intro pre A l o o' h hl h1 h2
    rw [hsz] at hl
    exact h.putObj o' (by omega) h1 h2
  case assign =>
    intro l x W K hK
    gi_wp2
    exact hK
  case body =>
    rintro l pre x W ⟨⟨v, hv, hrow⟩, h2, h3, h4, h5⟩ ⟨hx, hlt⟩
    have hc := hv.cell
    obtain ⟨nx, xa, xc, xz⟩ := x
    simp only [Rc.v]
    gi_wp2_with (gi_at_builtin; (refine wpListIn_append_own _ rfl _ _ 33 rfl (w.heap.size + 3) 22 i0 (.slice none 0 0) 1 24 Try.underlying33 hi1 hi2 hi3 hi4 rfl (by decide) _ _ _ rfl (hrow.alloc _) ⟨W.heap.size, 0, none⟩ 1 1 [.slice xa xz.length xc] rfl rfl (cell_one_new _ _ _) (by simp [Value.oneCell']) (by unfold maxLen; omega) (by omega) (by simp; omega) ?_); intro v' w1 hown hgrow _; obtain ⟨g', cap', rfl⟩ := ownsRow_succ hown; obtain ⟨m1, m2, m3, m4, m5⟩ := round_mem hv hrow h2 h3 h4 h5 hx hown hgrow; have hc1 := m1.cell; have hf1 := m1.frozen; have hc2 := m2.cell; have hf2 := m2.frozen)
    exact ⟨m3, m4, m5⟩
  case done =>
    rintro D xs W hD hS ⟨⟨v, hv, hrow⟩, h2, h3, h4, h5⟩ hK
    have hc := hv.cell
    have hc2 := h2.cell
    gi_wp2
    gi_region
    all_goals gi_wp2
    rw [hsz] at hD
    have hK' : W.drew.heap[D]? = some (.deferred (some [])) := hK
    refine ⟨by simp, .inl ⟨_, _, rfl, run_takeDeferred hK', ?_⟩⟩
    refine ⟨_, results_tmp2 rfl _ _ _, xs, v, hS, rfl, ownsRow_mono (ownsRow_putObj (W := W.drew) hrow _ hK' rfl) (by omega), fun x hx => (h3 x hx).kept (by show W.heap.size ≤ (W.drew.putObj _ _).heap.size; simp [World.putObj]) (fun g cs fl hg => cells_putObj (A := W.drew) _ hK' rfl g cs _ fl hg), h4.drew.trans ⟨rfl, rfl, rfl, by simp [World.putObj], fun q hq => World.putObj_heap_other (by omega)⟩⟩

theorem all_any (a : Option Addr) (k cap : Nat) (zs : List Int) (w : World) (hb : Bs w a k zs) (hk : k ≤ 1000000) (hkc : k ≤ cap) :
    Calls Try.prog 12 #[.slice a k cap] w fun e W' => ∃ (xs : List Rc) (v : Value), xs.map Rc.key = allOf zs 0 ∧ e = .returned (.tuple #[v, .int .i64 (endOf (allOf zs 0) : Int)]) ∧ W'.ownsRow w.heap.size 22 1 v xs.length (xs.map Rc.v) ∧ (∀ x ∈ xs, x.ok W') ∧ Below w.heap.size w W' :=
  callsIn_wide.1 (all_in a k cap zs w hb hk hkc)
end Go.Proofs.Ytfcckekinlobjaa
