/-
  term.Vars: the numbers of variables, as they first stand, each once.
-/
import Derived.Test.YtmdhefepaolhcaaTmCount
import Derived.Test.YtmdhefepaolhcaaTmPlaces
import Derived.Maps.OwnIn
import Derived.Maps.OwnSet
import Derived.Maps.Views
namespace Go.Proofs.Ytmdhefepaolhcaa
open Go.RowKit Go.Shelf
set_option linter.unusedVariables false
set_option linter.unusedSimpArgs false
attribute [local go_sem] Oper.semAt_some

/-- One more term. -/
def varS (acc : List Int) (s : Tm) : List Int := if s.f < 0 then (if (-1 - s.f) ∈ acc then acc else acc ++ [-1 - s.f]) else acc
/-- The numbers of the variables among these. -/
def varsF (l : List Tm) : List Int := l.foldl varS []
theorem varsF_snoc (l : List Tm) (s : Tm) : varsF (l ++ [s]) = varS (varsF l) s := by simp [varsF]
theorem varS_len (acc : List Int) (s : Tm) : (varS acc s).length ≤ acc.length + 1 := by
  unfold varS
  split
  · split
    · omega
    · simp
  · omega
theorem varsF_len (l : List Tm) : (varsF l).length ≤ l.length := by
  have : ∀ (l : List Tm) (acc : List Int), (l.foldl varS acc).length ≤ acc.length + l.length := by
    intro l
    induction l with
    | nil => intro acc; simp
    | cons y ys ih => intro acc; have := ih (varS acc y); have := varS_len acc y; simp only [List.foldl_cons, List.length_cons]; omega
  have := this l []
  simpa [varsF] using this

/-- The keys of the map. -/
def keysV (acc : List Int) : List Lit := acc.map fun n => .int .i64 n
theorem keysV_has {H : Type} (acc : List Int) (n : Int) : Maps.has (H := H) (Maps.setOf (.agg []) (keysV acc)) (.int .i64 n) = decide (n ∈ acc) := by
  rw [Maps.has_setOf _ _ _ (fun x hx => by obtain ⟨m, _, rfl⟩ := List.mem_map.1 hx; trivial)]
  unfold keysV
  rw [List.any_map, Bool.eq_iff_iff, List.any_eq_true, decide_eq_true_iff]
  constructor
  · rintro ⟨x, hx, h⟩
    have : x = n := by simpa [Lit.sameKey] using h
    rw [← this]; exact hx
  · intro h
    exact ⟨n, h, by simp [Lit.sameKey]⟩

theorem isVar_yes {f : Int} (h : f < 0) (a : Option Addr) (n c : Nat) (w : World) :
    Calls Try.prog 51 #[.agg #[.int .i64 f, .slice a n c]] w fun e w' => e = .returned (.bool true) ∧ Below w.heap.size w w' := by
  have := isVar_any f a n c w
  rw [decide_eq_true h] at this
  exact this
theorem isVar_no {f : Int} (h : ¬ f < 0) (a : Option Addr) (n c : Nat) (w : World) :
    Calls Try.prog 51 #[.agg #[.int .i64 f, .slice a n c]] w fun e w' => e = .returned (.bool false) ∧ Below w.heap.size w w' := by
  have := isVar_any f a n c w
  rw [decide_eq_false h] at this
  exact this

/-- What the loop of Vars holds. -/
def VarI (w : World) (acc : List Int) (v : Value) (W : World) : Prop :=
  Boxed W (w.heap.size + 1) 41 v ∧ W.ownsRow (w.heap.size + 5) 3 1 v acc.length (ints acc) ∧ Boxed W (w.heap.size + 1 + 1 + 1) 80 (.map (some (w.heap.size + 1 + 1))) ∧ W.ownsMap (H := Unit) Try.prog 3 unitElem (w.heap.size + 1 + 1) acc.length (Maps.setOf (.agg []) (keysV acc)) ∧ Below w.heap.size w W ∧ w.heap.size + 5 ≤ W.heap.size

theorem alloc_on0 {V : World} {o : Obj} {g : Nat} (h : g < V.heap.size) : (V.alloc o).heap[g]? = V.heap[g]? := Below.heap_alloc _ _ _ h

theorem ownsMap_at {W W' : World} {P : Program} {k : TypeId} {R : Value → Option (DataW Unit × List MemPlace)} {b n : Nat} {D : DataW Unit} (h : W.ownsMap P k R b n D) (hb : W'.heap[b]? = W.heap[b]?) : W'.ownsMap P k R b n D := by
  obtain ⟨es, ck, h1, h2⟩ := h
  exact ⟨es, ck, hb.trans h1, h2⟩

theorem VarI.abides {w A B : World} {acc : List Int} {v : Value} (h : VarI w acc v A) (hb : Below A.heap.size A B) : VarI w acc v B := by
  obtain ⟨h1, h2, h3, h4, h5, h6⟩ := h
  exact ⟨(hb.block _ h1.lt).trans h1, ownsRow_below h2 hb (Nat.le_refl _), (hb.block _ h3.lt).trans h3, ownsMap_at h4 (hb.block _ (by omega)), h5.trans (hb.mono h5.size), Nat.le_trans h6 hb.size⟩
theorem VarI.putObj {w A : World} {acc : List Int} {v : Value} (h : VarI w acc v A) {l : Nat} {o : Obj} (o' : Obj) (hwl : w.heap.size + 5 ≤ l) (hl : A.heap[l]? = some o) (ho : o.isCells = false) : VarI w acc v (A.putObj l o') := by
  obtain ⟨h1, h2, h3, h4, h5, h6⟩ := h
  refine ⟨boxed_put h1 o' hl ho, ownsRow_putObj h2 o' hl ho, boxed_put h3 o' hl ho, ownsMap_at h4 (World.putObj_heap_other (by omega)), h5.trans (kpt_put o' (by omega) hl ho).1, by simpa [World.putObj] using h6⟩

theorem var_map {w W3 W4 : World} {acc : List Int} {v : Value} (hI : VarI w acc v W3) (hg4 : W3.grownBy W4 (some (w.heap.size + 1 + 1))) :
    Boxed W4 (w.heap.size + 1) 41 v ∧ W4.ownsRow (w.heap.size + 5) 3 1 v acc.length (ints acc) ∧ Boxed W4 (w.heap.size + 1 + 1 + 1) 80 (.map (some (w.heap.size + 1 + 1))) ∧ w.heap.size + 5 ≤ W4.heap.size := by
  obtain ⟨h1, h2, h3, h4, h5, h6⟩ := hI
  refine ⟨h1.kept hg4 (by simp), h2.kept hg4 ?_, h3.kept hg4 (by simp), Nat.le_trans h6 hg4.size⟩
  rcases h2.2 with ⟨rfl, _⟩ | ⟨g, cap, cur, rfl, hg, _⟩
  · exact .inl rfl
  · refine .inr fun e => ?_
    have : g = w.heap.size + 1 + 1 := by simpa [Value.ownBlock] using e
    omega

theorem var_round {w W3 W4 w5 : World} {acc : List Int} {v v' : Value} {n : Int} {tmp : Obj} (hI : VarI w acc v W3) (hown4 : W4.ownsMap (H := Unit) Try.prog 3 unitElem (w.heap.size + 1 + 1) (acc.length + 1) ((Maps.setOf (.agg []) (keysV acc)).put (.int .i64 n) (.agg []))) (hg4 : W3.grownBy W4 (some (w.heap.size + 1 + 1)))
    (hown5 : w5.ownsRow (w.heap.size + 5) 3 1 v' (acc.length + 1) (ints acc ++ [.int .i64 n])) (hg5 : (W4.alloc tmp).grownBy w5 v.ownBlock) :
    Boxed w5 (w.heap.size + 1) 41 v ∧ KeepsFrom (w.heap.size + 5) W3 (w5.setCell ⟨w.heap.size + 1, 0, none⟩ v') ∧ KpT w.heap.size W3 (w5.setCell ⟨w.heap.size + 1, 0, none⟩ v') ∧ VarI w (acc ++ [n]) v' (w5.setCell ⟨w.heap.size + 1, 0, none⟩ v') := by
  obtain ⟨m1, m2, m3, m4⟩ := var_map hI hg4
  obtain ⟨h1, h2, h3, h4, h5, h6⟩ := hI
  have hlt := m2.lt
  have hne : ∀ g, g < w.heap.size + 5 → some g ≠ v.ownBlock := fun g hgl e => by have := (hlt g e.symm).1; omega
  have hnv' : ∀ g, g < w.heap.size + 5 → v'.ownBlock ≠ some g := fun g hgl e => by have := (hown5.lt g e).1; omega
  have r1 : Boxed w5 (w.heap.size + 1) 41 v := (m1.alloc tmp).kept hg5 (hne _ (by omega))
  have hset : ∀ g, g ≠ w.heap.size + 1 → (w5.setCell ⟨w.heap.size + 1, 0, none⟩ v').heap[g]? = w5.heap[g]? := fun g hg => Below.heap_setCell _ _ _ _ hg
  have hsz4 := hg4.size
  have hsz5 := hg5.size
  rw [World.size_alloc] at hsz5
  -- a block that is neither the map, the row nor the box stays
  have hkeep : ∀ g, g < W3.heap.size → g ≠ w.heap.size + 1 + 1 → some g ≠ v.ownBlock → g ≠ w.heap.size + 1 → (w5.setCell ⟨w.heap.size + 1, 0, none⟩ v').heap[g]? = W3.heap[g]? := fun g k1 k2 k3 k4 => by
    rw [hset g k4, hg5.block g (by simp; omega) k3, Below.heap_alloc _ _ _ (by omega), hg4.block g k1 (fun e => k2 (by simpa using e))]
  have hcells : ∀ (g : Nat) cs ty fl, W3.heap[g]? = some (Obj.cells cs ty fl) → ty = 34 → some g ≠ v.ownBlock ∧ g ≠ w.heap.size + 1 + 1 ∧ g ≠ w.heap.size + 1 := fun g cs ty fl hg ht => by
    refine ⟨fun e => ?_, fun e => ?_, fun e => ?_⟩
    · rcases h2.2 with ⟨rfl, _⟩ | ⟨q, cap, cur, rfl, _, hh, _⟩
      · cases e
      · have e' : g = q := by simpa [Value.ownBlock] using e
        rw [e', hh] at hg
        cases hg
        revert ht; decide
    · obtain ⟨es, ck, hh, _⟩ := h4
      rw [e, hh] at hg
      cases hg
    · rw [e, show W3.heap[w.heap.size + 1]? = _ from h1] at hg
      cases hg
      revert ht; decide
  have hbel : Below w.heap.size W3 (w5.setCell ⟨w.heap.size + 1, 0, none⟩ v') :=
    ((((Below.refl w.heap.size W3).grown hg4 (by omega) (fun k e => by cases e; omega)).alloc (by omega) tmp).grown hg5 (by simp; omega) (fun j e => by have := (hlt j e).1; omega)).setCell (p := ⟨w.heap.size + 1, 0, none⟩) (by show w.heap.size ≤ w.heap.size + 1; omega) _
  refine ⟨r1, ⟨by rw [World.size_setCell]; omega, fun g o hgB hg ho => ?_⟩, ⟨hbel, fun g cs fl hg => ?_⟩, r1.set v', ?_, ?_, ?_, h5.trans hbel, by rw [World.size_setCell]; omega⟩
  · rw [hkeep g (Array.getElem?_eq_some_iff.1 hg).1 (by omega) (fun e => ?_) (by omega)]
    · exact hg
    · rcases h2.2 with ⟨rfl, _⟩ | ⟨q, cap, cur, rfl, _, hh, _⟩
      · cases e
      · have e' : g = q := by simpa [Value.ownBlock] using e
        rw [e', hh] at hg
        cases hg
        cases ho
  · obtain ⟨k1, k2, k3⟩ := hcells g cs _ fl hg rfl
    rw [hkeep g (Array.getElem?_eq_some_iff.1 hg).1 k2 k1 k3]
    exact hg
  · rw [List.length_append, show ints (acc ++ [n]) = ints acc ++ [.int .i64 n] by simp [ints]]
    exact hown5.kept (grownBy_setCell' w5 (w.heap.size + 1) v') (.inr (hnv' _ (by omega)))
  · refine Boxed.kept (W := w5) ?_ (grownBy_setCell' w5 (w.heap.size + 1) v') (by simp; omega)
    exact (m3.alloc tmp).kept hg5 (hne _ (by omega))
  · rw [List.length_append, show keysV (acc ++ [n]) = keysV acc ++ [.int .i64 n] by simp [keysV], Maps.setOf_snoc]
    refine ownsMap_at hown4 ?_
    rw [hset _ (by omega), hg5.block _ (by simp; omega) (hne _ (by omega)), Below.heap_alloc _ _ _ (by omega)]

set_option maxRecDepth 100000 in
set_option maxHeartbeats 4000000 in
theorem vars_in {U : Nat → Prop} (t : Tm) (a : Option Addr) (n c : Nat) (w : World) (h : Tat U w t a n c) (hm : t.size ≤ 1000000000) :
    CallsIn Fence.wide 3 Try.prog 26 #[.agg #[.int .i64 t.f, .slice a n c]] w fun e W' => ∃ v, e = .returned v ∧ W'.ownsRow w.heap.size 3 1 v (varsF t.flat).length (ints (varsF t.flat)) ∧ Below w.heap.size w W' := by
  have hmm := @run_makeMap Try.prog
  refine callsIn_of_wp_marks Try.func26 rfl trivial ?_ rfl
  simp only [Try.ntmps26, List.size_toArray, List.length_cons, List.length_nil, Nat.reduceAdd, Nat.reduceSub, Array.replicate_succ, Array.replicate_zero, List.push_toArray, List.append_toArray, List.nil_append, List.cons_append]
  gi_wp2_with (refine ⟨trivial, ?_⟩; gi_at_call 50; refine (all_in _ _ _ _ _).mono ?_; rintro e w' ⟨rfl, rfl⟩)
  obtain ⟨w1, hw1⟩ : ∃ w1, w1 = w.alloc (.cells #[.int .i64 t.f, .slice a n c] 34) := ⟨_, rfl⟩
  obtain ⟨w2, hw2⟩ : ∃ w2, w2 = w1.alloc (.cells #[.slice none 0 0] 41) := ⟨_, rfl⟩
  obtain ⟨w3, hw3⟩ : ∃ w3, w3 = w2.alloc (.map #[] 0) := ⟨_, rfl⟩
  obtain ⟨w4, hw4⟩ : ∃ w4, w4 = w3.alloc (.cells #[.map (some (w.heap.size + 1 + 1))] 80) := ⟨_, rfl⟩
  obtain ⟨wl, hwl⟩ : ∃ wl, wl = w4.alloc (.cells #[.int .i64 t.f, .slice a n c] 34) := ⟨_, rfl⟩
  have s1 : w1.heap.size = w.heap.size + 1 := by rw [hw1]; simp
  have s2 : w2.heap.size = w.heap.size + 1 + 1 := by rw [hw2]; simp; omega
  have s3 : w3.heap.size = w.heap.size + 1 + 1 + 1 := by rw [hw3]; simp; omega
  have s4 : w4.heap.size = w.heap.size + 1 + 1 + 1 + 1 := by rw [hw4]; simp; omega
  have hsz : wl.heap.size = w.heap.size + 5 := by rw [hwl]; simp; omega
  have k1 : Below w.heap.size w w1 := by rw [hw1]; exact bA (bW _) _
  have k2 : Below w1.heap.size w1 w2 := by rw [hw2]; exact bA (bW _) _
  have k3 : Below w2.heap.size w2 w3 := by rw [hw3]; exact bA (bW _) _
  have k4 : Below w3.heap.size w3 w4 := by rw [hw4]; exact bA (bW _) _
  have k5 : Below w4.heap.size w4 wl := by rw [hwl]; exact bA (bW _) _
  have hb0 : Below w.heap.size w wl := bN (bN (bN (bN k1 k2) k3) k4) k5
  have hbx : wl.heap[w.heap.size + 1 + 1 + 1 + 1]? = some (.cells #[.int .i64 t.f, .slice a n c] 34 (0, 0)) := by
    rw [hwl, ← s4]; exact World.alloc_heap_new _ _
  have hI0 : ∃ v, VarI w (varsF (([] : List Tr).map Tr.t)) v wl := by
    refine ⟨.slice none 0 0, ?_, World.ownsRow_nil _ _ _ _, ?_, ?_, hb0, by omega⟩
    · show _ = _
      rw [k5.block _ (by omega), k4.block _ (by omega), k3.block _ (by omega), hw2, ← s1]; exact World.alloc_heap_new _ _
    · show _ = _
      rw [k5.block _ (by omega), hw4, ← s3]; exact World.alloc_heap_new _ _
    · refine ownsMap_at (W := w3) ?_ (by rw [k5.block _ (by omega), k4.block _ (by omega)])
      rw [hw3, ← s2]
      exact World.ownsMap_made w2 _ _ _
  have ht : Tat (· < w.heap.size) wl t a n c := (h.mono (V := (· < w.heap.size)) fun b _ hb => hb).below hb0 fun b hb _ => hb
  rw [← hw1, ← hw2, ← hw3, ← hw4, ← hwl]
  clear hwl h hw1 hw2 hw3 hw4 s1 s2 s3 s4 k1 k2 k3 k4 k5
  obtain ⟨i0, hi1, hi2, hi3, hi4⟩ := info_parts info_int
  refine wp_collectH (gf := 72) (lb := #[.pointer (some ⟨w.heap.size + 1 + 1 + 1 + 1, 0, none⟩)]) rfl (enters_of Try.func72 (by kernel_rfl) rfl)
    (all_gives (n₀ := w.heap.size) (by omega) hbx ht) (fun h k => h.trans k) (fun W l o o' hl h ho => kpt_put o' (by omega) h ho) (fun pre x W l o o' hl hx h ho => ⟨hx.1.kept (kpt_put o' (by omega) h ho).1, hx.2⟩) (fun _ => rfl)
    (fun pre W => ∃ v, VarI w (varsF (pre.map Tr.t)) v W) (fun pre A B h hb => ⟨h.choose, h.choose_spec.abides hb⟩) (fun pre A l o o' h hl h1 h2 => ⟨h.choose, h.choose_spec.putObj o' (by omega) h1 h2⟩) hI0
    (fun x b => { tmps := #[.agg #[.int .i64 t.f, .slice a n c], .pointer (some ⟨w.heap.size, 0, none⟩), .slice none 0 0, .pointer (some ⟨w.heap.size + 1, 0, none⟩), .pointer (some ⟨w.heap.size + 1 + 1 + 1, 0, none⟩), .pointer (some ⟨b, 0, none⟩), undef, undef, undef, .map (some (w.heap.size + 1 + 1)), .agg #[.int .i64 t.f, .slice a n c], .func (.func 72) #[] #[.pointer (some ⟨w.heap.size + 1 + 1 + 1 + 1, 0, none⟩)], x.v, undef, undef, undef, undef, undef, undef, undef, undef, undef, undef, undef, undef, undef, undef, undef, undef, undef, undef, undef, undef, undef], defers := [] })
    Tr.ob (fun V x hV => KpT.of_below (by omega) (bA (bW _) _)) (fun pre x V hx => ⟨hx.1.bw (bA (bW _) _), hx.2⟩) ?assign ?body ?done
  case assign =>
    intro l x W K hK
    obtain ⟨xt, xa, xn, xc⟩ := x
    simp only [Tr.v, Tr.ob] at hK ⊢
    gi_wp2
    exact hK
  case body =>
    rintro l pre x W b hb hbx' ⟨v, hI⟩ ⟨hx, hlt⟩
    have hx1 := hx.wf
    have hbl := (Array.getElem?_eq_some_iff.1 hbx').1
    have hle := varsF_len (pre.map Tr.t)
    rw [List.length_map] at hle
    obtain ⟨xt, xa, xn, xc⟩ := x
    simp only [Tr.v, Tr.ob] at *
    have HS := hid (varsF_snoc (pre.map Tr.t) xt)
    obtain ⟨acc, hacc⟩ : ∃ acc, acc = varsF (pre.map Tr.t) := ⟨_, rfl⟩
    rw [← hacc] at hI HS hle
    clear hacc
    have hwW : w.heap.size ≤ W.heap.size := hI.2.2.2.2.1.size
    obtain ⟨e1, e2⟩ := cell_box hbx'
    by_cases hq : xt.f < 0
    · have HQ := hid hq
      have HWF : Hid ((Lit.int .i64 (-1 - xt.f)).wf = true) := by
        show _ = _
        simp [Lit.wf, IntKind.min, IntKind.max, IntKind.signed, IntKind.bits]
        omega
      by_cases hin : (-1 - xt.f) ∈ acc
      · have HS2 : Hid (varsF (List.map Tr.t pre ++ [xt]) = acc) := by show _ = _; rw [HS.out, varS, if_pos hq, if_pos hin]
        have HHAS : Hid (Maps.has (H := Unit) (Maps.setOf (.agg []) (keysV acc)) (.int .i64 (-1 - xt.f)) = true) := by show _ = _; rw [keysV_has]; exact decide_eq_true hin
        clear hq
        gi_wp2_with (first
        | (refine ⟨trivial, ?_⟩; gi_at_call 51; refine (CallsIn.inRound l (callsIn_wide.2 (isVar_yes HQ.out _ _ _ _))).mono ?_; rintro e W1 ⟨rfl, hb1⟩; clear e1 e2; obtain ⟨e1, e2⟩ := cell_box ((hb1.block b hbl).trans hbx'))
        | (refine ⟨trivial, ?_⟩; gi_at_call 52; refine (CallsIn.inRound l (callsIn_wide.2 (number_any _ _ _ _ _ hx1.1 HQ.out))).mono ?_; rintro e W2 ⟨rfl, hb2⟩; have hI2 := hI.abides (bN hb1 hb2); have hc2 := hI2.2.2.1.cell; have hrow2 := hI2.2.1; have hbx2 := hI2.1)
        | (gi_at_lookup; refine wpListIn_lookup_own_unit _ rfl _ _ 80 rfl 3 85 (Maps.int_keyed Try.underlying3) Try.underlying80 (Try.zeroValue85 _) (w.heap.size + 1 + 1) acc.length _ rfl hI2.2.2.2.1 _ (.int .i64 (-1 - xt.f)) rfl (Maps.keyOf_int_mk Try.underlying3 HWF.out) ?_; rw [HHAS.out]; have hI3 := hI2.abides (bA (bW _) (.cells #[] 85)); have hc3 := hI3.2.2.1.cell))
        refine ⟨keepsFrom_below (bA (bN hb1 hb2) _) _, KpT.of_below hwW (bA (bN hb1 hb2) _), v, ?_⟩
        first
          | (rw [HS2.out]; exact hI2.abides (bA (bW _) _))
          | (rw [show List.map Tr.t (pre ++ [⟨xt, xa, xn, xc⟩]) = List.map Tr.t pre ++ [xt] by simp, HS2.out]; exact hI2.abides (bA (bW _) _))
      · have HS2 : Hid (varsF (List.map Tr.t pre ++ [xt]) = acc ++ [-1 - xt.f]) := by show _ = _; rw [HS.out, varS, if_pos hq, if_neg hin]
        have HHAS : Hid (Maps.has (H := Unit) (Maps.setOf (.agg []) (keysV acc)) (.int .i64 (-1 - xt.f)) = false) := by show _ = _; rw [keysV_has]; exact decide_eq_false hin
        clear hq
        have hlen : acc.length ≤ 1000000000 := by omega
        gi_wp2_with (first
        | (refine ⟨trivial, ?_⟩; gi_at_call 51; refine (CallsIn.inRound l (callsIn_wide.2 (isVar_yes HQ.out _ _ _ _))).mono ?_; rintro e W1 ⟨rfl, hb1⟩; clear e1 e2; obtain ⟨e1, e2⟩ := cell_box ((hb1.block b hbl).trans hbx'))
        | (refine ⟨trivial, ?_⟩; gi_at_call 52; refine (CallsIn.inRound l (callsIn_wide.2 (number_any _ _ _ _ _ hx1.1 HQ.out))).mono ?_; rintro e W2 ⟨rfl, hb2⟩; have hI2 := hI.abides (bN hb1 hb2); have hc2 := hI2.2.2.1.cell; have hrow2 := hI2.2.1; have hbx2 := hI2.1)
        | (gi_at_lookup; refine wpListIn_lookup_own_unit _ rfl _ _ 80 rfl 3 85 (Maps.int_keyed Try.underlying3) Try.underlying80 (Try.zeroValue85 _) (w.heap.size + 1 + 1) acc.length _ rfl hI2.2.2.2.1 _ (.int .i64 (-1 - xt.f)) rfl (Maps.keyOf_int_mk Try.underlying3 HWF.out) ?_; rw [HHAS.out]; have hI3 := hI2.abides (bA (bW _) (.cells #[] 85)); have hc3 := hI3.2.2.1.cell)
        | (gi_at_mapUpdate; refine wpListIn_mapUpdate_own _ rfl _ _ _ 80 rfl 3 85 (Maps.int_keyed Try.underlying3) Try.underlying80 _ (w.heap.size + 1 + 1) acc.length _ rfl hI3.2.2.2.1 (by unfold maxLen; omega) _ _ (.int .i64 (-1 - xt.f)) rfl rfl (Maps.keyOf_int_mk Try.underlying3 HWF.out) _ [] unitElem_mk ?_; intro W4 hown4 hgrow4; obtain ⟨m1, m2, m3, m4⟩ := var_map hI3 hgrow4; have hc4 := m1.cell)
        | (gi_at_builtin; refine wpListIn_append_own _ rfl _ _ 41 rfl (w.heap.size + 5) 3 i0 (.int .i64 0) 1 8 Try.underlying41 hi1 hi2 hi3 hi4 rfl (by decide) _ _ _ rfl (m2.alloc _) ⟨W4.heap.size, 0, none⟩ 1 1 [.int .i64 (-1 - xt.f)] rfl rfl (cell_one_new _ _ _) (by simp [Value.oneCell']) (by unfold maxLen; omega) (by omega) (by simp; omega) ?_; intro v' w5 hown5 hgrow5 _; obtain ⟨g', cap', rfl⟩ := ownsRow_succ hown5; obtain ⟨r1, r2, r3, r4⟩ := var_round hI3 hown4 hgrow4 hown5 hgrow5; have hc5 := r1.cell; have hf5 := r1.frozen))
        have hW3 : Below W.heap.size W (W2.alloc (.cells #[] 85)) := bA (bN hb1 hb2) _
        refine ⟨(keepsFrom_below hW3 _).trans ?_, (KpT.of_below hwW hW3).trans r3, .slice (some ⟨g', 0, none⟩) (acc.length + 1) cap', ?_⟩
        · first | exact r2 | (rw [hsz]; exact r2)
        · first
            | (rw [HS2.out]; exact r4)
            | (rw [show List.map Tr.t (pre ++ [⟨xt, xa, xn, xc⟩]) = List.map Tr.t pre ++ [xt] by simp, HS2.out]; exact r4)
    · have HS2 : Hid (varsF (List.map Tr.t pre ++ [xt]) = acc) := by show _ = _; rw [HS.out, varS, if_neg hq]
      have HQ := hid hq
      gi_wp2_with (refine ⟨trivial, ?_⟩; gi_at_call 51; refine (CallsIn.inRound l (callsIn_wide.2 (isVar_no HQ.out _ _ _ _))).mono ?_; rintro e W1 ⟨rfl, hb1⟩)
      refine ⟨keepsFrom_below hb1 _, KpT.of_below hwW hb1, v, ?_⟩
      first
        | (rw [HS2.out]; exact hI.abides hb1)
        | (rw [show List.map Tr.t (pre ++ [⟨xt, xa, xn, xc⟩]) = List.map Tr.t pre ++ [xt] by simp, HS2.out]; exact hI.abides hb1)
  case done =>
    rintro D xs W hD hS ⟨v, hI⟩ hK
    obtain ⟨h1, h2, h3, h4, h5, h6⟩ := hI
    have hc := h1.cell
    gi_wp2
    refine ⟨by simp, .inl ⟨_, _, rfl, run_takeDeferred hK, ?_⟩⟩
    refine ⟨_, results_tmp rfl _ _ _, v, rfl, ?_, ?_⟩
    · rw [← hS]
      exact ownsRow_mono (ownsRow_putObj h2 _ hK rfl) (by omega)
    · exact h5.trans (kpt_put _ (by omega) hK rfl).1

/-- What Vars returns: a row of its own. -/
theorem vars_any {U : Nat → Prop} {t : Tm} {a : Option Addr} {n c : Nat} {w : World} (h : Tat U w t a n c) (hm : t.size ≤ 1000000000) :
    Calls Try.prog 26 #[.agg #[.int .i64 t.f, .slice a n c]] w fun e W' => ∃ va vc, e = .returned (.slice va (varsF t.flat).length vc) ∧ Pr.ok (fun b => w.heap.size ≤ b) W' ⟨va, (varsF t.flat).length, vc, varsF t.flat⟩ ∧ Below w.heap.size w W' := by
  refine Calls.mono (callsIn_wide.1 (vars_in t a n c w h hm)) ?_
  rintro e W' ⟨v, rfl, ho, hb⟩
  obtain ⟨va, vc, rfl, e2, e3, e4, e5⟩ := ownsRow_cs ho
  refine ⟨va, vc, rfl, ⟨rfl, e2, e3, e4, ?_⟩, hb⟩
  rcases e5 with h | ⟨b, off, ha, hlt, hc⟩
  · exact .inl h
  · refine .inr ⟨b, off, ha, ?_, hlt, hc⟩
    subst ha
    rcases ho.2 with ⟨h3, _⟩ | ⟨g, cap, cur, h3, hb', _⟩
    · cases h3
    · cases h3; exact hb'
end Go.Proofs.Ytmdhefepaolhcaa
