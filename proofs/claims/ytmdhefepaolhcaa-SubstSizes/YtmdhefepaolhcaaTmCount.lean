/-
  term.Size, term.Count, term.Top: loops over all that is in a term.
-/
import Derived.Test.YtmdhefepaolhcaaTmIter
namespace Go.Proofs.Ytmdhefepaolhcaa
open Go.RowKit Go.Shelf
set_option linter.unusedVariables false
attribute [local go_sem] Oper.semAt_some

theorem kpt_set {n₀ B : Nat} {W : World} {ty : TypeId} {v : Value} (h : Boxed W B ty v) (hty : ty ≠ 34) (hn : n₀ ≤ B) (u : Value) : KpT n₀ W (W.setCell ⟨B, 0, none⟩ u) := by
  refine ⟨(Below.refl n₀ W).setCell (p := ⟨B, 0, none⟩) hn _, fun g cs fl e => ?_⟩
  rw [Below.heap_setCell _ _ _ g (fun e' => ?_)]
  · exact e
  · simp only at e'
    subst e'
    rw [show W.heap[g]? = _ from h] at e
    cases e
    exact hty rfl

theorem kpt_put {n₀ l : Nat} {W : World} {o : Obj} (o' : Obj) (hn : n₀ ≤ l) (h : W.heap[l]? = some o) (ho : o.isCells = false) : KpT n₀ W (W.putObj l o') := by
  refine ⟨⟨rfl, rfl, rfl, by simp [World.putObj], fun q hq => World.putObj_heap_other (by omega)⟩, fun g cs fl e => ?_⟩
  rw [World.putObj_heap_other]
  · exact e
  · rintro rfl
    rw [h] at e
    cases e
    cases ho

/-- A box that a loop writes. -/
def IntI (w : World) (B : Nat) (v : Value) (W : World) : Prop := Boxed W B 3 v ∧ Below w.heap.size w W
theorem IntI.abides {w A B : World} {b : Nat} {v : Value} (h : IntI w b v A) (hb : Below A.heap.size A B) : IntI w b v B :=
  ⟨(hb.block b h.1.lt).trans h.1, h.2.trans (hb.mono h.2.size)⟩
theorem IntI.putObj {w A : World} {b : Nat} {v : Value} (h : IntI w b v A) {l : Nat} {o : Obj} (o' : Obj) (hwl : w.heap.size ≤ l) (hl : A.heap[l]? = some o) (ho : o.isCells = false) : IntI w b v (A.putObj l o') := by
  refine ⟨(World.putObj_heap_other ?_).trans h.1, h.2.trans (kpt_put o' hwl hl ho).1⟩
  rintro rfl
  rw [show A.heap[_]? = _ from h.1] at hl
  cases hl
  cases ho
theorem IntI.set {w W : World} {B b : Nat} {v : Value} (h : IntI w b v W) (hb : w.heap.size ≤ b) (u : Value) : KeepsFrom B W (W.setCell ⟨b, 0, none⟩ u) ∧ KpT w.heap.size W (W.setCell ⟨b, 0, none⟩ u) ∧ IntI w b u (W.setCell ⟨b, 0, none⟩ u) :=
  ⟨(KeepsOthers.setCell _ _ _).from _, kpt_set h.1 (by decide) hb u, h.1.set u, h.2.trans (kpt_set h.1 (by decide) hb u).1⟩

theorem Tr.ok.kept {n₀ : Nat} {x : Tr} {V V' : World} (h : x.ok n₀ V) (hb : Below n₀ V V') : x.ok n₀ V' := h.below hb fun b h _ => h

set_option maxRecDepth 100000 in
set_option maxHeartbeats 2000000 in
theorem size_in {U : Nat → Prop} (t : Tm) (a : Option Addr) (n c : Nat) (w : World) (h : Tat U w t a n c) (hm : t.size ≤ 4611686018427387904) :
    CallsIn Fence.wide 3 Try.prog 32 #[.agg #[.int .i64 t.f, .slice a n c]] w fun e W' => e = .returned (.int .i64 (t.size : Int)) ∧ Below w.heap.size w W' := by
  refine callsIn_of_wp_marks Try.func32 rfl trivial ?_ rfl
  simp only [Try.ntmps32, List.size_toArray, List.length_cons, List.length_nil, Nat.reduceAdd, Nat.reduceSub, Array.replicate_succ, Array.replicate_zero, List.push_toArray, List.append_toArray, List.nil_append, List.cons_append]
  gi_wp2_with (refine ⟨trivial, ?_⟩; gi_at_call 50; refine (all_in _ _ _ _ _).mono ?_; rintro e w' ⟨rfl, rfl⟩)
  obtain ⟨wl, hwl⟩ : ∃ wl, wl = ((w.alloc (.cells #[.int .i64 t.f, .slice a n c] 34)).alloc (.cells #[.int .i64 0] 3)).alloc (.cells #[.int .i64 t.f, .slice a n c] 34) := ⟨_, rfl⟩
  have hb0 : Below w.heap.size w wl := by rw [hwl]; exact bA (bA (bA (bW _) _) _) _
  have hsz : wl.heap.size = w.heap.size + 3 := by rw [hwl]; simp
  have hbx : wl.heap[w.heap.size + 1 + 1]? = some (.cells #[.int .i64 t.f, .slice a n c] 34 (0, 0)) := by
    rw [hwl]
    have := World.alloc_heap_new ((w.alloc (.cells #[.int .i64 t.f, .slice a n c] 34)).alloc (.cells #[.int .i64 0] 3)) (.cells #[.int .i64 t.f, .slice a n c] 34)
    rw [World.size_alloc, World.size_alloc] at this
    exact this
  have hI0 : IntI w (w.heap.size + 1) (.int .i64 (([] : List Tr).length : Int)) wl := by
    refine ⟨?_, hb0⟩
    rw [hwl]
    have bO := Boxed.new (w.alloc (.cells #[.int .i64 t.f, .slice a n c] 34)) 3 (.int .i64 0)
    rw [World.size_alloc] at bO
    exact bO.alloc _
  have ht : Tat (· < w.heap.size) wl t a n c := (h.mono (V := (· < w.heap.size)) fun b _ hb => hb).below hb0 fun b hb _ => hb
  rw [← hwl]
  clear hwl h
  refine wp_collectG (gf := 72) (lb := #[.pointer (some ⟨w.heap.size + 1 + 1, 0, none⟩)]) rfl (enters_of Try.func72 (by kernel_rfl) rfl)
    (all_gives (n₀ := w.heap.size) (by omega) hbx ht) (fun h k => h.trans k) (fun W l o o' hl h ho => kpt_put o' (by omega) h ho) (fun pre x W l o o' hl hx h ho => ⟨hx.1.kept (kpt_put o' (by omega) h ho).1, hx.2⟩) (fun _ => rfl)
    (fun pre W => IntI w (w.heap.size + 1) (.int .i64 (pre.length : Int)) W) (fun pre A B h hb => h.abides hb) (fun pre A l o o' h hl h1 h2 => h.putObj o' (by omega) h1 h2) hI0
    (fun x => { tmps := #[.agg #[.int .i64 t.f, .slice a n c], .pointer (some ⟨w.heap.size, 0, none⟩), .int .i64 0, .pointer (some ⟨w.heap.size + 1, 0, none⟩), .agg #[.int .i64 t.f, .slice a n c], .func (.func 72) #[] #[.pointer (some ⟨w.heap.size + 1 + 1, 0, none⟩)], x.v, undef, undef, undef], defers := [] }) ?assign ?body ?done
  case assign =>
    intro l x W K hK
    gi_wp2
    have hz : (#[6] : Array Tmp).zip #[x.v] = #[(6, x.v)] := by simp
    rw [hz]
    exact hK
  case body =>
    rintro l pre x W hI ⟨hx, hlt⟩
    have hc := hI.1.cell
    have hf := hI.1.frozen
    have hkm : pre.length < 4611686018427387904 := by omega
    gi_wp2
    have := hI.set (B := wl.heap.size) (by omega) (.int .i64 ((pre.length : Int) + 1))
    rw [List.length_append]
    exact this
  case done =>
    rintro D xs W hD hS hI hK
    have hc := hI.1.cell
    gi_wp2
    refine ⟨by simp, .inl ⟨_, _, rfl, run_takeDeferred hK, ?_⟩⟩
    refine ⟨_, results_tmp rfl _ _ _, ?_, ?_⟩
    · have h1 := congrArg List.length hS
      rw [List.length_map] at h1
      rw [show t.size = xs.length from h1.symm]
      rfl
    · exact hI.2.trans (kpt_put _ (by omega) hK rfl).1

theorem size_any {U : Nat → Prop} {t : Tm} {a : Option Addr} {n c : Nat} {w : World} (h : Tat U w t a n c) (hm : t.size ≤ 4611686018427387904) :
    Calls Try.prog 32 #[.agg #[.int .i64 t.f, .slice a n c]] w fun e W' => e = .returned (.int .i64 (t.size : Int)) ∧ Below w.heap.size w W' :=
  callsIn_wide.1 (size_in t a n c w h hm)

/-- The box of a term that is handed over. -/
def Tr.ob (x : Tr) : Obj := .cells #[.int .i64 x.t.f, .slice x.a x.n x.c] 34 (0, 0)

/-- How often a head stands among these. -/
def cntF (f : Int) (l : List Tm) : Nat := (l.filter fun s => decide (s.f = f)).length
theorem cntF_le (f : Int) (l : List Tm) : cntF f l ≤ l.length := List.length_filter_le _ _
theorem cntF_snoc (f : Int) (l : List Tm) (s : Tm) : cntF f (l ++ [s]) = cntF f l + if s.f = f then 1 else 0 := by
  unfold cntF
  rw [List.filter_append, List.length_append]
  by_cases h : s.f = f <;> simp [h]

theorem boxed_put {A : World} {b : Nat} {ty : TypeId} {v : Value} (h : Boxed A b ty v) {l : Nat} {o : Obj} (o' : Obj) (hl : A.heap[l]? = some o) (ho : o.isCells = false) : Boxed (A.putObj l o') b ty v := by
  refine (World.putObj_heap_other ?_).trans h
  rintro rfl
  rw [show A.heap[_]? = _ from h] at hl
  cases hl
  cases ho

set_option maxRecDepth 100000 in
set_option maxHeartbeats 2000000 in
theorem count_in {U : Nat → Prop} (t : Tm) (a : Option Addr) (n c : Nat) (f : Int) (w : World) (h : Tat U w t a n c) (hm : t.size ≤ 4611686018427387904) :
    CallsIn Fence.wide 3 Try.prog 31 #[.agg #[.int .i64 t.f, .slice a n c], .int .i64 f] w fun e W' => e = .returned (.int .i64 (cntF f t.flat : Int)) ∧ Below w.heap.size w W' := by
  refine callsIn_of_wp_marks Try.func31 rfl trivial ?_ rfl
  simp only [Try.ntmps31, List.size_toArray, List.length_cons, List.length_nil, Nat.reduceAdd, Nat.reduceSub, Array.replicate_succ, Array.replicate_zero, List.push_toArray, List.append_toArray, List.nil_append, List.cons_append]
  gi_wp2_with (refine ⟨trivial, ?_⟩; gi_at_call 50; refine (all_in _ _ _ _ _).mono ?_; rintro e w' ⟨rfl, rfl⟩)
  obtain ⟨w1, hw1⟩ : ∃ w1, w1 = w.alloc (.cells #[.int .i64 t.f, .slice a n c] 34) := ⟨_, rfl⟩
  obtain ⟨w2, hw2⟩ : ∃ w2, w2 = w1.alloc (.cells #[.int .i64 f] 3) := ⟨_, rfl⟩
  obtain ⟨w3, hw3⟩ : ∃ w3, w3 = w2.alloc (.cells #[.int .i64 0] 3) := ⟨_, rfl⟩
  obtain ⟨wl, hwl⟩ : ∃ wl, wl = w3.alloc (.cells #[.int .i64 t.f, .slice a n c] 34) := ⟨_, rfl⟩
  have s1 : w1.heap.size = w.heap.size + 1 := by rw [hw1]; simp
  have s2 : w2.heap.size = w.heap.size + 2 := by rw [hw2]; simp; omega
  have s3 : w3.heap.size = w.heap.size + 3 := by rw [hw3]; simp; omega
  have hsz : wl.heap.size = w.heap.size + 4 := by rw [hwl]; simp; omega
  have hb0 : Below w.heap.size w wl := by rw [hwl, hw3, hw2, hw1]; exact bA (bA (bA (bA (bW _) _) _) _) _
  have hbx : wl.heap[w.heap.size + 1 + 1 + 1]? = some (.cells #[.int .i64 t.f, .slice a n c] 34 (0, 0)) := by
    have := World.alloc_heap_new w3 (.cells #[.int .i64 t.f, .slice a n c] 34)
    rw [s3, ← hwl] at this
    exact this
  have hI0 : IntI w (w.heap.size + 1 + 1) (.int .i64 (cntF f (([] : List Tr).map Tr.t) : Int)) wl ∧ Boxed wl (w.heap.size + 1) 3 (.int .i64 f) := by
    have b1 := Boxed.new w1 3 (.int .i64 f)
    have b2 := Boxed.new w2 3 (.int .i64 0)
    rw [s1, ← hw2] at b1
    rw [s2, ← hw3] at b2
    have b3 := b2.alloc (.cells #[.int .i64 t.f, .slice a n c] 34)
    have b4 := (b1.alloc (.cells #[.int .i64 0] 3))
    rw [← hw3] at b4
    have b5 := b4.alloc (.cells #[.int .i64 t.f, .slice a n c] 34)
    rw [← hwl] at b3 b5
    exact ⟨⟨b3, hb0⟩, b5⟩
  have ht : Tat (· < w.heap.size) wl t a n c := (h.mono (V := (· < w.heap.size)) fun b _ hb => hb).below hb0 fun b hb _ => hb
  rw [← hw1, ← hw2, ← hw3, ← hwl]
  clear hwl h hw1 hw2 hw3 s1 s2 s3
  refine wp_collectH (gf := 72) (lb := #[.pointer (some ⟨w.heap.size + 1 + 1 + 1, 0, none⟩)]) rfl (enters_of Try.func72 (by kernel_rfl) rfl)
    (all_gives (n₀ := w.heap.size) (by omega) hbx ht) (fun h k => h.trans k) (fun W l o o' hl h ho => kpt_put o' (by omega) h ho) (fun pre x W l o o' hl hx h ho => ⟨hx.1.kept (kpt_put o' (by omega) h ho).1, hx.2⟩) (fun _ => rfl)
    (fun pre W => IntI w (w.heap.size + 1 + 1) (.int .i64 (cntF f (pre.map Tr.t) : Int)) W ∧ Boxed W (w.heap.size + 1) 3 (.int .i64 f)) (fun pre A B h hb => ⟨h.1.abides hb, (hb.block _ h.2.lt).trans h.2⟩) (fun pre A l o o' h hl h1 h2 => ⟨h.1.putObj o' (by omega) h1 h2, boxed_put h.2 o' h1 h2⟩) hI0
    (fun x b => { tmps := #[.agg #[.int .i64 t.f, .slice a n c], .int .i64 f, .pointer (some ⟨w.heap.size, 0, none⟩), .pointer (some ⟨w.heap.size + 1, 0, none⟩), .int .i64 0, .pointer (some ⟨w.heap.size + 1 + 1, 0, none⟩), .pointer (some ⟨b, 0, none⟩), .agg #[.int .i64 t.f, .slice a n c], .func (.func 72) #[] #[.pointer (some ⟨w.heap.size + 1 + 1 + 1, 0, none⟩)], x.v, undef, undef, undef, undef, undef, undef, undef], defers := [] })
    Tr.ob (fun V x hV => KpT.of_below (by omega) (bA (bW _) _)) (fun pre x V hx => ⟨hx.1.bw (bA (bW _) _), hx.2⟩) ?assign ?body ?done
  case assign =>
    intro l x W K hK
    obtain ⟨xt, xa, xn, xc⟩ := x
    simp only [Tr.v, Tr.ob] at hK ⊢
    gi_wp2
    exact hK
  case body =>
    rintro l pre x W b hb hbx' ⟨hI, hf⟩ ⟨hx, hlt⟩
    have hc := hI.1.cell
    have hfr := hI.1.frozen
    have hc2 := hf.cell
    have hle := cntF_le f (pre.map Tr.t)
    rw [List.length_map] at hle
    obtain ⟨e1, e2⟩ := cell_box hbx'
    have hx1 := hx.wf
    obtain ⟨xt, xa, xn, xc⟩ := x
    simp only [Tr.v] at *
    have hsn := cntF_snoc f (pre.map Tr.t) xt
    have HS := hid hsn
    obtain ⟨k, hk⟩ : ∃ k, k = cntF f (pre.map Tr.t) := ⟨_, rfl⟩
    rw [← hk] at hc hle hI HS
    have hkm : k < 4611686018427387904 := by omega
    clear hk hsn
    by_cases hq : xt.f = f
    · subst hq
      gi_wp2
      refine ⟨(hI.set (by omega) _).1, (hI.set (B := wl.heap.size) (by omega) _).2.1, ?_, hf.kept (grownBy_setCell' W _ _) (by simp)⟩
      rw [HS.out, if_pos trivial]
      exact (hI.set (B := wl.heap.size) (by omega) _).2.2
    · have hq' : (xt.f == f) = false := by simpa using hq
      gi_wp2
      refine ⟨KeepsFrom.refl _ _, KpT.refl _ _, ?_, hf⟩
      rw [show List.map Tr.t (pre ++ [⟨xt, xa, xn, xc⟩]) = List.map Tr.t pre ++ [xt] by simp, HS.out, if_neg hq]
      exact hI
  case done =>
    rintro D xs W hD hS ⟨hI, hf⟩ hK
    have hc := hI.1.cell
    gi_wp2
    refine ⟨by simp, .inl ⟨_, _, rfl, run_takeDeferred hK, ?_⟩⟩
    refine ⟨_, results_tmp rfl _ _ _, ?_, ?_⟩
    · rw [← hS]
      rfl
    · exact hI.2.trans (kpt_put _ (by omega) hK rfl).1

theorem count_any {U : Nat → Prop} {t : Tm} {a : Option Addr} {n c : Nat} {w : World} (f : Int) (h : Tat U w t a n c) (hm : t.size ≤ 4611686018427387904) :
    Calls Try.prog 31 #[.agg #[.int .i64 t.f, .slice a n c], .int .i64 f] w fun e W' => e = .returned (.int .i64 (cntF f t.flat : Int)) ∧ Below w.heap.size w W' :=
  callsIn_wide.1 (count_in t a n c f w h hm)

theorem keepsFrom_below {W W' : World} (h : Below W.heap.size W W') (B : Nat) : KeepsFrom B W W' := ⟨h.size, fun k o _ hk _ => (h.block k (Array.getElem?_eq_some_iff.1 hk).1).trans hk⟩

/-- The greatest number of a variable among these, -1 if there is none. -/
def topF (l : List Tm) : Int := l.foldl (fun m s => if s.f < 0 then max m (-1 - s.f) else m) (-1)
theorem topF_snoc (l : List Tm) (s : Tm) : topF (l ++ [s]) = if s.f < 0 then max (topF l) (-1 - s.f) else topF l := by simp [topF]

set_option maxRecDepth 100000 in
set_option maxHeartbeats 2000000 in
theorem top_in {U : Nat → Prop} (t : Tm) (a : Option Addr) (n c : Nat) (w : World) (h : Tat U w t a n c) :
    CallsIn Fence.wide 3 Try.prog 33 #[.agg #[.int .i64 t.f, .slice a n c]] w fun e W' => e = .returned (.int .i64 (topF t.flat)) ∧ Below w.heap.size w W' := by
  refine callsIn_of_wp_marks Try.func33 rfl trivial ?_ rfl
  simp only [Try.ntmps33, List.size_toArray, List.length_cons, List.length_nil, Nat.reduceAdd, Nat.reduceSub, Array.replicate_succ, Array.replicate_zero, List.push_toArray, List.append_toArray, List.nil_append, List.cons_append]
  gi_wp2_with (refine ⟨trivial, ?_⟩; gi_at_call 50; refine (all_in _ _ _ _ _).mono ?_; rintro e w' ⟨rfl, rfl⟩)
  obtain ⟨w1, hw1⟩ : ∃ w1, w1 = w.alloc (.cells #[.int .i64 t.f, .slice a n c] 34) := ⟨_, rfl⟩
  obtain ⟨w3, hw3⟩ : ∃ w3, w3 = w1.alloc (.cells #[.int .i64 (-1)] 3) := ⟨_, rfl⟩
  obtain ⟨wl, hwl⟩ : ∃ wl, wl = w3.alloc (.cells #[.int .i64 t.f, .slice a n c] 34) := ⟨_, rfl⟩
  have s1 : w1.heap.size = w.heap.size + 1 := by rw [hw1]; simp
  have s3 : w3.heap.size = w.heap.size + 2 := by rw [hw3]; simp; omega
  have hsz : wl.heap.size = w.heap.size + 3 := by rw [hwl]; simp; omega
  have hb0 : Below w.heap.size w wl := by rw [hwl, hw3, hw1]; exact bA (bA (bA (bW _) _) _) _
  have hbx : wl.heap[w.heap.size + 1 + 1]? = some (.cells #[.int .i64 t.f, .slice a n c] 34 (0, 0)) := by
    have := World.alloc_heap_new w3 (.cells #[.int .i64 t.f, .slice a n c] 34)
    rw [s3, ← hwl] at this
    exact this
  have hI0 : IntI w (w.heap.size + 1) (.int .i64 (topF (([] : List Tr).map Tr.t))) wl := by
    have b2 := Boxed.new w1 3 (.int .i64 (-1))
    rw [s1, ← hw3] at b2
    have b3 := b2.alloc (.cells #[.int .i64 t.f, .slice a n c] 34)
    rw [← hwl] at b3
    exact ⟨b3, hb0⟩
  have ht : Tat (· < w.heap.size) wl t a n c := (h.mono (V := (· < w.heap.size)) fun b _ hb => hb).below hb0 fun b hb _ => hb
  rw [← hw1, ← hw3, ← hwl]
  clear hwl h hw1 hw3 s1 s3
  refine wp_collectH (gf := 72) (lb := #[.pointer (some ⟨w.heap.size + 1 + 1, 0, none⟩)]) rfl (enters_of Try.func72 (by kernel_rfl) rfl)
    (all_gives (n₀ := w.heap.size) (by omega) hbx ht) (fun h k => h.trans k) (fun W l o o' hl h ho => kpt_put o' (by omega) h ho) (fun pre x W l o o' hl hx h ho => ⟨hx.1.kept (kpt_put o' (by omega) h ho).1, hx.2⟩) (fun _ => rfl)
    (fun pre W => IntI w (w.heap.size + 1) (.int .i64 (topF (pre.map Tr.t))) W) (fun pre A B h hb => h.abides hb) (fun pre A l o o' h hl h1 h2 => h.putObj o' (by omega) h1 h2) hI0
    (fun x b => { tmps := #[.agg #[.int .i64 t.f, .slice a n c], .pointer (some ⟨w.heap.size, 0, none⟩), .int .i64 0, .pointer (some ⟨w.heap.size + 1, 0, none⟩), .pointer (some ⟨b, 0, none⟩), .agg #[.int .i64 t.f, .slice a n c], .func (.func 72) #[] #[.pointer (some ⟨w.heap.size + 1 + 1, 0, none⟩)], x.v, undef, undef, undef, undef, undef, undef, undef], defers := [] })
    Tr.ob (fun V x hV => KpT.of_below (by omega) (bA (bW _) _)) (fun pre x V hx => ⟨hx.1.bw (bA (bW _) _), hx.2⟩) ?assign ?body ?done
  case assign =>
    intro l x W K hK
    obtain ⟨xt, xa, xn, xc⟩ := x
    simp only [Tr.v, Tr.ob] at hK ⊢
    gi_wp2
    exact hK
  case body =>
    rintro l pre x W b hb hbx' hI ⟨hx, hlt⟩
    have hx1 := hx.wf
    have hbl := (Array.getElem?_eq_some_iff.1 hbx').1
    obtain ⟨xt, xa, xn, xc⟩ := x
    simp only [Tr.v, Tr.ob] at *
    have HS := hid (topF_snoc (pre.map Tr.t) xt)
    obtain ⟨m, hm⟩ : ∃ m, m = topF (pre.map Tr.t) := ⟨_, rfl⟩
    rw [← hm] at hI HS
    clear hm
    obtain ⟨e1, e2⟩ := cell_box hbx'
    by_cases hq : xt.f < 0
    · have HS2 : Hid (topF (List.map Tr.t pre ++ [xt]) = max m (-1 - xt.f)) := by show _ = _; rw [HS.out, if_pos hq]
      gi_wp2_with (first
        | (refine ⟨trivial, ?_⟩; gi_at_call 51; refine (CallsIn.inRound l (callsIn_wide.2 (isVar_any _ _ _ _ _))).mono ?_; rintro e W1 ⟨rfl, hb1⟩; clear e1 e2; obtain ⟨e1, e2⟩ := cell_box ((hb1.block b hbl).trans hbx'); have hI1 := hI.abides hb1; have hc := hI1.1.cell; have hf := hI1.1.frozen))
      have hbl1 : b < W1.heap.size := Nat.lt_of_lt_of_le hbl hb1.size
      have hbx1 := (hb1.block b hbl).trans hbx'
      have hmx : Try.prog.follows .mixedOrders = true := by kernel_rfl
      have hk1 := KpT.of_below hI.2.size hb1
      have HK1 := hid hb1
      have hsI : w.heap.size ≤ W1.heap.size := hI1.2.size
      clear hbl hbx' hb1 hI hb
      gi_region_with_o (refine ⟨trivial, ?_⟩; gi_at_call 52; refine (CallsIn.inRound l (callsIn_wide.2 (number_any _ _ _ _ _ hx1.1 hq))).mono ?_; rintro e W2 ⟨rfl, hb2'⟩; have hb2 : Below W1.heap.size W1 W2 := bN (bD (bW _)) hb2'; have hI2 := hI1.abides hb2; have hc2 := hI2.1.cell; have hf2 := hI2.1.frozen; obtain ⟨e3, e4⟩ := cell_box ((hb2.block b hbl1).trans hbx1))
      all_goals gi_wp2
      all_goals refine ⟨(keepsFrom_below (bN HK1.out hb2) _).trans ((KeepsOthers.setCell _ _ _).from _), (hk1.trans (KpT.of_below hsI hb2)).trans (kpt_set hI2.1 (by decide) (by omega) _), ?_⟩
      all_goals rw [HS2.out]
      all_goals first
        | (rw [Int.max_eq_right (by omega)]; exact (hI2.set (B := 0) (by omega) _).2.2)
        | (rw [Int.max_eq_left (by omega)]; exact (hI2.set (B := 0) (by omega) _).2.2)
    · have HS2 : Hid (topF (List.map Tr.t pre ++ [xt]) = m) := by show _ = _; rw [HS.out, if_neg hq]
      gi_wp2_with (refine ⟨trivial, ?_⟩; gi_at_call 51; refine (CallsIn.inRound l (callsIn_wide.2 (isVar_any _ _ _ _ _))).mono ?_; rintro e W1 ⟨rfl, hb1⟩)
      refine ⟨keepsFrom_below hb1 _, KpT.of_below hI.2.size hb1, ?_⟩
      rw [show List.map Tr.t (pre ++ [⟨xt, xa, xn, xc⟩]) = List.map Tr.t pre ++ [xt] by simp, HS2.out]
      exact hI.abides hb1
  case done =>
    rintro D xs W hD hS hI hK
    have hc := hI.1.cell
    gi_wp2
    refine ⟨by simp, .inl ⟨_, _, rfl, run_takeDeferred hK, ?_⟩⟩
    refine ⟨_, results_tmp rfl _ _ _, ?_, ?_⟩
    · rw [← hS]
      rfl
    · exact hI.2.trans (kpt_put _ (by omega) hK rfl).1


theorem top_any {U : Nat → Prop} {t : Tm} {a : Option Addr} {n c : Nat} {w : World} (h : Tat U w t a n c) :
    Calls Try.prog 33 #[.agg #[.int .i64 t.f, .slice a n c]] w fun e W' => e = .returned (.int .i64 (topF t.flat)) ∧ Below w.heap.size w W' :=
  callsIn_wide.1 (top_in t a n c w h)
end Go.Proofs.Ytmdhefepaolhcaa
