/-
  AbBox KbSc SbSort SbClone KbFns KbFns2 KbFns3 KbFns4 OrFns1 ClMath
-/
import Derived.Test.YtglbohajmccehaaMg3
import Derived.Test.YtglbohajmccehaaMg2
namespace Go.Proofs.Ytglbohajmccehaa
open Go.RowKit Go.MapKept
set_option linter.unusedVariables false
set_option linter.unusedSimpArgs false
section
variable {P : Program} {w0 : World} {U0 : UX} {nt : Nat} {ops : Array Oper} {o : Oper} {S : Nat → Option AV} {gs : List Nat} {d : Nat} {s : AS} {a : Act} {w : World} {D : Nat → Nat → Prop} {hv : Nat → Value}

theorem live_two2 {x y : AV} {k m n : Nat} {e : Nat × Nat} (hk : k < 200000) (hm : m < 200000 ∨ 400000 ≤ m) : Live ((k, x) :: (m, y) :: s) n e ↔ Live s n e := by
  unfold Live
  constructor
  · rintro ⟨h1, h2⟩
    rw [lN (by omega), lN (by omega)] at h1
    exact ⟨h1, h2⟩
  · rintro ⟨h1, h2⟩
    exact ⟨by rw [lN (by omega), lN (by omega)]; exact h1, h2⟩
theorem hk_ne_boxN {lv : Nat → Prop} {a : AV} {d : Nat} (hd : BN d) (hlv : ∀ n, lv n → n = 1 ∨ RN n) (hr : a.n ≠ d) (h : Rn lv a) : hk a ≠ 100000 + d := by
  unfold BN at hd
  rcases h with ⟨h1, h2, h3⟩ | ⟨h1, h2⟩ | ⟨h1, h2⟩
  · rw [hk_eq.2 (by omega)]
    rcases hlv _ h2 with h4 | h4
    · exact absurd h4 h3
    · unfold RN at h4; omega
  · rw [hk_eq.1 h1]; omega
  · rw [hk_eq.2 (by omega)]; unfold RN at h2; omega
theorem SimG.newboxN (h : SimG w0 U0 nt s a w D hv) {nn : Nat} (hbn : BN nn) (hnf : ∀ v, U0.f (100000 + nn) = some v → False) (hr : NoRef s nn) (hd : d < nt) (h5 : d < 100000) {av : AV} (hav : av.t = 5 ∨ av = .obj) {xs : List Value} (ty : TypeId) (hrep : av.t = 5 → Rep (Us w0 U0 D) w av.c xs) (htk : av.t = 5 → Tk hv (LiveN s) av xs) :
    SimG w0 U0 nt ((d, .bp nn 0 []) :: (100000 + nn, av) :: s) (a.put (some d) (.pointer (some ⟨w.heap.size, 0, none⟩))) (w.alloc (.cells xs.toArray ty)) D (fun k => if k = 100000 + nn then .pointer (some ⟨w.heap.size, 0, none⟩) else hv k) := by
  have hbn1 := hbn
  unfold BN at hbn1
  have hb' : Below w.heap.size w (w.alloc (.cells xs.toArray ty)) := (Below.refl _ _).alloc (Nat.le_refl _) _
  have hG := h.grow' hb'
  obtain ⟨s', hs'⟩ : ∃ s', s' = (d, AV.bp nn 0 []) :: (100000 + nn, av) :: s := ⟨_, rfl⟩
  obtain ⟨hv', hhv⟩ : ∃ hv' : Nat → Value, hv' = fun k => if k = 100000 + nn then .pointer (some ⟨w.heap.size, 0, none⟩) else hv k := ⟨_, rfl⟩
  rw [← hs', ← hhv]
  have hl : ∀ n e, Live s' n e ↔ Live s n e := fun n e => by rw [hs']; exact live_two2 (by omega) (by unfold BN at hbn; omega)
  have hl2 : LiveN s' = LiveN s := by funext n; simp only [LiveN, hl]
  have hlk : ∀ k, k ≠ d → k ≠ 100000 + nn → look s' k = look s k := fun k h1 h2 => by rw [hs', lN (Ne.symm h1), lN (Ne.symm h2)]
  have hlb : look s' (100000 + nn) = some av := by rw [hs', lN (by omega), lS]
  have hvn : ∀ k, k ≠ 100000 + nn → hv' k = hv k := fun k hk => by rw [hhv]; simp only [if_neg hk]
  have hvd : hv' (100000 + nn) = .pointer (some ⟨w.heap.size, 0, none⟩) := by rw [hhv]; simp
  have hid : ∀ b o v, Us w0 U0 D b o → (w.alloc (.cells xs.toArray ty)).cell? ⟨b, o, none⟩ = some v → Us w0 U0 D b o ∧ (w.alloc (.cells xs.toArray ty)).cell? ⟨b, o, none⟩ = some v := fun _ _ _ h1 h2 => ⟨h1, h2⟩
  have hmv : ∀ {k av' v}, look s k = some av' → AVRep (Us w0 U0 D) (w.alloc (.cells xs.toArray ty)) hv (LiveN s) av' v → AVRep (Us w0 U0 D) (w.alloc (.cells xs.toArray ty)) hv' (LiveN s) av' v := fun {k av' v} h1 h2 =>
    h2.move hid (fun _ h => h) fun h3 => hvn _ (hk_ne_boxN hbn (fun n => liveN_rn) (hr k av' h1).1 h3)
  refine ⟨hG.below, h.dfr, by simp [Act.put, h.size], fun d' av' h1 h2 => ?_, fun n o av' h1 h2 h3 h10 => ?_, fun n o o' av1 av2 h1 h2 h3 h4 => ?_, fun k av' h1 h2 => ?_, fun k av' g h1 h2 h3 h4 => ?_, fun k k' av1 av2 g h1 h2 h3 h4 h6 h7 hne => ?_, fun n g h1 => ?_, hG.dlt⟩
  · rw [hl2]
    by_cases e : d = d'
    · subst e
      rw [hs', lS] at h1
      cases h1
      refine ⟨.pointer (some ⟨w.heap.size, 0, none⟩), by simp [Act.put, h.size, hd], ?_⟩
      unfold AVRep
      simp only [if_true]
      exact ⟨hbn, by rw [hvd]; rfl⟩
    · rw [hlk d' (Ne.symm e) (by omega)] at h1
      obtain ⟨v', h3, h4⟩ := hG.slot d' av' h1 h2
      exact ⟨v', by simp [Act.put, e, h3], hmv h1 h4⟩
  · rw [hlk _ (by unfold fKey; omega) (by unfold fKey; omega)] at h1
    have hn := (hr _ _ h1).2.1
    rw [fnm_key h2] at hn
    rw [hlk _ (by omega) (by omega)] at h3
    rw [hl2]
    obtain ⟨v, h4, h6, h7⟩ := hG.fld n o av' h1 h2 h3 h10
    refine ⟨v, hmv h1 h4, h6, ?_⟩
    rw [hvn _ (by omega)]
    exact h7
  · rw [hlk _ (by unfold fKey; omega) (by unfold fKey; omega)] at h1 h2
    exact h.fdis n o o' av1 av2 h1 h2 h3 h4
  · rw [hl2]
    by_cases e : k = 100000 + nn
    · subst e
      rw [hlb] at h1
      cases h1
      rw [hvd]
      unfold OC
      rcases hav with hav | rfl
      · rw [if_pos hav]
        refine ⟨w.heap.size, xs, ty, rfl, alloc_new _ _, (hrep hav).keep (us_keep h.dlt hb' fun _ _ h => h), fun hl => ?_⟩
        obtain ⟨m, c, g1, g2⟩ := htk hav hl
        refine ⟨m, c, g1, ?_⟩
        rw [g2]
        unfold tokv
        rcases liveN_rn hl with h6 | h6
        · rw [if_pos h6, if_pos h6]
        · unfold RN at h6
          rw [hvn _ (by omega)]
      · simp only [if_true]
        exact ⟨w.heap.size, xs.toArray, ty, rfl, alloc_new _ _⟩
    · have h2' := h2
      unfold oKey at h2'
      rw [hlk k (by omega) e] at h1
      rw [hvn k e]
      refine (hG.obj k av' h1 h2).move hid (fun _ hl => ⟨hl, ?_⟩) (fun _ _ => rfl)
      unfold tokv
      rcases liveN_rn hl with h6 | h6
      · rw [if_pos h6, if_pos h6]
      · unfold RN at h6
        rw [hvn _ (by omega)]
  · by_cases e : k = 100000 + nn
    · subst e
      rw [hvd] at h4
      have h4 : some w.heap.size = some g := h4
      cases h4
      refine ⟨.inl h.below.size, by simp, fun o _ hd => ?_⟩
      have := h.dlt _ _ hd
      omega
    · have h2' := h2
      unfold oKey at h2'
      rw [hlk k (by omega) e] at h1
      rw [hvn k e] at h4 ⊢
      exact hG.blk k av' g h1 h2 h3 h4
  · have h3' := h3
    have h4' := h4
    unfold oKey at h3' h4'
    by_cases e1 : k = 100000 + nn
    · have e2 : k' ≠ 100000 + nn := fun e => hne (e1.trans e.symm)
      rw [hlk k' (by omega) e2] at h2
      rw [e1, hvd, hvn k' e2]
      intro h8 h9
      have := (h.blk k' av2 g h2 h4 h7 h9).2.1
      have h8 : some w.heap.size = some g := h8
      cases h8
      omega
    · rw [hlk k (by omega) e1] at h1
      by_cases e2 : k' = 100000 + nn
      · rw [e2, hvd, hvn k e1]
        intro h8 h9
        have := (h.blk k av1 g h1 h3 h6 h8).2.1
        have h9 : some w.heap.size = some g := h9
        cases h9
        omega
      · rw [hlk k' (by omega) e2] at h2
        rw [hvn k e1, hvn k' e2]
        exact h.disj k k' av1 av2 g h1 h2 h3 h4 h6 h7 hne
  · have := U0.hf n g h1
    rw [hvn _ (fun e => hnf g (by rw [← e]; exact h1))]
    exact h.fix n g h1

theorem a_alloc9N (nn : Nat) (hg : Gd w0 U0 nt ops o gs S) (hd : o.dst = some d) (hn : Nat.blt d nt = true) (h5 : Nat.blt d 100000 = true) {ty : TypeId} {fs : Array Field} {it : TypeInfo} {cs : Array Value} {sz : List Nat} {zs : List CV} (ho : o.op = .alloc ty) (hu : P.underlying ty = some (.struct fs)) (hi : P.info? ty = some it) (hz : it.zero = some (.agg cs)) (hsz : szO P fs.toList 0 = some sz) (h0 : zsO sz cs.toList = some zs) (hp : (sz.all fun z => Nat.blt 0 z) = true) (h100 : Nat.ble cs.size 100 = true) (hbb : (Nat.blt nn 100000 || (Nat.ble 350000 nn && Nat.blt nn 400000)) = true) (hnf : ∀ v, U0.f (100000 + nn) = some v → False) : AOp P w0 U0 nt ops o gs [(nn, [])] S (fldsA nn zs 0 ++ [(d, .bp nn 0 []), (100000 + nn, .obj)]) := by
  intro s hs hN a w ⟨D, hv, h⟩ Q K hK
  rw [if_pos (hg s hs a w D hv h)]
  have hd5 := bL h5
  have hbn : BN nn := by
    rcases Bool.or_eq_true_iff.1 hbb with h1 | h1
    · exact .inl (bL h1)
    · rw [Bool.and_eq_true] at h1; exact .inr ⟨Nat.le_of_ble_eq_true h1.1, bL h1.2⟩
  have hbn1 := hbn
  unfold BN at hbn1
  have he : (execOp a.eval o).run P w = .ok (.value (.pointer (some ⟨w.heap.size, 0, none⟩))) (w.alloc (.cells cs ty)) := by
    simp [execOp, ho, Instr.alloc, zeroValue, typeInfo, hi, hz, run_newVar, Value.cells]
  unfold Oper.wp
  rw [he, Oper.upon_value, hd]
  have hr := (hN (nn, []) (by simp)).nr
  have hG := h.newboxN (d := d) (av := .obj) hbn hnf hr (bL hn) hd5 (.inr rfl) (xs := cs.toList) ty (fun e => by cases e) (fun e => by cases e)
  rw [Array.toArray_toList] at hG
  obtain ⟨segs, e1, e2, e3, e4, e5⟩ := zsO_spec (U := Us w0 U0 D) (w := w.alloc (.cells cs ty)) h0
  suffices hfin : SimG w0 U0 nt (fldsA nn zs 0 ++ ((d, AV.bp nn 0 []) :: (100000 + nn, AV.obj) :: s)) (a.put (some d) (.pointer (some ⟨w.heap.size, 0, none⟩))) (w.alloc (.cells cs ty)) D (fun k => if k = 100000 + nn then .pointer (some ⟨w.heap.size, 0, none⟩) else hv k) by
    exact hK _ _ ⟨D, _, by rw [List.append_assoc]; exact hfin⟩
  refine hG.addFs (n := nn) (g := w.heap.size) hbn (by rw [lN (by omega), lS]) (fun q av h1 h2 => ?_) (by simp only [if_true]; rfl) e4 e5 (fun i hi' => ?_) (fun c hc => ?_) (by rw [e1]; have := Nat.le_of_ble_eq_true h100; simpa using this)
  · rw [lN (by unfold fKey; omega), lN (by unfold fKey; omega)] at h1
    have := (hr _ _ h1).2.1
    rw [fnm_key h2] at this
    exact this rfl
  · rw [e1] at hi' ⊢
    rw [Nat.zero_add]
    have := alloc_new w (.cells cs ty)
    simp only [World.cell?, this]
    simp
  · rw [List.all_eq_true] at hp
    have : c.size ∈ sz := by rw [← e3]; exact List.mem_map.2 ⟨c, hc, rfl⟩
    exact bL (hp _ this)

theorem a_neg (hg : Gd w0 U0 nt ops o gs S) (hd : o.dst = some d) (hn : Nat.blt d nt = true) (h5 : Nat.blt d 100000 = true) {x : Operand} {i : Int} {ty : TypeId} {n q p} (ho : o.op = .unOp .neg ty x) (hx : ev S x = some ⟨0, .sc (.int .i64 i), n, q, p⟩) (hb : -9223372036854775808 < i ∧ i ≤ 9223372036854775808) : AOp P w0 U0 nt ops o (gs ++ rd x) [] S [(d, .val (.i (-i)))] :=
  aop_val hg hd hn h5 (fun k hk => List.mem_append_left _ hk) fun s hs a w D hv hm => by
    have h1 := ev_sc hm (fun k hk => hs k (List.mem_append_right _ hk)) hx
    have hw : IntKind.i64.wrap (-i) = -i := by rw [IntKind.wrap_i64]; omega
    generalize a.eval = ρ at h1 ⊢
    exact ⟨.int .i64 (-i), by simp [execOp, ho, h1, Op.unary, go_sem, hw], avrep_sc rfl⟩

theorem run_eqmap2 {t k e : TypeId} (hu : P.underlying t = some (.map k e)) (g : Nat) (w : World) : (Op.equal t (.map (some g)) (.map none)).run P w = .ok false w := by
  unfold Op.equal
  rw [show Op.maxDepth = 9999 + 1 from rfl, Op.equalIn]
  simp [run_underlying hu]
theorem a_mref_nil (hg : Gd w0 U0 nt ops o gs S) (hd : o.dst = some d) (hn : Nat.blt d nt = true) (h5 : Nat.blt d 100000 = true) {x : Operand} {t1 t2 e k : TypeId} {n : Nat} {l : List CV} (ho : o.op = .binOp .eql t1 x (.const (.map none)) t2) (hu : P.underlying t1 = some (.map k e)) (hx : ev S x = some (.mref n)) (hm' : S n = some (.mp l)) : AOp P w0 U0 nt ops o (gs ++ (rd x ++ [n])) [] S [(d, .val (.b false))] :=
  aop_val hg hd hn h5 (fun k hk => List.mem_append_left _ hk) fun s hs a w D hv hm => by
    obtain ⟨hrn, h1, _⟩ : RN n ∧ a.eval x = hv n ∧ (a.eval x).oneCell' = true := ev_rep hm (fun k hk => hs k (List.mem_append_right _ (List.mem_append_left _ hk))) hx
    have hok : oKey n := by unfold RN at hrn; unfold oKey; omega
    obtain ⟨g, es, clock, g1, g2, g3, g4, g5⟩ : ∃ g es clock, hv n = .map (some g) ∧ w.heap[g]? = some (.map es clock) ∧ Ents (Us w0 U0 D) w l es.toList ∧ (∀ e ∈ es, e.born < clock) ∧ (es.toList.map (fun e : MapEntry => e.born)).Nodup := hm.obj n _ ((hs n (by simp)).trans hm') hok
    rw [g1] at h1
    have hb := run_eqmap2 (P := P) hu g w
    have hc : a.eval (.const (.map none)) = .map none := rfl
    refine ⟨.bool false, ?_, avrep_sc rfl⟩
    generalize a.eval = ρ at h1 hc ⊢
    simp [execOp, ho, h1, hc, eqGuard, binOp, hb]

theorem a_lookup1 (hg : Gd w0 U0 nt ops o gs S) (hd : o.dst = some d) (hn : Nat.blt d nt = true) (h5 : Nat.blt d 100000 = true) {x y : Operand} {t kt et : TypeId} {k k2 : IntKind} {i z2 : Int} {n : Nat} {l : List CV} {n' q' p'} (ho : o.op = .lookup t x y false) (hu : P.underlying t = some (.map kt et)) (huk : P.underlying kt = some (.int k)) (hz2 : (P.info? et).map (·.zero) = some (some (.int k2 z2))) (hzc : zeroT P et = some (.sc (.int k2 z2))) (hx : ev S x = some (.mref n)) (hy : ev S y = some ⟨0, .sc (.int k i), n', q', p'⟩) (hm' : S n = some (.mp l)) (hik : IntKeys k l) : AOp P w0 U0 nt ops o (gs ++ (rd x ++ (rd y ++ [n]))) [] S [(d, .val ((lookR k i l).getD (.sc (.int k2 z2))))] :=
  aop_val hg hd hn h5 (fun k hk => List.mem_append_left _ hk) fun s hs a w D hv hm => by
    obtain ⟨hrn, h1, _⟩ : RN n ∧ a.eval x = hv n ∧ (a.eval x).oneCell' = true := ev_rep hm (fun k hk => hs k (List.mem_append_right _ (List.mem_append_left _ hk))) hx
    have e2 := ev_sc hm (fun k hk => hs k (List.mem_append_right _ (List.mem_append_right _ (List.mem_append_left _ hk)))) hy
    have hok : oKey n := by unfold RN at hrn; unfold oKey; omega
    obtain ⟨g, es, clock, g1, g2, g3, g4, g5⟩ : ∃ g es clock, hv n = .map (some g) ∧ w.heap[g]? = some (.map es clock) ∧ Ents (Us w0 U0 D) w l es.toList ∧ (∀ e ∈ es, e.born < clock) ∧ (es.toList.map (fun e : MapEntry => e.born)).Nodup := hm.obj n _ ((hs n (by simp)).trans hm') hok
    obtain ⟨it, zv, i1, i2, i3⟩ := zeroT_spec hzc
    have hck := run_checkKey (P := P) (w := w) huk (k := .int k i) rfl es.isEmpty 9999
    have hge := Go.MapKept.run_getObj_map (P := P) g2
    rcases find_spec 0 g3 hik (i := i) with ⟨f1, f2⟩ | ⟨j, e, c, f1, f2, f3, f4, f5, f6⟩
    · have hfk := run_findKey (P := P) (w := w) huk f1
      have hzv : (zeroValue et).run P w = .ok zv w := by simp [zeroValue, typeInfo, i1, i2]
      rw [i1, Option.map_some, i2] at hz2
      injection hz2 with hz2
      injection hz2 with hz2
      refine ⟨zv, ?_, ?_⟩
      · rw [g1] at h1
        generalize a.eval = ρ at h1 e2 ⊢
        simp [execOp, ho, Instr.lookup, run_underlying hu, h1, e2, hge, hck, hfk, hzv]
      · rw [f2, hz2]
        exact avrep_sc rfl
    · have hfk := run_findKey (P := P) (w := w) huk f1
      refine ⟨e.val, ?_, ?_⟩
      · rw [g1] at h1
        generalize a.eval = ρ at h1 e2 ⊢
        simp [execOp, ho, Instr.lookup, run_underlying hu, h1, e2, hge, hck, hfk]
      · rw [f6]
        exact avrep_val f4
theorem a_mref_isnil (hg : Gd w0 U0 nt ops o gs S) (hd : o.dst = some d) (hn : Nat.blt d nt = true) (h5 : Nat.blt d 100000 = true) {x : Operand} {t1 t2 e k : TypeId} {n : Nat} {c : CV} {m q p} (ho : o.op = .binOp .eql t1 x (.const (.map none)) t2) (hu : P.underlying t1 = some (.map k e)) (hx : ev S x = some (.mref n)) (hm' : S n = some ⟨17, c, m, q, p⟩) : AOp P w0 U0 nt ops o (gs ++ (rd x ++ [n])) [] S [(d, .val (.b true))] :=
  aop_val hg hd hn h5 (fun k hk => List.mem_append_left _ hk) fun s hs a w D hv hm => by
    obtain ⟨hrn, h1, _⟩ : RN n ∧ a.eval x = hv n ∧ (a.eval x).oneCell' = true := ev_rep hm (fun k hk => hs k (List.mem_append_right _ (List.mem_append_left _ hk))) hx
    have hok : oKey n := by unfold RN at hrn; unfold oKey; omega
    have g1 : hv n = .map none := (show OX _ _ _ _ from hm.obj n _ ((hs n (by simp)).trans hm') hok).1.1 rfl
    rw [g1] at h1
    have hb := run_eqmap (P := P) hu w
    have hc : a.eval (.const (.map none)) = .map none := rfl
    refine ⟨.bool true, ?_, avrep_sc rfl⟩
    generalize a.eval = ρ at h1 hc ⊢
    simp [execOp, ho, h1, hc, eqGuard, binOp, hb]
theorem wk_nmap (k n : Nat) (hk : Nat.ble 500000 k = true) (hn : (Nat.ble 200000 n && Nat.blt n 400000) = true) (hs : look s k = some (.val (.sc (.map none)))) (hr : noRefB s [(n, [])] = true) (hnk : noKey s n = true) : Wk w0 U0 nt s ((k, .mref n) :: (n, .nmap) :: s) := by
  rintro a w ⟨D, hv, h⟩
  have hk5 := Nat.le_of_ble_eq_true hk
  have hrn := rnB hn
  have hrn' : RN n := RW.rn hrn
  unfold RW at hrn
  have hnk' : look s n = none := by
    cases e : look s n with
    | none => rfl
    | some av =>
      unfold noKey at hnk
      rw [List.all_eq_true] at hnk
      have := hnk _ (look_mem e)
      simp [Nat.beq_refl] at this
  have hnr : NoRef s n := (noRefB_spec hr (n, []) (by simp)).nr
  obtain ⟨hv', hhv⟩ : ∃ hv' : Nat → Value, hv' = fun x => if x = n then .map none else hv x := ⟨_, rfl⟩
  have hvn : ∀ x, x ≠ n → hv' x = hv x := fun x hx => by rw [hhv]; simp only [if_neg hx]
  have hvd : hv' n = .map none := by rw [hhv]; simp
  obtain ⟨s', hs'⟩ : ∃ s', s' = (k, AV.mref n) :: (n, AV.nmap) :: s := ⟨_, rfl⟩
  rw [← hs']
  have hlk : ∀ x, x ≠ k → x ≠ n → look s' x = look s x := fun x h1 h2 => by rw [hs', lN (Ne.symm h1), lN (Ne.symm h2)]
  have hlkk : look s' k = some (.mref n) := by rw [hs', lS]
  have hlkn : look s' n = some .nmap := by rw [hs', lN (by omega), lS]
  have hl : ∀ q e, Live s' q e ↔ Live s q e := fun q e => by
    unfold Live
    by_cases e1 : q = k
    · omega
    · by_cases e2 : q = n
      · subst e2
        rw [hlkn, hnk']
        constructor <;> (rintro ⟨h1, _⟩; cases h1)
      · rw [hlk q e1 e2]
  have hl2 : LiveN s' = LiveN s := by funext q; simp only [LiveN, hl]
  have hmv : ∀ {k' av v}, look s k' = some av → AVRep (Us w0 U0 D) w hv (LiveN s) av v → AVRep (Us w0 U0 D) w hv' (LiveN s) av v := fun {k' av v} h1 h2 =>
    h2.move (fun _ _ _ h1 h2 => ⟨h1, h2⟩) (fun _ h => h) fun h3 => hvn _ (hk_ne_row hrn' (hnr k' av h1).1 h3)
  refine ⟨D, hv', h.below, h.dfr, h.size, fun d av g1 g2 => ?_, fun m o av g1 g2 g3 g4 => ?_, fun m o o' av av' g1 g2 g3 g4 g5 => ?_, fun k' av g1 g2 => ?_, fun k' av g g1 g2 g3 g4 => ?_, fun k' k2 av av' g g1 g2 g3 g4 g5 g6 g7 g8 => ?_, fun k' v g1 => ?_, h.dlt⟩
  · rw [hlk d (by omega) (by omega)] at g1
    rw [hl2]
    obtain ⟨v, h1, h2⟩ := h.slot d av g1 g2
    exact ⟨v, h1, hmv g1 h2⟩
  · have hbk := bn_okey g4
    unfold oKey at hbk
    unfold BN at g4
    rw [hlk (100000 + m) (by omega) (by omega)] at g3
    rw [hl2, hvn (100000 + m) (by omega)]
    by_cases e : fKey m o = k
    · rw [e, hlkk] at g1
      cases g1
      obtain ⟨v, h1, h2, h3⟩ := h.fld m o _ (by rw [e]; exact hs) g2 g3 g4
      obtain ⟨h4, _⟩ := vrep_sc.1 h1.1
      subst h4
      exact ⟨.map none, ⟨hrn', hvd.symm, rfl⟩, rfl, h3⟩
    · rw [hlk _ e (by unfold fKey; omega)] at g1
      obtain ⟨v, h1, h2, h3⟩ := h.fld m o av g1 g2 g3 g4
      exact ⟨v, hmv g1 h1, h2, h3⟩
  · have conv : ∀ o (av : AV), look s' (fKey m o) = some av → ∃ av', look s (fKey m o) = some av' ∧ av'.sz = av.sz := fun o av f1 => by
      by_cases e : fKey m o = k
      · rw [e, hlkk] at f1
        cases f1
        exact ⟨.val (.sc (.map none)), by rw [e]; exact hs, rfl⟩
      · rw [hlk _ e (by unfold fKey; omega)] at f1
        exact ⟨av, f1, rfl⟩
    obtain ⟨a1, b1, c1⟩ := conv o av g1
    obtain ⟨a2, b2, c2⟩ := conv o' av' g2
    rw [← c1]
    exact h.fdis m o o' a1 a2 b1 b2 g3 g4 g5
  · unfold oKey at g2
    rw [hl2]
    by_cases e : k' = n
    · subst e
      rw [hlkn] at g1
      cases g1
      rw [hvd]
      exact ⟨⟨fun _ => rfl, (fun e => by cases e)⟩, (fun e => by cases e), (fun e => by cases e), (fun e => by cases e)⟩
    · rw [hlk k' (by omega) e] at g1
      rw [hvn k' e]
      exact (h.obj k' av g1 g2).move (fun _ _ _ h1 h2 => ⟨h1, h2⟩) (fun ht hl => ⟨hl, by
        unfold tokv
        rw [hvn _ (hnr k' av g1).1]⟩) (fun _ _ => rfl)
  · unfold oKey at g2
    by_cases e : k' = n
    · subst e
      rw [hvd] at g4
      cases g4
    · rw [hlk k' (by omega) e] at g1
      rw [hvn k' e] at g4 ⊢
      exact h.blk k' av g g1 g2 g3 g4
  · unfold oKey at g3 g4
    by_cases e : k' = n
    · subst e
      rw [hvd] at g8
      cases g8
    · by_cases e2 : k2 = n
      · subst e2
        rw [hvd]
        intro h9; cases h9
      · rw [hlk k' (by omega) e] at g1
        rw [hlk k2 (by omega) e2] at g2
        rw [hvn k' e] at g8
        rw [hvn k2 e2]
        exact h.disj k' k2 av av' g g1 g2 g3 g4 g5 g6 g7 g8
  · have := U0.hf k' v g1
    rw [hvn k' (by omega)]
    exact h.fix k' v g1
end
end Go.Proofs.Ytglbohajmccehaa
namespace Go.Proofs.Ytglbohajmccehaa
set_option linter.unusedVariables false
set_option linter.unusedSimpArgs false
structure Sc where
  sz : Int
  mp : List (Int × Int)
  sp : Int
  lk : Int
def mfind : List (Int × Int) → Int → Option Int
  | [], _ => none
  | (k, x) :: l, v => if k = v then some x else mfind l v
def mget (l : List (Int × Int)) (v : Int) : Int := (mfind l v).getD 0
def mput : List (Int × Int) → Int → Int → List (Int × Int)
  | [], v, y => [(v, y)]
  | (k, x) :: l, v, y => if k = v then (v, y) :: l else (k, x) :: mput l v y
theorem mput_ne (l : List (Int × Int)) (v y : Int) : mput l v y ≠ [] := by
  cases l with
  | nil => simp [mput]
  | cons p l =>
    obtain ⟨k, x⟩ := p
    rw [mput]
    split <;> simp
theorem mfind_put (l : List (Int × Int)) (v y u : Int) : mfind (mput l v y) u = if v = u then some y else mfind l u := by
  induction l with
  | nil => rfl
  | cons p l ih =>
    obtain ⟨k, x⟩ := p
    rw [mput]
    by_cases h : k = v
    · rw [if_pos h, mfind, mfind]
      by_cases h2 : v = u
      · rw [if_pos h2, if_pos h2]
      · rw [if_neg h2, if_neg h2, if_neg (by omega)]
    · rw [if_neg h, mfind, mfind]
      by_cases h2 : k = u
      · rw [if_pos h2, if_pos h2, if_neg (by omega)]
      · rw [if_neg h2, if_neg h2, ih]
theorem mget_put (l : List (Int × Int)) (v y u : Int) : mget (mput l v y) u = if v = u then y else mget l u := by
  unfold mget
  rw [mfind_put]
  split <;> rfl
def addV (s : Sc) (v σ : Int) : Sc := ⟨s.sz, mput s.mp v (mget s.mp v + σ), s.sp + (max (mget s.mp v + σ) 0 - max (mget s.mp v) 0), s.lk + (max (-(mget s.mp v + σ)) 0 - max (-(mget s.mp v)) 0)⟩
def addN (σ : Int) (s : Sc) (t : Tm) : Sc := if t.f < 0 then addV ⟨s.sz + σ, s.mp, s.sp, s.lk⟩ (-1 - t.f) σ else ⟨s.sz + σ, s.mp, s.sp, s.lk⟩
def addT (σ : Int) (s : Sc) (t : Tm) : Sc := t.flat.foldl (addN σ) s
def addL (σ : Int) (s : Sc) (l : List Tm) : Sc := (l.flatMap Tm.flat).foldl (addN σ) s
theorem addT_var {σ : Int} {s : Sc} {t : Tm} (h : t.f < 0) : addT σ s t = addV ⟨s.sz + σ, s.mp, s.sp, s.lk⟩ (-1 - t.f) σ := by
  unfold addT
  rw [Tm.flat_eq, Tm.ps_of_var h]
  show addN σ s t = _
  unfold addN
  rw [if_pos h]
theorem addT_sym {σ : Int} {s : Sc} {t : Tm} (h : ¬ t.f < 0) : addT σ s t = addL σ ⟨s.sz + σ, s.mp, s.sp, s.lk⟩ t.l := by
  unfold addT addL
  rw [Tm.flat_eq, Tm.ps_of_sym (by omega), List.foldl_cons]
  congr 1
  unfold addN
  rw [if_neg h]
theorem addL_take {σ : Int} {s : Sc} {l : List Tm} {k : Nat} {t : Tm} (h : l[k]? = some t) : addL σ s (l.take (k + 1)) = addT σ (addL σ s (l.take k)) t := by
  unfold addL addT
  rw [List.take_add_one, h, List.flatMap_append, List.foldl_append]
  simp
def upS (l : List (Int × Int)) : Int := (l.map fun p => max p.2 0).sum
def dnS (l : List (Int × Int)) : Int := (l.map fun p => max (-p.2) 0).sum
def ndk (l : List (Int × Int)) : Prop := (l.map (·.1)).Nodup
theorem mfind_none {l : List (Int × Int)} {v : Int} (h : v ∉ l.map (·.1)) : mfind l v = none := by
  induction l with
  | nil => rfl
  | cons p l ih =>
    obtain ⟨k, x⟩ := p
    rw [List.map_cons, List.mem_cons, not_or] at h
    rw [mfind, if_neg (fun e => h.1 e.symm), ih h.2]
theorem keys_put {l : List (Int × Int)} {v y u : Int} (h : u ∈ (mput l v y).map (·.1)) : u = v ∨ u ∈ l.map (·.1) := by
  induction l with
  | nil => simp [mput] at h; exact .inl h
  | cons p l ih =>
    obtain ⟨k, x⟩ := p
    rw [mput] at h
    split at h
    · rename_i e
      rw [List.map_cons, List.mem_cons] at h ⊢
      rcases h with h | h
      · exact .inl h
      · exact .inr (.inr h)
    · rw [List.map_cons, List.mem_cons] at h ⊢
      rcases h with h | h
      · exact .inr (.inl h)
      · rcases ih h with h | h
        · exact .inl h
        · exact .inr (.inr h)
theorem ndk_put {l : List (Int × Int)} (h : ndk l) (v y : Int) : ndk (mput l v y) ∧ upS (mput l v y) = upS l + (max y 0 - max (mget l v) 0) ∧ dnS (mput l v y) = dnS l + (max (-y) 0 - max (-(mget l v)) 0) := by
  induction l with
  | nil => exact ⟨by simp [mput, ndk], by simp [mput, upS, mget, mfind], by simp [mput, dnS, mget, mfind]⟩
  | cons p l ih =>
    obtain ⟨k, x⟩ := p
    unfold ndk at h
    rw [List.map_cons, List.nodup_cons] at h
    rw [mput]
    by_cases e : k = v
    · rw [if_pos e]
      have hg : mget ((k, x) :: l) v = x := by unfold mget mfind; rw [if_pos e]; rfl
      rw [hg]
      refine ⟨by unfold ndk; rw [List.map_cons, List.nodup_cons]; exact e ▸ h, ?_, ?_⟩
      · simp only [upS, List.map_cons, List.sum_cons]; omega
      · simp only [dnS, List.map_cons, List.sum_cons]; omega
    · rw [if_neg e]
      have hg : mget ((k, x) :: l) v = mget l v := by unfold mget; rw [mfind, if_neg e]
      obtain ⟨h1, h2, h3⟩ := ih h.2
      rw [hg]
      refine ⟨?_, ?_, ?_⟩
      · unfold ndk
        rw [List.map_cons, List.nodup_cons]
        refine ⟨fun hm => ?_, h1⟩
        rcases keys_put hm with hm | hm
        · exact e hm
        · exact h.1 hm
      · unfold upS at h2 ⊢; rw [List.map_cons, List.sum_cons, h2, List.map_cons, List.sum_cons]; omega
      · unfold dnS at h3 ⊢; rw [List.map_cons, List.sum_cons, h3, List.map_cons, List.sum_cons]; omega
theorem ups_zero {l : List (Int × Int)} (h : ndk l) : 0 ≤ upS l ∧ (upS l = 0 ↔ ∀ v, mget l v ≤ 0) := by
  induction l with
  | nil => exact ⟨by simp [upS], by simp [upS, mget, mfind]⟩
  | cons p l ih =>
    obtain ⟨k, x⟩ := p
    unfold ndk at h
    rw [List.map_cons, List.nodup_cons] at h
    obtain ⟨h1, h2⟩ := ih h.2
    have e : upS ((k, x) :: l) = max x 0 + upS l := by simp [upS]
    rw [e]
    refine ⟨by omega, ?_⟩
    constructor
    · intro h3 v
      have h4 := h2.1 (by omega) v
      unfold mget at h4 ⊢
      rw [mfind]
      split
      · show x ≤ 0; omega
      · exact h4
    · intro h3
      have hx := h3 k
      unfold mget at hx
      rw [mfind, if_pos rfl] at hx
      have hx : x ≤ 0 := hx
      have := h2.2 fun v => by
        by_cases hv : k = v
        · subst hv
          unfold mget
          rw [mfind_none h.1]
          exact Int.le_refl 0
        · have := h3 v
          unfold mget at this ⊢
          rw [mfind, if_neg hv] at this
          exact this
      omega
theorem dns_zero {l : List (Int × Int)} (h : ndk l) : 0 ≤ dnS l ∧ (dnS l = 0 ↔ ∀ v, 0 ≤ mget l v) := by
  induction l with
  | nil => exact ⟨by simp [dnS], by simp [dnS, mget, mfind]⟩
  | cons p l ih =>
    obtain ⟨k, x⟩ := p
    unfold ndk at h
    rw [List.map_cons, List.nodup_cons] at h
    obtain ⟨h1, h2⟩ := ih h.2
    have e : dnS ((k, x) :: l) = max (-x) 0 + dnS l := by simp [dnS]
    rw [e]
    refine ⟨by omega, ?_⟩
    constructor
    · intro h3 v
      have h4 := h2.1 (by omega) v
      unfold mget at h4 ⊢
      rw [mfind]
      split
      · show 0 ≤ x; omega
      · exact h4
    · intro h3
      have hx := h3 k
      unfold mget at hx
      rw [mfind, if_pos rfl] at hx
      have hx : 0 ≤ x := hx
      have := h2.2 fun v => by
        by_cases hv : k = v
        · subst hv
          unfold mget
          rw [mfind_none h.1]
          exact Int.le_refl 0
        · have := h3 v
          unfold mget at this ⊢
          rw [mfind, if_neg hv] at this
          exact this
      omega
structure Ss (s : Sc) (z : Int) (D : Int → Int) : Prop where
  sz : s.sz = z
  nd : ndk s.mp
  sp : s.sp = upS s.mp
  lk : s.lk = dnS s.mp
  at_ : ∀ v, mget s.mp v = D v
theorem Ss.addV {s : Sc} {z : Int} {D : Int → Int} (h : Ss s z D) (v σ : Int) : Ss (addV s v σ) z (fun u => D u + if v = u then σ else 0) := by
  obtain ⟨h1, h2, h3⟩ := ndk_put h.nd v (mget s.mp v + σ)
  refine ⟨h.sz, h1, ?_, ?_, fun u => ?_⟩
  · show s.sp + _ = upS (mput _ _ _); rw [h2, h.sp]
  · show s.lk + _ = dnS (mput _ _ _); rw [h3, h.lk]
  · show mget (mput _ _ _) u = _
    rw [mget_put]
    split
    · rename_i e; subst e; rw [h.at_]
    · rw [h.at_]; omega
theorem addN_var {σ : Int} {s : Sc} {t : Tm} (h : t.f < 0) : addN σ s t = addV ⟨s.sz + σ, s.mp, s.sp, s.lk⟩ (-1 - t.f) σ := if_pos h
theorem addN_sym {σ : Int} {s : Sc} {t : Tm} (h : ¬ t.f < 0) : addN σ s t = ⟨s.sz + σ, s.mp, s.sp, s.lk⟩ := if_neg h
theorem Ss.fold {σ : Int} : ∀ {l : List Tm} {s : Sc} {z : Int} {D : Int → Int}, Ss s z D → Ss (l.foldl (addN σ) s) (z + σ * l.length) (fun v => D v + σ * ((vsL l).count v : Int))
  | [], s, z, D, h => by
    refine ⟨by show s.sz = _; rw [h.sz]; simp, h.nd, h.sp, h.lk, fun v => ?_⟩
    show mget s.mp v = _
    rw [h.at_]; simp [vsL]
  | t :: l, s, z, D, h => by
    rw [List.foldl_cons]
    have h0 : Ss ⟨s.sz + σ, s.mp, s.sp, s.lk⟩ (z + σ) D := ⟨by show s.sz + σ = _; rw [h.sz], h.nd, h.sp, h.lk, h.at_⟩
    have e1 : σ * ((t :: l).length : Int) = σ + σ * (l.length : Int) := by
      rw [List.length_cons]; push_cast; rw [Int.mul_add]; omega
    by_cases hf : t.f < 0
    · have h1 := (h0.addV (-1 - t.f) σ).fold (σ := σ) (l := l)
      rw [addN_var hf]
      refine ⟨?_, h1.nd, h1.sp, h1.lk, fun v => ?_⟩
      · rw [h1.sz, e1]; omega
      · rw [h1.at_]
        have e2 : (vsL (t :: l)).count v = (if -1 - t.f = v then 1 else 0) + (vsL l).count v := by
          unfold vsL
          rw [List.filter_cons, if_pos (by simpa using hf), List.map_cons, List.count_cons]
          simp only [beq_iff_eq]
          omega
        rw [e2]
        split
        · push_cast; rw [Int.mul_add]; omega
        · push_cast; rw [Int.mul_add]; omega
    · have h1 := h0.fold (σ := σ) (l := l)
      rw [addN_sym hf]
      refine ⟨?_, h1.nd, h1.sp, h1.lk, fun v => ?_⟩
      · rw [h1.sz, e1]; omega
      · rw [h1.at_]
        have e2 : vsL (t :: l) = vsL l := by
          unfold vsL
          rw [List.filter_cons, if_neg (by simpa using hf)]
        rw [e2]
end Go.Proofs.Ytglbohajmccehaa
namespace Go.Proofs.Ytglbohajmccehaa
open Go.RowKit
set_option linter.unusedVariables false
set_option linter.unusedSimpArgs false
set_option maxRecDepth 100000
section
variable {α : Type} (lt : α → α → Bool) (a : Nat)
def sink : Nat → List α → List α
  | 0, L => L
  | j + 1, L => match L[j + 1]?, L[j]? with
    | some x, some y => if a < j + 1 ∧ lt x y = true then sink j ((L.set (j + 1) y).set j x) else L
    | _, _ => L
def isortN : Nat → Nat → List α → List α
  | 0, _, L => L
  | n + 1, i, L => isortN n (i + 1) (sink lt a i L)
end

def ltC (cmp : Bd → Bd → Int) (x y : Bd) : Bool := decide (cmp x y < 0)
theorem cmp_abs (W : World) (x y : Int) : AFun Try.prog W 88 [.i x, .i y] (.val (.i (cmpZ x y))) := by
  refine ⟨ent_of Try.func88 rfl rfl, .inl rfl, rfl, ?_⟩
  rintro U w vs hW ⟨u1, us1, rfl, h1, u2, us2, rfl, h2, h3⟩
  have h3 : us2 = [] := h3
  subst h3
  obtain ⟨rfl, _⟩ := vrep_sc.1 h1
  obtain ⟨rfl, _⟩ := vrep_sc.1 h2
  refine (cmpInt_any x y w).mono ?_
  rintro e w' ⟨rfl, hb⟩
  exact ⟨_, rfl, vrep_sc.2 ⟨rfl, rfl⟩, hb⟩

def cmpB (x y : Bd) : Int := cmpZ x.v y.v
def idleB (b : Bd) : Bool := decide (b.t.f < 0) && decide (-1 - b.t.f = b.v)
def idxB (q : Bd → Bool) : List Bd → Nat → Int
  | [], _ => -1
  | b :: l, i => if q b then (i : Int) else idxB q l (i + 1)
noncomputable def mrv (p : Int × Int) : CV := .row [.i p.1, .i p.2]
theorem mr_keys (l : List (Int × Int)) : IntKeys .i64 (l.map mrv) := fun r hr => by
  obtain ⟨p, _, rfl⟩ := List.mem_map.1 hr
  exact ⟨p.1, .i p.2, rfl⟩
theorem mr_look (l : List (Int × Int)) (v : Int) : lookR .i64 v (l.map mrv) = (mfind l v).map CV.i := by
  induction l with
  | nil => rfl
  | cons p l ih =>
    obtain ⟨k, x⟩ := p
    rw [List.map_cons, mrv, lookR_row, mfind]
    split
    · rfl
    · exact ih
theorem mr_get (l : List (Int × Int)) (v : Int) : (lookR .i64 v (l.map mrv)).getD (.sc (.int .i64 0)) = .i (mget l v) := by
  rw [mr_look]
  unfold mget
  cases mfind l v <;> rfl
theorem mr_put (l : List (Int × Int)) (v y : Int) : putR .i64 v (.i y) (l.map mrv) = (mput l v y).map mrv := by
  induction l with
  | nil => rfl
  | cons p l ih =>
    obtain ⟨k, x⟩ := p
    rw [List.map_cons, mrv, putR_row, mput]
    split
    · rfl
    · rw [List.map_cons, ih]; rfl
noncomputable def mB (l : List (Int × Int)) : AV := ⟨if l = [] then 17 else 14, .lst (l.map mrv), 0, 0, []⟩
noncomputable abbrev sst (s : Sc) : AS := [(450001, .obj), (35500100, .val (.i s.sz)), (35500101, .mref 300001), (35500102, .val (.i s.sp)), (35500103, .val (.i s.lk)), (300001, mB s.mp)]
noncomputable abbrev sstN (z p k : Int) : AS := [(450001, .obj), (35500100, .val (.i z)), (35500101, .mref 300001), (35500102, .val (.i p)), (35500103, .val (.i k)), (300001, .nmap)]
noncomputable abbrev sstM (z : Int) (l : List (Int × Int)) (p k : Int) : AS := [(450001, .obj), (35500100, .val (.i z)), (35500101, .mref 300001), (35500102, .val (.i p)), (35500103, .val (.i k)), (300001, .mp (l.map mrv))]
theorem sst_N {s : Sc} (h : s.mp = []) : sst s = sstN s.sz s.sp s.lk := by simp only [sst, mB, h, if_true]; rfl
theorem sst_M {s : Sc} (h : s.mp ≠ []) : sst s = sstM s.sz s.mp s.sp s.lk := by simp only [sst, mB, if_neg h]
theorem sst_lend (s : Sc) : (sst s).all lendB = true := by
  by_cases h : s.mp = []
  · rw [sst_N h]; kernel_rfl
  · rw [sst_M h]; kernel_rfl
theorem sst_leave (s : Sc) : (sst s).all (leaveB (kO (sst s))) = true := by
  by_cases h : s.mp = []
  · rw [sst_N h]; kernel_rfl
  · rw [sst_M h]; kernel_rfl
structure Bds (s : Sc) (n : Nat) : Prop where
  sz : -(n : Int) ≤ s.sz ∧ s.sz ≤ n
  sp : -(n : Int) ≤ s.sp ∧ s.sp ≤ n
  lk : -(n : Int) ≤ s.lk ∧ s.lk ≤ n
  at_ : ∀ v, -(n : Int) ≤ mget s.mp v ∧ mget s.mp v ≤ n
theorem Bds.node {s : Sc} {n : Nat} {σ : Int} (h : Bds s n) (hσ : σ = 1 ∨ σ = -1) (t : Tm) : Bds (addN σ s t) (n + 1) := by
  obtain ⟨h1, h2, h3, h4⟩ := h
  unfold addN
  split
  · unfold addV
    have := h4 (-1 - t.f)
    refine ⟨by show _ ≤ s.sz + σ ∧ s.sz + σ ≤ _; omega, by simp only; omega, by simp only; omega, fun v => ?_⟩
    simp only
    rw [mget_put]
    have := h4 v
    split <;> omega
  · exact ⟨by show _ ≤ s.sz + σ ∧ s.sz + σ ≤ _; omega, by simp only; omega, by simp only; omega, fun v => by have := h4 v; simp only; omega⟩
theorem Bds.fold {σ : Int} (hσ : σ = 1 ∨ σ = -1) : ∀ {l : List Tm} {s : Sc} {n : Nat}, Bds s n → Bds (l.foldl (addN σ) s) (n + l.length)
  | [], s, n, h => h
  | t :: l, s, n, h => by
    rw [List.foldl_cons, List.length_cons, show n + (l.length + 1) = n + 1 + l.length by omega]
    exact (h.node hσ t).fold hσ
theorem Bds.addL {σ : Int} (hσ : σ = 1 ∨ σ = -1) {l : List Tm} {s : Sc} {n : Nat} (h : Bds s n) : Bds (addL σ s l) (n + (l.flatMap Tm.flat).length) := h.fold hσ
theorem Bds.addT {σ : Int} (hσ : σ = 1 ∨ σ = -1) {t : Tm} {s : Sc} {n : Nat} (h : Bds s n) : Bds (addT σ s t) (n + t.size) := h.fold hσ

-- 
theorem kIsVar_abs (W : World) (t : Tm) : AFun Try.prog W 85 [t.cw] (.val (.b (decide (t.f < 0)))) := by
  refine afun_of (rs := [.b (decide (t.f < 0))]) Try.func85 Try.ntmps85 rfl rfl rfl rfl ?_
  intro w U hW
  refine aS (aR ?_)
  (refine nx (a_box (gN rfl) rfl rfl rfl rfl rfl) rfl ?_)
  (refine nx (aA (gN rfl) rfl rfl rfl rfl rfl) rfl ?_)
  show AWp _ _ _ _ _ _ _
  refine aS (aR ?_)
  (refine nx (aF (gN rfl) rfl rfl rfl rfl rfl rfl rfl rfl rfl) rfl ?_)
  (refine nx (aLb (gN rfl) rfl rfl rfl rfl rfl rfl rfl rfl rfl rfl rfl rfl) rfl ?_)
  (refine nx (a_lss (gN rfl) rfl rfl rfl rfl rfl rfl) rfl ?_)
  (refine nx (aA (gN rfl) rfl rfl rfl rfl rfl) rfl ?_)
  show AWp _ _ _ _ _ _ _
  exact aT ⟨.inr rfl, rfl⟩
-- 
theorem kNumber_abs (W : World) (t : Tm) (h1 : -9223372036854775808 ≤ t.f) (h2 : t.f < 0) : AFun Try.prog W 87 [t.cw] (.val (.i (-1 - t.f))) := by
  refine afun_of (rs := [.i (-1 - t.f)]) Try.func87 Try.ntmps87 rfl rfl rfl rfl ?_
  intro w U hW
  refine aS (aR ?_)
  (refine nx (a_box (gN rfl) rfl rfl rfl rfl rfl) rfl ?_)
  (refine nx (aA (gN rfl) rfl rfl rfl rfl rfl) rfl ?_)
  show AWp _ _ _ _ _ _ _
  refine aS (aR ?_)
  (refine nx (aF (gN rfl) rfl rfl rfl rfl rfl rfl rfl rfl rfl) rfl ?_)
  (refine nx (aLb (gN rfl) rfl rfl rfl rfl rfl rfl rfl rfl rfl rfl rfl rfl) rfl ?_)
  (refine nx (a_sub (gN rfl) rfl rfl rfl rfl rfl rfl (by first | omega | (simp only [List.length_map, List.length_append, List.length_cons, List.length_nil] <;> omega) | (simp <;> omega))) rfl ?_)
  (refine nx (aA (gN rfl) rfl rfl rfl rfl rfl) rfl ?_)
  show AWp _ _ _ _ _ _ _
  exact aT ⟨.inr rfl, rfl⟩
-- 
theorem kParts_abs (W : World) (t : Tm) : AFun Try.prog W 71 [t.cw] (.val (.lst (t.ps.map Tm.cv))) := by
  refine afun_of (rs := [.lst (t.ps.map Tm.cv)]) Try.func71 Try.ntmps71 rfl rfl rfl rfl ?_
  intro w U hW
  refine aS (aR ?_)
  (refine nx (a_box (gN rfl) rfl rfl rfl rfl rfl) rfl ?_)
  (refine nx (aA (gN rfl) rfl rfl rfl rfl rfl) rfl ?_)
  show AWp _ _ _ _ _ _ _
  refine aS (aS (aR ?_))
  (refine nx (aL (gN rfl) rfl rfl rfl rfl rfl rfl rfl rfl rfl rfl rfl rfl) rfl ?_)
  (refine nx (a_call (gN rfl) rfl rfl rfl rfl rfl (kIsVar_abs w t)) rfl ?_)
  show AWp _ _ _ _ _ _ _
  refine aC rfl (fun hc => ?_) (fun hc => ?_)
  · have hf : t.f < 0 := by simpa using hc
    rw [Tm.ps_of_var hf]
    refine aS (aR ?_)
    (refine nx (aA (gN rfl) rfl rfl rfl rfl rfl) rfl ?_)
    show AWp _ _ _ _ _ _ _
    exact aT ⟨.inr rfl, rfl⟩
  · have hf : ¬ t.f < 0 := by simpa using hc
    rw [Tm.ps_of_sym (by omega)]
    refine aK ?_
    show AWp _ _ _ _ _ _ _
    refine aS (aR ?_)
    (refine nx (aF (gN rfl) rfl rfl rfl rfl rfl rfl rfl rfl rfl) rfl ?_)
    (refine nx (aLb (gN rfl) rfl rfl rfl rfl rfl rfl rfl rfl rfl rfl rfl rfl) rfl ?_)
    (refine nx (aA (gN rfl) rfl rfl rfl rfl rfl) rfl ?_)
    show AWp _ _ _ _ _ _ _
    exact aT ⟨.inr rfl, rfl⟩
-- 
theorem kAddVarN_abs (s : Sc) (n : Nat) (hb : Bds s n) (hn : n ≤ 1000000000000) (v σ : Int) (hσ : σ = 1 ∨ σ = -1) (hm : s.mp = []) : AFunO Try.prog 86 (sstN s.sz s.sp s.lk) [.bp 350001 0 [], .val (.i v), .val (.i σ)] (.tup []) (sstM s.sz (addV s v σ).mp (addV s v σ).sp (addV s v σ).lk) := by
  have hb2 := hb.sp
  have hb3 := hb.lk
  have hb4 := hb.at_ v
  have hg : mget [] v = mget s.mp v := by rw [hm]
  obtain ⟨was, hwas⟩ : ∃ was, was = mget s.mp v := ⟨_, rfl⟩
  rw [← hwas] at hb4
  refine afunO_of Try.func86 Try.ntmps86 rfl rfl rfl rfl rfl rfl ?_
  intro w U hU
  refine aS (aS (aR ?_))
  (refine nx (aM (gN rfl) rfl rfl rfl rfl rfl) rfl ?_)
  (refine nx (aNc (gN rfl) rfl rfl rfl rfl rfl) rfl ?_)
  (refine nx (aF (gN rfl) rfl rfl rfl rfl rfl rfl rfl rfl rfl) rfl ?_)
  (refine nx (aLf (gN rfl) rfl rfl rfl rfl rfl rfl rfl rfl rfl rfl rfl rfl rfl) rfl ?_)
  (refine nx (a_mref_isnil (gN rfl) rfl rfl rfl rfl rfl rfl rfl) rfl ?_)
  show AWp _ _ _ _ _ _ _
  refine aC rfl (fun hc => ?_) (fun hc => by cases hc)
  refine aR ?_
  (refine nx (aM (gN rfl) rfl rfl rfl rfl rfl) rfl ?_)
  (refine nx (a_mkmap 300002 (gN rfl) rfl rfl rfl rfl rfl) (by kernel_rfl) ?_)
  (refine nx (aNc (gN rfl) rfl rfl rfl rfl rfl) rfl ?_)
  (refine nx (aF (gN rfl) rfl rfl rfl rfl rfl rfl rfl rfl rfl) rfl ?_)
  (refine nx (a_store_fld (gN rfl) rfl rfl rfl rfl rfl rfl rfl rfl rfl rfl rfl rfl) rfl ?_)
  show AWp _ _ _ _ _ _ _
  refine aS (aR ?_)
  (refine nx (aM (gN rfl) rfl rfl rfl rfl rfl) rfl ?_)
  (refine nx (aNc (gN rfl) rfl rfl rfl rfl rfl) rfl ?_)
  (refine nx (aF (gN rfl) rfl rfl rfl rfl rfl rfl rfl rfl rfl) rfl ?_)
  (refine nx (aLf (gN rfl) rfl rfl rfl rfl rfl rfl rfl rfl rfl rfl rfl rfl rfl) rfl ?_)
  (refine nx (aM (gN rfl) rfl rfl rfl rfl rfl) rfl ?_)
  (refine nx (a_lookup1 (gN rfl) rfl rfl rfl rfl rfl rfl rfl rfl rfl rfl rfl ( mr_keys [])) rfl ?_)
  (refine nx (aA (gN rfl) rfl rfl rfl rfl rfl) rfl ?_)
  show AWp _ _ _ _ _ _ _
  refine AWp.wk (wk_sub (s' := [(0, AV.bp 350001 0 []), (1, .val (.i v)), (2, .val (.i σ)), (6, .val (.i was)), (450001, .obj), (35500100, .val (.i s.sz)), (35500101, .mref 300002), (35500102, .val (.i s.sp)), (35500103, .val (.i s.lk)), (300002, .mp (([] : List (Int × Int)).map mrv))]) ⟨rfl, rfl, rfl, ?_, rfl, rfl, rfl, rfl, rfl, rfl, trivial⟩) ?_
  · rw [hwas, ← hg]; rfl
  refine aS (aR ?_)
  (refine nx (aM (gN rfl) rfl rfl rfl rfl rfl) rfl ?_)
  (refine nx (aM (gN rfl) rfl rfl rfl rfl rfl) rfl ?_)
  (refine nx (a_add (gN rfl) rfl rfl rfl rfl rfl rfl (by first | omega | (simp only [List.length_map, List.length_append, List.length_cons, List.length_nil] <;> omega) | (simp <;> omega))) rfl ?_)
  (refine nx (aA (gN rfl) rfl rfl rfl rfl rfl) rfl ?_)
  show AWp _ _ _ _ _ _ _
  refine aS (aR ?_)
  (refine nx (aM (gN rfl) rfl rfl rfl rfl rfl) rfl ?_)
  (refine nx (aNc (gN rfl) rfl rfl rfl rfl rfl) rfl ?_)
  (refine nx (aF (gN rfl) rfl rfl rfl rfl rfl rfl rfl rfl rfl) rfl ?_)
  (refine nx (aLf (gN rfl) rfl rfl rfl rfl rfl rfl rfl rfl rfl rfl rfl rfl rfl) rfl ?_)
  (refine nx (aM (gN rfl) rfl rfl rfl rfl rfl) rfl ?_)
  (refine nx (aM (gN rfl) rfl rfl rfl rfl rfl) rfl ?_)
  (refine nx (a_mapup (gN rfl) rfl rfl rfl rfl rfl rfl rfl rfl (mr_keys [])) rfl ?_)
  show AWp _ _ _ _ _ _ _
  refine aS (aR ?_)
  (refine nx (aM (gN rfl) rfl rfl rfl rfl rfl) rfl ?_)
  (refine nx (aNc (gN rfl) rfl rfl rfl rfl rfl) rfl ?_)
  (refine nx (aF (gN rfl) rfl rfl rfl rfl rfl rfl rfl rfl rfl) rfl ?_)
  (refine nx (aLf (gN rfl) rfl rfl rfl rfl rfl rfl rfl rfl rfl rfl rfl rfl rfl) rfl ?_)
  (refine nx (aM (gN rfl) rfl rfl rfl rfl rfl) rfl ?_)
  (refine nx (a_max (gN rfl) rfl rfl rfl rfl rfl rfl) rfl ?_)
  (refine nx (aM (gN rfl) rfl rfl rfl rfl rfl) rfl ?_)
  (refine nx (a_max (gN rfl) rfl rfl rfl rfl rfl rfl) rfl ?_)
  (refine nx (a_sub (gN rfl) rfl rfl rfl rfl rfl rfl (by first | omega | (simp only [List.length_map, List.length_append, List.length_cons, List.length_nil] <;> omega) | (simp <;> omega))) rfl ?_)
  (refine nx (a_add (gN rfl) rfl rfl rfl rfl rfl rfl (by first | omega | (simp only [List.length_map, List.length_append, List.length_cons, List.length_nil] <;> omega) | (simp <;> omega))) rfl ?_)
  (refine nx (aNc (gN rfl) rfl rfl rfl rfl rfl) rfl ?_)
  (refine nx (aF (gN rfl) rfl rfl rfl rfl rfl rfl rfl rfl rfl) rfl ?_)
  (refine nx (a_store_fld (gN rfl) rfl rfl rfl rfl rfl rfl rfl rfl rfl rfl rfl rfl) rfl ?_)
  show AWp _ _ _ _ _ _ _
  refine aR ?_
  (refine nx (aM (gN rfl) rfl rfl rfl rfl rfl) rfl ?_)
  (refine nx (aNc (gN rfl) rfl rfl rfl rfl rfl) rfl ?_)
  (refine nx (aF (gN rfl) rfl rfl rfl rfl rfl rfl rfl rfl rfl) rfl ?_)
  (refine nx (aLf (gN rfl) rfl rfl rfl rfl rfl rfl rfl rfl rfl rfl rfl rfl rfl) rfl ?_)
  (refine nx (aM (gN rfl) rfl rfl rfl rfl rfl) rfl ?_)
  (refine nx (a_neg (gN rfl) rfl rfl rfl rfl rfl (by first | omega | (constructor <;> omega))) rfl ?_)
  (refine nx (a_max (gN rfl) rfl rfl rfl rfl rfl rfl) rfl ?_)
  (refine nx (aM (gN rfl) rfl rfl rfl rfl rfl) rfl ?_)
  (refine nx (a_neg (gN rfl) rfl rfl rfl rfl rfl (by first | omega | (constructor <;> omega))) rfl ?_)
  (refine nx (a_max (gN rfl) rfl rfl rfl rfl rfl rfl) rfl ?_)
  (refine nx (a_sub (gN rfl) rfl rfl rfl rfl rfl rfl (by first | omega | (simp only [List.length_map, List.length_append, List.length_cons, List.length_nil] <;> omega) | (simp <;> omega))) rfl ?_)
  (refine nx (a_add (gN rfl) rfl rfl rfl rfl rfl rfl (by first | omega | (simp only [List.length_map, List.length_append, List.length_cons, List.length_nil] <;> omega) | (simp <;> omega))) rfl ?_)
  (refine nx (aNc (gN rfl) rfl rfl rfl rfl rfl) rfl ?_)
  (refine nx (aF (gN rfl) rfl rfl rfl rfl rfl rfl rfl rfl rfl) rfl ?_)
  (refine nx (a_store_fld (gN rfl) rfl rfl rfl rfl rfl rfl rfl rfl rfl rfl rfl rfl) rfl ?_)
  refine ⟨.inl rfl, _, (wk_sub (s' := [(450001, .obj), (35500100, .val (.i s.sz)), (35500101, .mref 300002), (35500102, .val (.i (addV s v σ).sp)), (35500103, .val (.i (addV s v σ).lk)), (300002, .mp ((addV s v σ).mp.map mrv))]) ⟨rfl, rfl, rfl, ?_, ?_, ?_, trivial⟩).trans (wk_ren 300002 300001 rfl rfl (by kernel_rfl) (by kernel_rfl)), rfl, rfl, rfl, rfl, rfl, rfl, rfl, trivial⟩
  · unfold addV; rw [← hwas]; rfl
  · unfold addV; rw [← hwas]; rfl
  · unfold addV
    simp only
    rw [← hwas, hm, ← mr_put]
    rfl
-- 
theorem kAddVarM_abs (s : Sc) (n : Nat) (hb : Bds s n) (hn : n ≤ 1000000000000) (v σ : Int) (hσ : σ = 1 ∨ σ = -1) : AFunO Try.prog 86 (sstM s.sz s.mp s.sp s.lk) [.bp 350001 0 [], .val (.i v), .val (.i σ)] (.tup []) (sstM s.sz (addV s v σ).mp (addV s v σ).sp (addV s v σ).lk) := by
  have hb2 := hb.sp
  have hb3 := hb.lk
  have hb4 := hb.at_ v
  obtain ⟨was, hwas⟩ : ∃ was, was = mget s.mp v := ⟨_, rfl⟩
  rw [← hwas] at hb4
  refine afunO_of Try.func86 Try.ntmps86 rfl rfl rfl rfl rfl rfl ?_
  intro w U hU
  refine aS (aS (aR ?_))
  (refine nx (aM (gN rfl) rfl rfl rfl rfl rfl) rfl ?_)
  (refine nx (aNc (gN rfl) rfl rfl rfl rfl rfl) rfl ?_)
  (refine nx (aF (gN rfl) rfl rfl rfl rfl rfl rfl rfl rfl rfl) rfl ?_)
  (refine nx (aLf (gN rfl) rfl rfl rfl rfl rfl rfl rfl rfl rfl rfl rfl rfl rfl) rfl ?_)
  (refine nx (a_mref_nil (gN rfl) rfl rfl rfl rfl rfl rfl rfl) rfl ?_)
  show AWp _ _ _ _ _ _ _
  refine aC rfl (fun hc => by cases hc) (fun hc => ?_)
  refine aK ?_
  show AWp _ _ _ _ _ _ _
  refine aS (aR ?_)
  (refine nx (aM (gN rfl) rfl rfl rfl rfl rfl) rfl ?_)
  (refine nx (aNc (gN rfl) rfl rfl rfl rfl rfl) rfl ?_)
  (refine nx (aF (gN rfl) rfl rfl rfl rfl rfl rfl rfl rfl rfl) rfl ?_)
  (refine nx (aLf (gN rfl) rfl rfl rfl rfl rfl rfl rfl rfl rfl rfl rfl rfl rfl) rfl ?_)
  (refine nx (aM (gN rfl) rfl rfl rfl rfl rfl) rfl ?_)
  (refine nx (a_lookup1 (gN rfl) rfl rfl rfl rfl rfl rfl rfl rfl rfl rfl rfl ( mr_keys _)) rfl ?_)
  (refine nx (aA (gN rfl) rfl rfl rfl rfl rfl) rfl ?_)
  show AWp _ _ _ _ _ _ _
  refine AWp.wk (wk_sub (s' := [(0, AV.bp 350001 0 []), (1, .val (.i v)), (2, .val (.i σ)), (6, .val (.i was)), (450001, .obj), (35500100, .val (.i s.sz)), (35500101, .mref 300001), (35500102, .val (.i s.sp)), (35500103, .val (.i s.lk)), (300001, .mp (s.mp.map mrv))]) ⟨rfl, rfl, rfl, ?_, rfl, rfl, rfl, rfl, rfl, rfl, trivial⟩) ?_
  · rw [hwas, ← mr_get]; rfl
  refine aS (aR ?_)
  (refine nx (aM (gN rfl) rfl rfl rfl rfl rfl) rfl ?_)
  (refine nx (aM (gN rfl) rfl rfl rfl rfl rfl) rfl ?_)
  (refine nx (a_add (gN rfl) rfl rfl rfl rfl rfl rfl (by first | omega | (simp only [List.length_map, List.length_append, List.length_cons, List.length_nil] <;> omega) | (simp <;> omega))) rfl ?_)
  (refine nx (aA (gN rfl) rfl rfl rfl rfl rfl) rfl ?_)
  show AWp _ _ _ _ _ _ _
  refine aS (aR ?_)
  (refine nx (aM (gN rfl) rfl rfl rfl rfl rfl) rfl ?_)
  (refine nx (aNc (gN rfl) rfl rfl rfl rfl rfl) rfl ?_)
  (refine nx (aF (gN rfl) rfl rfl rfl rfl rfl rfl rfl rfl rfl) rfl ?_)
  (refine nx (aLf (gN rfl) rfl rfl rfl rfl rfl rfl rfl rfl rfl rfl rfl rfl rfl) rfl ?_)
  (refine nx (aM (gN rfl) rfl rfl rfl rfl rfl) rfl ?_)
  (refine nx (aM (gN rfl) rfl rfl rfl rfl rfl) rfl ?_)
  (refine nx (a_mapup (gN rfl) rfl rfl rfl rfl rfl rfl rfl rfl (mr_keys _)) rfl ?_)
  show AWp _ _ _ _ _ _ _
  refine aS (aR ?_)
  (refine nx (aM (gN rfl) rfl rfl rfl rfl rfl) rfl ?_)
  (refine nx (aNc (gN rfl) rfl rfl rfl rfl rfl) rfl ?_)
  (refine nx (aF (gN rfl) rfl rfl rfl rfl rfl rfl rfl rfl rfl) rfl ?_)
  (refine nx (aLf (gN rfl) rfl rfl rfl rfl rfl rfl rfl rfl rfl rfl rfl rfl rfl) rfl ?_)
  (refine nx (aM (gN rfl) rfl rfl rfl rfl rfl) rfl ?_)
  (refine nx (a_max (gN rfl) rfl rfl rfl rfl rfl rfl) rfl ?_)
  (refine nx (aM (gN rfl) rfl rfl rfl rfl rfl) rfl ?_)
  (refine nx (a_max (gN rfl) rfl rfl rfl rfl rfl rfl) rfl ?_)
  (refine nx (a_sub (gN rfl) rfl rfl rfl rfl rfl rfl (by first | omega | (simp only [List.length_map, List.length_append, List.length_cons, List.length_nil] <;> omega) | (simp <;> omega))) rfl ?_)
  (refine nx (a_add (gN rfl) rfl rfl rfl rfl rfl rfl (by first | omega | (simp only [List.length_map, List.length_append, List.length_cons, List.length_nil] <;> omega) | (simp <;> omega))) rfl ?_)
  (refine nx (aNc (gN rfl) rfl rfl rfl rfl rfl) rfl ?_)
  (refine nx (aF (gN rfl) rfl rfl rfl rfl rfl rfl rfl rfl rfl) rfl ?_)
  (refine nx (a_store_fld (gN rfl) rfl rfl rfl rfl rfl rfl rfl rfl rfl rfl rfl rfl) rfl ?_)
  show AWp _ _ _ _ _ _ _
  refine aR ?_
  (refine nx (aM (gN rfl) rfl rfl rfl rfl rfl) rfl ?_)
  (refine nx (aNc (gN rfl) rfl rfl rfl rfl rfl) rfl ?_)
  (refine nx (aF (gN rfl) rfl rfl rfl rfl rfl rfl rfl rfl rfl) rfl ?_)
  (refine nx (aLf (gN rfl) rfl rfl rfl rfl rfl rfl rfl rfl rfl rfl rfl rfl rfl) rfl ?_)
  (refine nx (aM (gN rfl) rfl rfl rfl rfl rfl) rfl ?_)
  (refine nx (a_neg (gN rfl) rfl rfl rfl rfl rfl (by first | omega | (constructor <;> omega))) rfl ?_)
  (refine nx (a_max (gN rfl) rfl rfl rfl rfl rfl rfl) rfl ?_)
  (refine nx (aM (gN rfl) rfl rfl rfl rfl rfl) rfl ?_)
  (refine nx (a_neg (gN rfl) rfl rfl rfl rfl rfl (by first | omega | (constructor <;> omega))) rfl ?_)
  (refine nx (a_max (gN rfl) rfl rfl rfl rfl rfl rfl) rfl ?_)
  (refine nx (a_sub (gN rfl) rfl rfl rfl rfl rfl rfl (by first | omega | (simp only [List.length_map, List.length_append, List.length_cons, List.length_nil] <;> omega) | (simp <;> omega))) rfl ?_)
  (refine nx (a_add (gN rfl) rfl rfl rfl rfl rfl rfl (by first | omega | (simp only [List.length_map, List.length_append, List.length_cons, List.length_nil] <;> omega) | (simp <;> omega))) rfl ?_)
  (refine nx (aNc (gN rfl) rfl rfl rfl rfl rfl) rfl ?_)
  (refine nx (aF (gN rfl) rfl rfl rfl rfl rfl rfl rfl rfl rfl) rfl ?_)
  (refine nx (a_store_fld (gN rfl) rfl rfl rfl rfl rfl rfl rfl rfl rfl rfl rfl rfl) rfl ?_)
  refine ⟨.inl rfl, _, (wk_sub (s' := sstM s.sz (addV s v σ).mp (addV s v σ).sp (addV s v σ).lk) ⟨rfl, rfl, rfl, ?_, ?_, ?_, trivial⟩), rfl, rfl, rfl, rfl, rfl, rfl, rfl, trivial⟩
  · unfold addV; rw [← hwas]; rfl
  · unfold addV; rw [← hwas]; rfl
  · unfold addV
    simp only
    rw [← hwas, ← mr_put]
    rfl
theorem kAddVar_abs (s : Sc) (n : Nat) (hb : Bds s n) (hn : n ≤ 1000000000000) (v σ : Int) (hσ : σ = 1 ∨ σ = -1) : AFunO Try.prog 86 (sst s) [.bp 350001 0 [], .val (.i v), .val (.i σ)] (.tup []) (sst (addV s v σ)) := by
  rw [sst_M (s := addV s v σ) (mput_ne _ _ _)]
  by_cases h : s.mp = []
  · rw [sst_N h]; exact kAddVarN_abs s n hb hn v σ hσ h
  · rw [sst_M h]; exact kAddVarM_abs s n hb hn v σ hσ
def KAdd (σ : Int) (t : Tm) : Prop := ∀ (s : Sc) (n : Nat), Bds s n → n + t.size ≤ 1000000000000 → AFunO Try.prog 72 (sst s) [.bp 350001 0 [], .val t.cw, .val (.i σ)] (.tup []) (sst (addT σ s t))
-- 
theorem kAddAll_of (σ : Int) (hσ : σ = 1 ∨ σ = -1) (l : List Tm) (hl : l.length ≤ 1000000000000) (ih : ∀ t ∈ l, KAdd σ t) (s : Sc) (n : Nat) (hb : Bds s n) (hn : n + (l.flatMap Tm.flat).length ≤ 1000000000000) : AFunO Try.prog 75 (sst s) [.bp 350001 0 [], .val (.lst (l.map Tm.cv)), .val (.i σ)] (.tup []) (sst (addL σ s l)) := by
  have hsz := Tm.size_all l
  refine afunO_of Try.func75 Try.ntmps75 rfl rfl rfl rfl rfl rfl ?_
  intro w U hU
  refine aS (aR ?_)
  (refine nx (aM (gN rfl) rfl rfl rfl rfl rfl) rfl ?_)
  (refine nx (a_len (gN rfl) rfl rfl rfl rfl rfl rfl rfl) rfl ?_)
  (refine nx (aM (gN rfl) rfl rfl rfl rfl rfl) rfl ?_)
  show AWp _ _ _ _ _ _ _
  refine aB (awp_count l.length (fun k => (0, .bp 350001 0 []) :: (2, .val (.i σ)) :: (8, .val (.lst (l.map Tm.cv))) :: (9, .val (.i (l.map Tm.cv).length)) :: (10, .val (.i k)) :: sst (addL σ s (l.take k))) (wk_sub ⟨rfl, rfl, rfl, rfl, rfl, rfl, rfl, rfl, rfl, rfl, rfl, trivial⟩) ?_)
  intro k hk
  refine aS (aR ?_)
  (refine nx (a_lss (gN rfl) rfl rfl rfl rfl rfl rfl) rfl ?_)
  show AWp _ _ _ _ _ _ _
  refine aS (aC rfl (fun hlt => ?_) (fun hlt => ?_))
  · have hkl : k < l.length := by simpa using hlt
    obtain ⟨x, hx⟩ : ∃ x, l[k]? = some x := ⟨l[k], List.getElem?_eq_getElem hkl⟩
    have hx' := Tm.map_at hx
    have hxm := List.mem_of_getElem? hx
    obtain ⟨sk, hsk⟩ : ∃ sk, sk = addL σ s (l.take k) := ⟨_, rfl⟩
    have hbk : Bds sk (n + ((l.take k).flatMap Tm.flat).length) := by rw [hsk]; exact hb.addL hσ
    have hnk : n + ((l.take k).flatMap Tm.flat).length + x.size ≤ 1000000000000 := by
      have h2 : (l.flatMap Tm.flat).length = ((l.take k).flatMap Tm.flat).length + ((l.drop k).flatMap Tm.flat).length := by
        conv => lhs; rw [← List.take_append_drop k l]
        rw [List.flatMap_append, List.length_append]
      have h3 : x.flat.length ≤ ((l.drop k).flatMap Tm.flat).length := flatMap_len_mem Tm.flat (List.mem_of_getElem? (i := 0) (by rw [List.getElem?_drop]; simpa using hx))
      unfold Tm.size
      omega
    have hstep := addL_take (σ := σ) (s := s) hx
    rw [← hsk] at hstep
    rw [← hsk]
    refine aK ?_
    show AWp _ _ _ _ _ _ _
    refine aS (aB (aS (aR ?_)))
    (refine nx (a_index (j := k) (gN rfl) rfl rfl rfl rfl rfl rfl rfl rfl rfl (hx') rfl (hsz)) rfl ?_)
    (refine nx (a_load_ad (gN rfl) rfl rfl rfl rfl rfl rfl rfl rfl rfl) rfl ?_)
    (refine nx (a_alloc (gN rfl) rfl rfl rfl rfl rfl rfl rfl rfl rfl rfl) (by kernel_rfl) ?_)
    (refine nx (aSt (gN rfl) rfl rfl rfl rfl rfl rfl rfl rfl rfl rfl) rfl ?_)
    show AWp _ _ _ _ _ _ _
    refine aR ?_
    (refine nx (aM (gN rfl) rfl rfl rfl rfl rfl) rfl ?_)
    (refine nx (aL (gN rfl) rfl rfl rfl rfl rfl rfl rfl rfl rfl rfl rfl rfl) rfl ?_)
    (refine nx (aM (gN rfl) rfl rfl rfl rfl rfl) rfl ?_)
    (refine nx (a_callO (gN rfl) rfl rfl rfl rfl rfl (ih x hxm sk _ hbk hnk) (by repeat (first | exact trivial | refine ⟨rfl, ?_⟩)) (sst_lend _) (sst_leave _) (by first | rfl | kernel_rfl) (by first | rfl | kernel_rfl) (hnb_of (by first | rfl | kernel_rfl))) rfl ?_)
    show AWp _ _ _ _ _ _ _
    refine aR ?_
    (refine nx (a_add (gN rfl) rfl rfl rfl rfl rfl rfl (by first | omega | (simp only [List.length_map, List.length_append, List.length_cons, List.length_nil] <;> omega) | (simp <;> omega))) rfl ?_)
    (refine nx (aM (gN rfl) rfl rfl rfl rfl rfl) rfl ?_)
    refine ⟨hkl, wk_sub ⟨rfl, rfl, rfl, rfl, rfl, rfl, ?_, rfl, ?_, ?_, ?_, trivial⟩⟩
    all_goals (rw [hstep]; rfl)
  · have hkl : k = l.length := by
      have : ¬ k < l.length := by simpa using hlt
      omega
    subst hkl
    rw [List.take_length]
    refine aE ?_
    exact ⟨.inl rfl, _, Wk.refl _, rfl, rfl, rfl, rfl, rfl, rfl, rfl, trivial⟩
-- 
theorem kAdd_abs (σ : Int) (hσ : σ = 1 ∨ σ = -1) : ∀ t : Tm, t.rng → t.ok → KAdd σ t := by
  intro t
  induction t using Tm.ind with
  | h f l ih =>
  intro hr hok s n hb hn
  have hok := (Tm.ok_iff _).1 hok
  have hr := (Tm.rng_iff _).1 hr
  simp only at hok hr
  have hb1 := hb.sz
  have hsp := Tm.size_pos ⟨f, l⟩
  refine afunO_of Try.func72 Try.ntmps72 rfl rfl rfl rfl rfl rfl ?_
  intro w U hU
  refine aS (aR ?_)
  (refine nx (a_box (gN rfl) rfl rfl rfl rfl rfl) (by kernel_rfl) ?_)
  show AWp _ _ _ _ _ _ _
  refine aS (aR ?_)
  (refine nx (aM (gN rfl) rfl rfl rfl rfl rfl) rfl ?_)
  (refine nx (aNc (gN rfl) rfl rfl rfl rfl rfl) rfl ?_)
  (refine nx (aF (gN rfl) rfl rfl rfl rfl rfl rfl rfl rfl rfl) rfl ?_)
  (refine nx (aLf (gN rfl) rfl rfl rfl rfl rfl rfl rfl rfl rfl rfl rfl rfl rfl) rfl ?_)
  (refine nx (aM (gN rfl) rfl rfl rfl rfl rfl) rfl ?_)
  (refine nx (a_add (gN rfl) rfl rfl rfl rfl rfl rfl (by first | omega | (simp only [List.length_map, List.length_append, List.length_cons, List.length_nil] <;> omega) | (simp <;> omega))) rfl ?_)
  (refine nx (aNc (gN rfl) rfl rfl rfl rfl rfl) rfl ?_)
  (refine nx (aF (gN rfl) rfl rfl rfl rfl rfl rfl rfl rfl rfl) rfl ?_)
  (refine nx (a_store_fld (gN rfl) rfl rfl rfl rfl rfl rfl rfl rfl rfl rfl rfl rfl) rfl ?_)
  show AWp _ _ _ _ _ _ _
  obtain ⟨s1, hs1⟩ : ∃ s1 : Sc, s1 = ⟨s.sz + σ, s.mp, s.sp, s.lk⟩ := ⟨_, rfl⟩
  have hb' : Bds s1 (n + 1) := by
    obtain ⟨b1, b2, b3, b4⟩ := hb
    rw [hs1]
    exact ⟨by show _ ≤ s.sz + σ ∧ s.sz + σ ≤ _; omega, by simp only; omega, by simp only; omega, fun v => by have := b4 v; simp only; omega⟩
  refine AWp.wk (wk_sub (s' := (0, AV.bp 350001 0 []) :: (2, .val (.i σ)) :: (4, .bp 4 0 []) :: (100004, .bx (Tm.cw ⟨f, l⟩)) :: sst s1) ⟨rfl, rfl, rfl, rfl, rfl, ?_, rfl, ?_, ?_, ?_, trivial⟩) ?_
  · rw [hs1]; rfl
  · rw [hs1]; rfl
  · rw [hs1]; rfl
  · rw [hs1]; rfl
  refine aS (aS (aR ?_))
  (refine nx (aL (gN rfl) rfl rfl rfl rfl rfl rfl rfl rfl rfl rfl rfl rfl) rfl ?_)
  (refine nx (a_call (gN rfl) rfl rfl rfl rfl rfl (kIsVar_abs w ⟨f, l⟩)) rfl ?_)
  show AWp _ _ _ _ _ _ _
  refine aC rfl (fun hc => ?_) (fun hc => ?_)
  · have hf : f < 0 := by simpa using hc
    rw [addT_var (t := ⟨f, l⟩) hf, ← hs1]
    refine aS (aR ?_)
    (refine nx (aM (gN rfl) rfl rfl rfl rfl rfl) rfl ?_)
    (refine nx (aL (gN rfl) rfl rfl rfl rfl rfl rfl rfl rfl rfl rfl rfl rfl) rfl ?_)
    (refine nx (a_call (gN rfl) rfl rfl rfl rfl rfl (kNumber_abs w ⟨f, l⟩ hr.1.1 hf)) rfl ?_)
    (refine nx (aM (gN rfl) rfl rfl rfl rfl rfl) rfl ?_)
    (refine nx (a_callO (gN rfl) rfl rfl rfl rfl rfl (kAddVar_abs s1 (n + 1) hb' (by omega) (-1 - f) σ hσ) (by repeat (first | exact trivial | refine ⟨rfl, ?_⟩)) (sst_lend _) (sst_leave _) (by first | rfl | kernel_rfl) (by first | rfl | kernel_rfl) (hnb_of (by first | rfl | kernel_rfl))) rfl ?_)
    show AWp _ _ _ _ _ _ _
    exact aT ⟨.inr rfl, _, Wk.refl _, rfl, rfl, rfl, rfl, rfl, rfl, rfl, trivial⟩
  · have hf : ¬ f < 0 := by simpa using hc
    rw [addT_sym (t := ⟨f, l⟩) hf, ← hs1]
    have hse := Tm.size_eq ⟨f, l⟩
    rw [Tm.ps_of_sym (t := ⟨f, l⟩) (by show 0 ≤ f; omega)] at hse
    simp only at hse
    have hlen := Tm.len_ps ⟨f, l⟩
    rw [Tm.ps_of_sym (t := ⟨f, l⟩) (by show 0 ≤ f; omega)] at hlen
    simp only at hlen
    refine aK ?_
    show AWp _ _ _ _ _ _ _
    refine aR ?_
    (refine nx (aM (gN rfl) rfl rfl rfl rfl rfl) rfl ?_)
    (refine nx (aF (gN rfl) rfl rfl rfl rfl rfl rfl rfl rfl rfl) rfl ?_)
    (refine nx (aLb (gN rfl) rfl rfl rfl rfl rfl rfl rfl rfl rfl rfl rfl rfl) rfl ?_)
    (refine nx (aM (gN rfl) rfl rfl rfl rfl rfl) rfl ?_)
    (refine nx (a_callO (gN rfl) rfl rfl rfl rfl rfl (kAddAll_of σ hσ l (by omega) (fun t ht => ih t ht (hr.2 t ht) (hok.2 t ht)) s1 (n + 1) hb' (by omega)) (by repeat (first | exact trivial | refine ⟨rfl, ?_⟩)) (sst_lend _) (sst_leave _) (by first | rfl | kernel_rfl) (by first | rfl | kernel_rfl) (hnb_of (by first | rfl | kernel_rfl))) rfl ?_)
    exact ⟨.inl rfl, _, Wk.refl _, rfl, rfl, rfl, rfl, rfl, rfl, rfl, trivial⟩
theorem kAddAll_abs (σ : Int) (hσ : σ = 1 ∨ σ = -1) (l : List Tm) (hl : l.length ≤ 1000000000000) (hr : ∀ t ∈ l, t.rng ∧ t.ok) (s : Sc) (n : Nat) (hb : Bds s n) (hn : n + (l.flatMap Tm.flat).length ≤ 1000000000000) : AFunO Try.prog 75 (sst s) [.bp 350001 0 [], .val (.lst (l.map Tm.cv)), .val (.i σ)] (.tup []) (sst (addL σ s l)) :=
  kAddAll_of σ hσ l hl (fun t ht => kAdd_abs σ hσ t (hr t ht).1 (hr t ht).2) s n hb hn

def ordS (s : Sc) (w : Int) : Int := if s.sz ≠ 0 then cmpZ s.sz 0 else w
def vdS (s : Sc) (w : Int) : Int := if (ordS s w = 1 ∧ 0 < s.lk) ∨ (ordS s w = -1 ∧ 0 < s.sp) then 2 else ordS s w
-- 
theorem kVerdict_abs (s : Sc) (x : Int) : AFunO Try.prog 73 (sst s) [.bp 350001 0 [], .val (.i x)] (.val (.i (vdS s x))) (sst s) := by
  refine afunO_of Try.func73 Try.ntmps73 rfl rfl rfl rfl rfl rfl ?_
  intro w U hU
  refine aS (aR ?_)
  (refine nx (aA (gN rfl) rfl rfl rfl rfl rfl) rfl ?_)
  show AWp _ _ _ _ _ _ _
  refine aS (aR ?_)
  (refine nx (aM (gN rfl) rfl rfl rfl rfl rfl) rfl ?_)
  (refine nx (aA (gN rfl) rfl rfl rfl rfl rfl) rfl ?_)
  show AWp _ _ _ _ _ _ _
  refine awp_mid ((0, AV.bp 350001 0 []) :: (5, .val (.i (ordS s x))) :: sst s) ?_ ?_
  · unfold ordS
    refine aS (aR ?_)
    (refine nx (aM (gN rfl) rfl rfl rfl rfl rfl) rfl ?_)
    (refine nx (aNc (gN rfl) rfl rfl rfl rfl rfl) rfl ?_)
    (refine nx (aF (gN rfl) rfl rfl rfl rfl rfl rfl rfl rfl rfl) rfl ?_)
    (refine nx (aLf (gN rfl) rfl rfl rfl rfl rfl rfl rfl rfl rfl rfl rfl rfl rfl) rfl ?_)
    (refine nx (a_neq (gN rfl) rfl rfl rfl rfl rfl rfl) rfl ?_)
    show AWp _ _ _ _ _ _ _
    refine aC rfl (fun hc => ?_) (fun hc => ?_)
    · have h : s.sz ≠ 0 := by simpa using hc
      rw [if_pos h]
      refine aR ?_
      (refine nx (aM (gN rfl) rfl rfl rfl rfl rfl) rfl ?_)
      (refine nx (aNc (gN rfl) rfl rfl rfl rfl rfl) rfl ?_)
      (refine nx (aF (gN rfl) rfl rfl rfl rfl rfl rfl rfl rfl rfl) rfl ?_)
      (refine nx (aLf (gN rfl) rfl rfl rfl rfl rfl rfl rfl rfl rfl rfl rfl rfl rfl) rfl ?_)
      (refine nx (a_call (gN rfl) rfl rfl rfl rfl rfl (cmp_abs w s.sz 0)) rfl ?_)
      (refine nx (aA (gN rfl) rfl rfl rfl rfl rfl) rfl ?_)
      exact wk_sub ⟨rfl, rfl, rfl, rfl, rfl, rfl, rfl, rfl, trivial⟩
    · have h : ¬ s.sz ≠ 0 := by simpa using hc
      rw [if_neg h]
      refine aK ?_
      exact wk_sub ⟨rfl, rfl, rfl, rfl, rfl, rfl, rfl, rfl, trivial⟩
  unfold vdS
  generalize ordS s x = o
  by_cases h1 : o = 1
  · subst h1
    by_cases h2 : 0 < s.lk
    · have g : decide (s.lk > 0) = true := by simpa using h2
      rw [if_pos (.inl ⟨rfl, h2⟩)]
      refine aS (aS (aR ?_))
      (refine nx (aM (gN rfl) rfl rfl rfl rfl rfl) rfl ?_)
      (refine nx (a_eql (gN rfl) rfl rfl rfl rfl rfl rfl) rfl ?_)
      (refine nx (aM (gN rfl) rfl rfl rfl rfl rfl) rfl ?_)
      (refine nx (aM (gd_on rfl rfl rfl rfl (by first | rfl | assumption | (simp; done))) rfl rfl rfl rfl rfl) rfl ?_)
      (refine nx (aNc (gd_on rfl rfl rfl rfl (by first | rfl | assumption | (simp; done))) rfl rfl rfl rfl rfl) rfl ?_)
      (refine nx (aF (gd_on rfl rfl rfl rfl (by first | rfl | assumption | (simp; done))) rfl rfl rfl rfl rfl rfl rfl rfl rfl) rfl ?_)
      (refine nx (aLf (gd_on rfl rfl rfl rfl (by first | rfl | assumption | (simp; done))) rfl rfl rfl rfl rfl rfl rfl rfl rfl rfl rfl rfl rfl) rfl ?_)
      (refine nx (a_gtr (gd_on rfl rfl rfl rfl (by first | rfl | assumption | (simp; done))) rfl rfl rfl rfl rfl rfl) rfl ?_)
      (refine ⟨_, _, _, aPt (gN rfl) rfl rfl rfl rfl rfl ?hb rfl, rfl, ?_⟩; case hb => (first | rfl | assumption | (simp; done)))
      (refine nx (aM (gN rfl) rfl rfl rfl rfl rfl) rfl ?_)
      (refine ⟨_, _, _, a_offt (go_off rfl rfl rfl rfl (by first | rfl | assumption | (simp; done) | (simp [*]; done))) rfl rfl rfl, rfl, ?_⟩)
      (refine ⟨_, _, _, a_offt (go_off rfl rfl rfl rfl (by first | rfl | assumption | (simp; done) | (simp [*]; done))) rfl rfl rfl, rfl, ?_⟩)
      (refine ⟨_, _, _, a_offt (go_off rfl rfl rfl rfl (by first | rfl | assumption | (simp; done) | (simp [*]; done))) rfl rfl rfl, rfl, ?_⟩)
      (refine ⟨_, _, _, a_offt (go_off_t rfl rfl rfl rfl) rfl rfl rfl, rfl, ?_⟩)
      (refine ⟨_, _, _, a_offt (go_off_t rfl rfl rfl rfl) rfl rfl rfl, rfl, ?_⟩)
      (refine ⟨_, _, _, a_offt (go_off_t rfl rfl rfl rfl) rfl rfl rfl, rfl, ?_⟩)
      (refine ⟨_, _, _, a_offt (go_off_t rfl rfl rfl rfl) rfl rfl rfl, rfl, ?_⟩)
      (refine ⟨_, _, _, a_offt (go_off_t rfl rfl rfl rfl) rfl rfl rfl, rfl, ?_⟩)
      (refine ⟨_, _, _, a_offt (go_off rfl rfl rfl rfl (by first | rfl | assumption | (simp; done) | (simp [*]; done))) rfl rfl rfl, rfl, ?_⟩)
      (refine ⟨_, _, _, aPt (gN rfl) rfl rfl rfl rfl rfl ?hb rfl, rfl, ?_⟩; case hb => (first | rfl | assumption | (simp; done)))
      show AWp _ _ _ _ _ _ _
      refine aC rfl (fun hc => ?_) (fun hc => by cases hc)
      refine aS (aR ?_)
      (refine nx (aA (gN rfl) rfl rfl rfl rfl rfl) rfl ?_)
      show AWp _ _ _ _ _ _ _
      exact aT ⟨.inr rfl, _, Wk.refl _, rfl, rfl, rfl, rfl, rfl, rfl, rfl, trivial⟩
    · have g : decide (s.lk > 0) = false := by simpa using h2
      rw [if_neg (by omega)]
      refine aS (aS (aR ?_))
      (refine nx (aM (gN rfl) rfl rfl rfl rfl rfl) rfl ?_)
      (refine nx (a_eql (gN rfl) rfl rfl rfl rfl rfl rfl) rfl ?_)
      (refine nx (aM (gN rfl) rfl rfl rfl rfl rfl) rfl ?_)
      (refine nx (aM (gd_on rfl rfl rfl rfl (by first | rfl | assumption | (simp; done))) rfl rfl rfl rfl rfl) rfl ?_)
      (refine nx (aNc (gd_on rfl rfl rfl rfl (by first | rfl | assumption | (simp; done))) rfl rfl rfl rfl rfl) rfl ?_)
      (refine nx (aF (gd_on rfl rfl rfl rfl (by first | rfl | assumption | (simp; done))) rfl rfl rfl rfl rfl rfl rfl rfl rfl) rfl ?_)
      (refine nx (aLf (gd_on rfl rfl rfl rfl (by first | rfl | assumption | (simp; done))) rfl rfl rfl rfl rfl rfl rfl rfl rfl rfl rfl rfl rfl) rfl ?_)
      (refine nx (a_gtr (gd_on rfl rfl rfl rfl (by first | rfl | assumption | (simp; done))) rfl rfl rfl rfl rfl rfl) rfl ?_)
      (refine ⟨_, _, _, aPt (gN rfl) rfl rfl rfl rfl rfl ?hb rfl, rfl, ?_⟩; case hb => (first | rfl | assumption | (simp; done)))
      (refine nx (aM (gN rfl) rfl rfl rfl rfl rfl) rfl ?_)
      (refine nx (aM (gd_on rfl rfl rfl rfl (by first | rfl | assumption | (simp; done))) rfl rfl rfl rfl rfl) rfl ?_)
      (refine nx (a_eql (gd_on rfl rfl rfl rfl (by first | rfl | assumption | (simp; done))) rfl rfl rfl rfl rfl rfl) rfl ?_)
      (refine nx (aM (gd_on rfl rfl rfl rfl (by first | rfl | assumption | (simp; done))) rfl rfl rfl rfl rfl) rfl ?_)
      (refine ⟨_, _, _, a_offt (go_off rfl rfl rfl rfl (by first | rfl | assumption | (simp; done) | (simp [*]; done))) rfl rfl rfl, rfl, ?_⟩)
      (refine ⟨_, _, _, a_offt (go_off rfl rfl rfl rfl (by first | rfl | assumption | (simp; done) | (simp [*]; done))) rfl rfl rfl, rfl, ?_⟩)
      (refine ⟨_, _, _, a_offt (go_off rfl rfl rfl rfl (by first | rfl | assumption | (simp; done) | (simp [*]; done))) rfl rfl rfl, rfl, ?_⟩)
      (refine ⟨_, _, _, a_offt (go_off rfl rfl rfl rfl (by first | rfl | assumption | (simp; done) | (simp [*]; done))) rfl rfl rfl, rfl, ?_⟩)
      (refine ⟨_, _, _, a_offt (go_off rfl rfl rfl rfl (by first | rfl | assumption | (simp; done) | (simp [*]; done))) rfl rfl rfl, rfl, ?_⟩)
      (refine ⟨_, _, _, aPf (gd_on rfl rfl rfl rfl (by first | rfl | assumption | (simp; done))) rfl rfl rfl rfl rfl ?hb rfl, rfl, ?_⟩; case hb => (first | rfl | assumption | (simp; done)))
      (refine ⟨_, _, _, aPf (gN rfl) rfl rfl rfl rfl rfl ?hb rfl, rfl, ?_⟩; case hb => (first | rfl | assumption | (simp; done)))
      show AWp _ _ _ _ _ _ _
      refine aC rfl (fun hc => by cases hc) (fun hc => aK ?_)
      show AWp _ _ _ _ _ _ _
      refine aS (aR ?_)
      (refine nx (aM (gN rfl) rfl rfl rfl rfl rfl) rfl ?_)
      (refine nx (aA (gN rfl) rfl rfl rfl rfl rfl) rfl ?_)
      show AWp _ _ _ _ _ _ _
      exact aT ⟨.inr rfl, _, Wk.refl _, rfl, rfl, rfl, rfl, rfl, rfl, rfl, trivial⟩
  · have g1 : decide (o = 1) = false := by simpa using h1
    by_cases h2 : o = -1
    · subst h2
      by_cases h3 : 0 < s.sp
      · have g : decide (s.sp > 0) = true := by simpa using h3
        rw [if_pos (.inr ⟨rfl, h3⟩)]
        refine aS (aS (aR ?_))
        (refine nx (aM (gN rfl) rfl rfl rfl rfl rfl) rfl ?_)
        (refine nx (a_eql (gN rfl) rfl rfl rfl rfl rfl rfl) rfl ?_)
        (refine nx (aM (gN rfl) rfl rfl rfl rfl rfl) rfl ?_)
        (refine ⟨_, _, _, a_offt (go_off rfl rfl rfl rfl (by first | rfl | assumption | (simp; done) | (simp [*]; done))) rfl rfl rfl, rfl, ?_⟩)
        (refine ⟨_, _, _, a_offt (go_off rfl rfl rfl rfl (by first | rfl | assumption | (simp; done) | (simp [*]; done))) rfl rfl rfl, rfl, ?_⟩)
        (refine ⟨_, _, _, a_offt (go_off rfl rfl rfl rfl (by first | rfl | assumption | (simp; done) | (simp [*]; done))) rfl rfl rfl, rfl, ?_⟩)
        (refine ⟨_, _, _, a_offt (go_off rfl rfl rfl rfl (by first | rfl | assumption | (simp; done) | (simp [*]; done))) rfl rfl rfl, rfl, ?_⟩)
        (refine ⟨_, _, _, a_offt (go_off rfl rfl rfl rfl (by first | rfl | assumption | (simp; done) | (simp [*]; done))) rfl rfl rfl, rfl, ?_⟩)
        (refine ⟨_, _, _, aPf (gN rfl) rfl rfl rfl rfl rfl ?hb rfl, rfl, ?_⟩; case hb => (first | rfl | assumption | (simp; done)))
        (refine nx (aM (gN rfl) rfl rfl rfl rfl rfl) rfl ?_)
        (refine nx (aM (gd_on rfl rfl rfl rfl (by first | rfl | assumption | (simp; done))) rfl rfl rfl rfl rfl) rfl ?_)
        (refine nx (a_eql (gd_on rfl rfl rfl rfl (by first | rfl | assumption | (simp; done))) rfl rfl rfl rfl rfl rfl) rfl ?_)
        (refine nx (aM (gd_on rfl rfl rfl rfl (by first | rfl | assumption | (simp; done))) rfl rfl rfl rfl rfl) rfl ?_)
        (refine nx (aM (gd_on rfl rfl rfl rfl (by first | rfl | assumption | (simp; done))) rfl rfl rfl rfl rfl) rfl ?_)
        (refine nx (aNc (gd_on rfl rfl rfl rfl (by first | rfl | assumption | (simp; done))) rfl rfl rfl rfl rfl) rfl ?_)
        (refine nx (aF (gd_on rfl rfl rfl rfl (by first | rfl | assumption | (simp; done))) rfl rfl rfl rfl rfl rfl rfl rfl rfl) rfl ?_)
        (refine nx (aLf (gd_on rfl rfl rfl rfl (by first | rfl | assumption | (simp; done))) rfl rfl rfl rfl rfl rfl rfl rfl rfl rfl rfl rfl rfl) rfl ?_)
        (refine nx (a_gtr (gd_on rfl rfl rfl rfl (by first | rfl | assumption | (simp; done))) rfl rfl rfl rfl rfl rfl) rfl ?_)
        (refine ⟨_, _, _, aPt (gd_on rfl rfl rfl rfl (by first | rfl | assumption | (simp; done))) rfl rfl rfl rfl rfl ?hb rfl, rfl, ?_⟩; case hb => (first | rfl | assumption | (simp; done)))
        (refine ⟨_, _, _, aPf (gN rfl) rfl rfl rfl rfl rfl ?hb rfl, rfl, ?_⟩; case hb => (first | rfl | assumption | (simp; done)))
        show AWp _ _ _ _ _ _ _
        refine aC rfl (fun hc => ?_) (fun hc => by rw [g] at hc; cases hc)
        refine aS (aR ?_)
        (refine nx (aA (gN rfl) rfl rfl rfl rfl rfl) rfl ?_)
        show AWp _ _ _ _ _ _ _
        exact aT ⟨.inr rfl, _, Wk.refl _, rfl, rfl, rfl, rfl, rfl, rfl, rfl, trivial⟩
      · have g : decide (s.sp > 0) = false := by simpa using h3
        rw [if_neg (by omega)]
        refine aS (aS (aR ?_))
        (refine nx (aM (gN rfl) rfl rfl rfl rfl rfl) rfl ?_)
        (refine nx (a_eql (gN rfl) rfl rfl rfl rfl rfl rfl) rfl ?_)
        (refine nx (aM (gN rfl) rfl rfl rfl rfl rfl) rfl ?_)
        (refine ⟨_, _, _, a_offt (go_off rfl rfl rfl rfl (by first | rfl | assumption | (simp; done) | (simp [*]; done))) rfl rfl rfl, rfl, ?_⟩)
        (refine ⟨_, _, _, a_offt (go_off rfl rfl rfl rfl (by first | rfl | assumption | (simp; done) | (simp [*]; done))) rfl rfl rfl, rfl, ?_⟩)
        (refine ⟨_, _, _, a_offt (go_off rfl rfl rfl rfl (by first | rfl | assumption | (simp; done) | (simp [*]; done))) rfl rfl rfl, rfl, ?_⟩)
        (refine ⟨_, _, _, a_offt (go_off rfl rfl rfl rfl (by first | rfl | assumption | (simp; done) | (simp [*]; done))) rfl rfl rfl, rfl, ?_⟩)
        (refine ⟨_, _, _, a_offt (go_off rfl rfl rfl rfl (by first | rfl | assumption | (simp; done) | (simp [*]; done))) rfl rfl rfl, rfl, ?_⟩)
        (refine ⟨_, _, _, aPf (gN rfl) rfl rfl rfl rfl rfl ?hb rfl, rfl, ?_⟩; case hb => (first | rfl | assumption | (simp; done)))
        (refine nx (aM (gN rfl) rfl rfl rfl rfl rfl) rfl ?_)
        (refine nx (aM (gd_on rfl rfl rfl rfl (by first | rfl | assumption | (simp; done))) rfl rfl rfl rfl rfl) rfl ?_)
        (refine nx (a_eql (gd_on rfl rfl rfl rfl (by first | rfl | assumption | (simp; done))) rfl rfl rfl rfl rfl rfl) rfl ?_)
        (refine nx (aM (gd_on rfl rfl rfl rfl (by first | rfl | assumption | (simp; done))) rfl rfl rfl rfl rfl) rfl ?_)
        (refine nx (aM (gd_on rfl rfl rfl rfl (by first | rfl | assumption | (simp; done))) rfl rfl rfl rfl rfl) rfl ?_)
        (refine nx (aNc (gd_on rfl rfl rfl rfl (by first | rfl | assumption | (simp; done))) rfl rfl rfl rfl rfl) rfl ?_)
        (refine nx (aF (gd_on rfl rfl rfl rfl (by first | rfl | assumption | (simp; done))) rfl rfl rfl rfl rfl rfl rfl rfl rfl) rfl ?_)
        (refine nx (aLf (gd_on rfl rfl rfl rfl (by first | rfl | assumption | (simp; done))) rfl rfl rfl rfl rfl rfl rfl rfl rfl rfl rfl rfl rfl) rfl ?_)
        (refine nx (a_gtr (gd_on rfl rfl rfl rfl (by first | rfl | assumption | (simp; done))) rfl rfl rfl rfl rfl rfl) rfl ?_)
        (refine ⟨_, _, _, aPt (gd_on rfl rfl rfl rfl (by first | rfl | assumption | (simp; done))) rfl rfl rfl rfl rfl ?hb rfl, rfl, ?_⟩; case hb => (first | rfl | assumption | (simp; done)))
        (refine ⟨_, _, _, aPf (gN rfl) rfl rfl rfl rfl rfl ?hb rfl, rfl, ?_⟩; case hb => (first | rfl | assumption | (simp; done)))
        show AWp _ _ _ _ _ _ _
        refine aC rfl (fun hc => by rw [g] at hc; cases hc) (fun hc => aK ?_)
        show AWp _ _ _ _ _ _ _
        refine aS (aR ?_)
        (refine nx (aM (gN rfl) rfl rfl rfl rfl rfl) rfl ?_)
        (refine nx (aA (gN rfl) rfl rfl rfl rfl rfl) rfl ?_)
        show AWp _ _ _ _ _ _ _
        exact aT ⟨.inr rfl, _, Wk.refl _, rfl, rfl, rfl, rfl, rfl, rfl, rfl, trivial⟩
    · have g2 : decide (o = -1) = false := by simpa using h2
      rw [if_neg (by omega)]
      refine aS (aS (aR ?_))
      (refine nx (aM (gN rfl) rfl rfl rfl rfl rfl) rfl ?_)
      (refine nx (a_eql (gN rfl) rfl rfl rfl rfl rfl rfl) rfl ?_)
      (refine nx (aM (gN rfl) rfl rfl rfl rfl rfl) rfl ?_)
      (refine ⟨_, _, _, a_offt (go_off rfl rfl rfl rfl (by first | rfl | assumption | (simp; done) | (simp [*]; done))) rfl rfl rfl, rfl, ?_⟩)
      (refine ⟨_, _, _, a_offt (go_off rfl rfl rfl rfl (by first | rfl | assumption | (simp; done) | (simp [*]; done))) rfl rfl rfl, rfl, ?_⟩)
      (refine ⟨_, _, _, a_offt (go_off rfl rfl rfl rfl (by first | rfl | assumption | (simp; done) | (simp [*]; done))) rfl rfl rfl, rfl, ?_⟩)
      (refine ⟨_, _, _, a_offt (go_off rfl rfl rfl rfl (by first | rfl | assumption | (simp; done) | (simp [*]; done))) rfl rfl rfl, rfl, ?_⟩)
      (refine ⟨_, _, _, a_offt (go_off rfl rfl rfl rfl (by first | rfl | assumption | (simp; done) | (simp [*]; done))) rfl rfl rfl, rfl, ?_⟩)
      (refine ⟨_, _, _, aPf (gN rfl) rfl rfl rfl rfl rfl ?hb rfl, rfl, ?_⟩; case hb => (first | rfl | assumption | (simp; done)))
      (refine nx (aM (gN rfl) rfl rfl rfl rfl rfl) rfl ?_)
      (refine nx (aM (gd_on rfl rfl rfl rfl (by first | rfl | assumption | (simp; done))) rfl rfl rfl rfl rfl) rfl ?_)
      (refine nx (a_eql (gd_on rfl rfl rfl rfl (by first | rfl | assumption | (simp; done))) rfl rfl rfl rfl rfl rfl) rfl ?_)
      (refine nx (aM (gd_on rfl rfl rfl rfl (by first | rfl | assumption | (simp; done))) rfl rfl rfl rfl rfl) rfl ?_)
      (refine ⟨_, _, _, a_offt (go_off rfl rfl rfl rfl (by first | rfl | assumption | (simp; done) | (simp [*]; done))) rfl rfl rfl, rfl, ?_⟩)
      (refine ⟨_, _, _, a_offt (go_off rfl rfl rfl rfl (by first | rfl | assumption | (simp; done) | (simp [*]; done))) rfl rfl rfl, rfl, ?_⟩)
      (refine ⟨_, _, _, a_offt (go_off rfl rfl rfl rfl (by first | rfl | assumption | (simp; done) | (simp [*]; done))) rfl rfl rfl, rfl, ?_⟩)
      (refine ⟨_, _, _, a_offt (go_off rfl rfl rfl rfl (by first | rfl | assumption | (simp; done) | (simp [*]; done))) rfl rfl rfl, rfl, ?_⟩)
      (refine ⟨_, _, _, a_offt (go_off rfl rfl rfl rfl (by first | rfl | assumption | (simp; done) | (simp [*]; done))) rfl rfl rfl, rfl, ?_⟩)
      (refine ⟨_, _, _, aPf (gd_on rfl rfl rfl rfl (by first | rfl | assumption | (simp; done))) rfl rfl rfl rfl rfl ?hb rfl, rfl, ?_⟩; case hb => (first | rfl | assumption | (simp; done)))
      (refine ⟨_, _, _, aPf (gN rfl) rfl rfl rfl rfl rfl ?hb rfl, rfl, ?_⟩; case hb => (first | rfl | assumption | (simp; done)))
      show AWp _ _ _ _ _ _ _
      refine aC rfl (fun hc => by cases hc) (fun hc => aK ?_)
      show AWp _ _ _ _ _ _ _
      refine aS (aR ?_)
      (refine nx (aM (gN rfl) rfl rfl rfl rfl rfl) rfl ?_)
      (refine nx (aA (gN rfl) rfl rfl rfl rfl rfl) rfl ?_)
      show AWp _ _ _ _ _ _ _
      exact aT ⟨.inr rfl, _, Wk.refl _, rfl, rfl, rfl, rfl, rfl, rfl, rfl, trivial⟩
def orL : List Int → Int
  | [] => 0
  | x :: l => if x ≠ 0 then x else orL l
theorem orL_at : ∀ {l : List Int} {k : Nat} {x : Int}, l[k]? = some x → x ≠ 0 → (∀ j y, j < k → l[j]? = some y → y = 0) → orL l = x
  | [], k, x, h, _, _ => by simp at h
  | y :: l, 0, x, h, hx, _ => by
    simp at h
    subst h
    rw [orL, if_pos hx]
  | y :: l, k + 1, x, h, hx, hi => by
    rw [orL, if_neg (by have := hi 0 y (by omega) rfl; omega)]
    exact orL_at (by simpa using h) hx fun j z hj hz => hi (j + 1) z (by omega) (by simpa using hz)
theorem orL_none : ∀ {l : List Int}, (∀ x ∈ l, x = 0) → orL l = 0
  | [], _ => rfl
  | x :: l, h => by
    rw [orL, if_neg (by have := h x (by simp); omega)]
    exact orL_none fun y hy => h y (List.mem_cons_of_mem _ hy)
-- 
theorem cOr_abs (W : World) (l : List Int) (hl : l.length ≤ 1000000000) : AFun Try.prog W 89 [.lst (l.map CV.i)] (.val (.i (orL l))) := by
  have hsz := ints_size l
  refine afun_of (rs := [.i (orL l)]) Try.func89 Try.ntmps89 rfl rfl rfl rfl ?_
  intro w U hW
  refine aS (aR ?_)
  (refine nx (aA (gN rfl) rfl rfl rfl rfl rfl) rfl ?_)
  show AWp _ _ _ _ _ _ _
  refine aS (aR ?_)
  (refine nx (aA (gN rfl) rfl rfl rfl rfl rfl) rfl ?_)
  show AWp _ _ _ _ _ _ _
  refine aS (aS (aR ?_))
  (refine nx (aM (gN rfl) rfl rfl rfl rfl rfl) rfl ?_)
  (refine nx (a_len (gN rfl) rfl rfl rfl rfl rfl rfl rfl) rfl ?_)
  (refine nx (aM (gN rfl) rfl rfl rfl rfl rfl) rfl ?_)
  show AWp _ _ _ _ _ _ _
  refine aB (awp_countI l.length (fun k => ∀ j y, j < k → l[j]? = some y → y = 0) (fun k => [(3, .val (.i 0)), (6, .val (.lst (l.map CV.i))), (7, .val (.i (l.map CV.i).length)), (8, .val (.i k))]) (wk_sub ⟨rfl, rfl, rfl, rfl, trivial⟩) (fun j c hj => by omega) ?_)
  intro k hk hI
  refine aS (aR ?_)
  (refine nx (a_lss (gN rfl) rfl rfl rfl rfl rfl rfl) rfl ?_)
  show AWp _ _ _ _ _ _ _
  refine aS (aC rfl (fun hlt => ?_) (fun hlt => ?_))
  · have hkl : k < l.length := by simpa using hlt
    obtain ⟨x, hx⟩ : ∃ x, l[k]? = some x := ⟨l[k], List.getElem?_eq_getElem hkl⟩
    have hx' : (l.map CV.i)[k]? = some (CV.i x) := by rw [List.getElem?_map, hx]; rfl
    refine aK ?_
    show AWp _ _ _ _ _ _ _
    refine aS (aB (aS (aR ?_)))
    (refine nx (a_index (j := k) (gN rfl) rfl rfl rfl rfl rfl rfl rfl rfl rfl (hx') rfl (hsz)) rfl ?_)
    (refine nx (a_load_ad (gN rfl) rfl rfl rfl rfl rfl rfl rfl rfl rfl) rfl ?_)
    (refine nx (aA (gN rfl) rfl rfl rfl rfl rfl) rfl ?_)
    show AWp _ _ _ _ _ _ _
    refine aS (aR ?_)
    (refine nx (aM (gN rfl) rfl rfl rfl rfl rfl) rfl ?_)
    (refine nx (aM (gN rfl) rfl rfl rfl rfl rfl) rfl ?_)
    (refine nx (a_neq (gN rfl) rfl rfl rfl rfl rfl rfl) rfl ?_)
    show AWp _ _ _ _ _ _ _
    refine aC rfl (fun hq => ?_) (fun hq => ?_)
    · have hq : x ≠ 0 := by simpa using hq
      refine aS (aR ?_)
      (refine nx (aM (gN rfl) rfl rfl rfl rfl rfl) rfl ?_)
      (refine nx (aA (gN rfl) rfl rfl rfl rfl rfl) rfl ?_)
      show AWp _ _ _ _ _ _ _
      rw [orL_at hx hq hI]
      exact aT ⟨.inr rfl, rfl⟩
    · have hq : x = 0 := by simpa using hq
      refine aK ?_
      show AWp _ _ _ _ _ _ _
      refine aR ?_
      (refine nx (a_add (gN rfl) rfl rfl rfl rfl rfl rfl (by first | omega | (simp only [List.length_map, List.length_append, List.length_cons, List.length_nil] <;> omega) | (simp <;> omega))) rfl ?_)
      (refine nx (aM (gN rfl) rfl rfl rfl rfl rfl) rfl ?_)
      refine ⟨hkl, fun j c hj hc => ?_, wk_sub ⟨rfl, rfl, rfl, rfl, trivial⟩⟩
      rcases Nat.lt_or_ge j k with h | h
      · exact hI j c h hc
      · have : j = k := by omega
        subst this
        rw [hx] at hc
        cases hc
        exact hq
  · have hkl : ¬ k < l.length := by simpa using hlt
    rw [orL_none (l := l) fun x hx => ?_]
    · refine aE ?_
      show AWp _ _ _ _ _ _ _
      refine aS (aR ?_)
      (refine nx (aM (gN rfl) rfl rfl rfl rfl rfl) rfl ?_)
      (refine nx (aA (gN rfl) rfl rfl rfl rfl rfl) rfl ?_)
      show AWp _ _ _ _ _ _ _
      exact aT ⟨.inr rfl, rfl⟩
    · obtain ⟨j, hj⟩ := List.getElem?_of_mem hx
      have hjl : j < l.length := by
        rcases Nat.lt_or_ge j l.length with h | h
        · exact h
        · rw [List.getElem?_eq_none h] at hj; cases hj
      exact hI j x (by omega) hj
theorem hd_or {a b : Tm} (h : ¬ (a.f < 0 ∨ b.f < 0)) : hdK a b = orL [cmpZ a.f b.f, cmpZ a.l.length b.l.length] := by
  unfold hdK
  rw [if_neg h]
  simp only [orL]
  rcases cmpZ_cases a.f b.f with h1 | h1 | h1
  · rw [if_pos (by omega), if_pos (by omega)]
  · rw [if_neg (by omega), if_neg (by omega)]
    split
    · rfl
    · omega
  · rw [if_pos (by omega), if_pos (by omega)]
-- 
theorem kHeads_abs (W : World) (a b : Tm) : AFun Try.prog W 74 [a.cw, b.cw] (.val (.i (hdK a b))) := by
  refine afun_of (rs := [.i (hdK a b)]) Try.func74 Try.ntmps74 rfl rfl rfl rfl ?_
  intro w U hW
  refine aS (aR ?_)
  (refine nx (a_box (gN rfl) rfl rfl rfl rfl rfl) rfl ?_)
  (refine nx (a_box (gN rfl) rfl rfl rfl rfl rfl) rfl ?_)
  (refine nx (aA (gN rfl) rfl rfl rfl rfl rfl) rfl ?_)
  show AWp _ _ _ _ _ _ _
  by_cases ha : a.f < 0
  · have g : decide (a.f < 0) = true := by simpa using ha
    refine aS (aS (aR ?_))
    (refine nx (aL (gN rfl) rfl rfl rfl rfl rfl rfl rfl rfl rfl rfl rfl rfl) rfl ?_)
    (refine nx (a_call (gN rfl) rfl rfl rfl rfl rfl (kIsVar_abs w a)) rfl ?_)
    (refine nx (aM (gN rfl) rfl rfl rfl rfl rfl) rfl ?_)
    (refine ⟨_, _, _, a_off (go_off rfl rfl rfl rfl (by first | rfl | assumption | (simp; done) | (simp [*]; done))) rfl rfl rfl, rfl, ?_⟩)
    (refine ⟨_, _, _, a_off (go_off rfl rfl rfl rfl (by first | rfl | assumption | (simp; done) | (simp [*]; done))) rfl rfl rfl, rfl, ?_⟩)
    (refine ⟨_, _, _, aPt (gN rfl) rfl rfl rfl rfl rfl ?hb rfl, rfl, ?_⟩; case hb => (first | rfl | assumption | (simp; done)))
    show AWp _ _ _ _ _ _ _
    refine aC rfl (fun hc => ?_) (fun hc => by cases hc)
    unfold hdK
    rw [if_pos (.inl ha)]
    refine aS (aR ?_)
    (refine nx (aA (gN rfl) rfl rfl rfl rfl rfl) rfl ?_)
    show AWp _ _ _ _ _ _ _
    exact aT ⟨.inr rfl, rfl⟩
  have g : decide (a.f < 0) = false := by simpa using ha
  refine aS (aS (aR ?_))
  (refine nx (aL (gN rfl) rfl rfl rfl rfl rfl rfl rfl rfl rfl rfl rfl rfl) rfl ?_)
  (refine nx (a_call (gN rfl) rfl rfl rfl rfl rfl (kIsVar_abs w a)) rfl ?_)
  (refine nx (aM (gN rfl) rfl rfl rfl rfl rfl) rfl ?_)
  (refine nx (aL (gd_on rfl rfl rfl rfl (by first | rfl | assumption | (simp; done))) rfl rfl rfl rfl rfl rfl rfl rfl rfl rfl rfl rfl) rfl ?_)
  (refine nx (a_call (gd_on rfl rfl rfl rfl (by first | rfl | assumption | (simp; done))) rfl rfl rfl rfl rfl (kIsVar_abs w b)) rfl ?_)
  (refine ⟨_, _, _, aPf (gN rfl) rfl rfl rfl rfl rfl ?hb rfl, rfl, ?_⟩; case hb => (first | rfl | assumption | (simp; done)))
  show AWp _ _ _ _ _ _ _
  refine aC rfl (fun hc => ?_) (fun hc => ?_)
  · have hb : b.f < 0 := by simpa using hc
    unfold hdK
    rw [if_pos (.inr hb)]
    refine aS (aR ?_)
    (refine nx (aA (gN rfl) rfl rfl rfl rfl rfl) rfl ?_)
    show AWp _ _ _ _ _ _ _
    exact aT ⟨.inr rfl, rfl⟩
  · have hb : ¬ b.f < 0 := by simpa using hc
    rw [hd_or (by omega)]
    have e1 : (a.l.map Tm.cv).length = a.l.length := List.length_map ..
    have e2 : (b.l.map Tm.cv).length = b.l.length := List.length_map ..
    refine aK ?_
    show AWp _ _ _ _ _ _ _
    refine aS (aD (by kernel_rfl) (by kernel_rfl) ?_)
    (refine nx (aF (gN rfl) rfl rfl rfl rfl rfl rfl rfl rfl rfl) rfl ?_)
    (refine nx (aLb (gN rfl) rfl rfl rfl rfl rfl rfl rfl rfl rfl rfl rfl rfl) rfl ?_)
    (refine nx (aF (gN rfl) rfl rfl rfl rfl rfl rfl rfl rfl rfl) rfl ?_)
    (refine nx (aLb (gN rfl) rfl rfl rfl rfl rfl rfl rfl rfl rfl rfl rfl rfl) rfl ?_)
    (refine nx (a_call (gN rfl) rfl rfl rfl rfl rfl (cmp_abs w a.f b.f)) rfl ?_)
    (refine nx (aF (gN rfl) rfl rfl rfl rfl rfl rfl rfl rfl rfl) rfl ?_)
    (refine nx (aLb (gN rfl) rfl rfl rfl rfl rfl rfl rfl rfl rfl rfl rfl rfl) rfl ?_)
    (refine nx (a_len (gN rfl) rfl rfl rfl rfl rfl rfl rfl) rfl ?_)
    (refine nx (aF (gN rfl) rfl rfl rfl rfl rfl rfl rfl rfl rfl) rfl ?_)
    (refine nx (aLb (gN rfl) rfl rfl rfl rfl rfl rfl rfl rfl rfl rfl rfl rfl) rfl ?_)
    (refine nx (a_len (gN rfl) rfl rfl rfl rfl rfl rfl rfl) rfl ?_)
    (refine nx (a_call (gN rfl) rfl rfl rfl rfl rfl (cmp_abs w _ _)) rfl ?_)
    (refine nx (a_bslice (gN rfl) rfl rfl rfl rfl rfl rfl rfl rfl rfl rfl rfl rfl rfl) rfl ?_)
    (refine nx (a_call (gN rfl) rfl rfl rfl rfl rfl (cOr_abs w [_, _] (by simp))) rfl ?_)
    (refine nx (aA (gN rfl) rfl rfl rfl rfl rfl) rfl ?_)
    refine ⟨by kernel_rfl, ?_⟩
    show AWp _ _ _ _ _ _ _
    rw [e1, e2]
    exact aT ⟨.inr rfl, rfl⟩
def emp : Sc := ⟨0, [], 0, 0⟩
noncomputable def restS (c : Int) (s : Sc) (l m : List Tm) (r : Sc) : Sc := if c ≠ 0 then addL (-1) (addL 1 s l) m else r
noncomputable def scS (p : Tm) : Tm → Sc :=
  Tm.rec (motive_1 := fun _ => Tm → Sc) (motive_2 := fun _ => List Tm → Sc)
    (fun f l ih t => if f ≠ t.f ∨ (Tm.mk f l).ps.length ≠ t.ps.length then addT (-1) (addT 1 emp ⟨f, l⟩) t else if f < 0 then emp else ih t.l)
    (fun _ => emp)
    (fun x l ih1 ih2 ts => match ts with | [] => emp | t :: ts => restS (kb x t) (ih1 t) l ts (ih2 ts)) p
noncomputable def scs (ps : List Tm) : List Tm → Sc :=
  Tm.rec_1 (motive_1 := fun _ => Tm → Sc) (motive_2 := fun _ => List Tm → Sc)
    (fun f l ih t => if f ≠ t.f ∨ (Tm.mk f l).ps.length ≠ t.ps.length then addT (-1) (addT 1 emp ⟨f, l⟩) t else if f < 0 then emp else ih t.l)
    (fun _ => emp)
    (fun x l ih1 ih2 ts => match ts with | [] => emp | t :: ts => restS (kb x t) (ih1 t) l ts (ih2 ts)) ps
theorem scs_nil (m : List Tm) : scs [] m = emp := rfl
theorem scs_cons (x : Tm) (l : List Tm) (y : Tm) (m : List Tm) : scs (x :: l) (y :: m) = restS (kb x y) (scS x y) l m (scs l m) := rfl
theorem scS_ne {a b : Tm} (h : a.f ≠ b.f ∨ a.ps.length ≠ b.ps.length) : scS a b = addT (-1) (addT 1 emp a) b := by
  cases a
  show (if _ then _ else _) = _
  rw [if_pos h]
theorem scS_eq {a b : Tm} (h : ¬ (a.f ≠ b.f ∨ a.ps.length ≠ b.ps.length)) : scS a b = scs a.ps b.ps := by
  cases a with
  | mk f l =>
    show (if _ then _ else _) = _
    rw [if_neg h]
    by_cases hf : f < 0
    · rw [if_pos hf, Tm.ps_of_var (t := ⟨f, l⟩) hf, scs_nil]
    · rw [if_neg hf, Tm.ps_of_sym (t := ⟨f, l⟩) (by show 0 ≤ f; omega), Tm.ps_of_sym (t := b) (by have := Classical.not_not.1 (fun e => h (.inl e)); simp only at this; omega)]
      rfl
theorem scs_at : ∀ {l m : List Tm} {k : Nat} {x y : Tm}, l[k]? = some x → m[k]? = some y → kb x y ≠ 0 → (∀ j u v, j < k → l[j]? = some u → m[j]? = some v → kb u v = 0) → scs l m = addL (-1) (addL 1 (scS x y) (l.drop (k + 1))) (m.drop (k + 1)) ∧ kbs l m = kb x y
  | [], _, k, x, y, h, _, _, _ => by simp at h
  | _ :: _, [], k, x, y, _, h, _, _ => by simp at h
  | u :: l, v :: m, 0, x, y, h1, h2, hne, _ => by
    simp at h1 h2
    subst h1; subst h2
    rw [scs_cons, kbs_cons]
    unfold restS firstK
    rw [if_pos hne, if_pos hne]
    exact ⟨rfl, rfl⟩
  | u :: l, v :: m, k + 1, x, y, h1, h2, hne, hi => by
    have h0 := hi 0 u v (by omega) rfl rfl
    rw [scs_cons, kbs_cons]
    unfold restS firstK
    rw [if_neg (by omega), if_neg (by omega)]
    exact scs_at (by simpa using h1) (by simpa using h2) hne fun j u v hj hu hv => hi (j + 1) u v (by omega) (by simpa using hu) (by simpa using hv)
theorem scs_none : ∀ {l m : List Tm}, (∀ (j : Nat) u v, l[j]? = some u → m[j]? = some v → kb u v = 0) → scs l m = emp ∧ kbs l m = 0
  | [], _, _ => ⟨rfl, rfl⟩
  | _ :: _, [], _ => ⟨rfl, rfl⟩
  | u :: l, v :: m, hi => by
    have h0 := hi 0 u v rfl rfl
    rw [scs_cons, kbs_cons]
    unfold restS firstK
    rw [if_neg (by omega), if_neg (by omega)]
    exact scs_none fun j u v hu hv => hi (j + 1) u v (by simpa using hu) (by simpa using hv)
theorem emp_ss : Ss emp 0 fun _ => 0 := ⟨rfl, by simp [ndk, emp], rfl, rfl, fun _ => rfl⟩
theorem emp_bds : Bds emp 0 := ⟨by simp [emp], by simp [emp], by simp [emp], fun _ => by simp [emp, mget, mfind]⟩
def vD (a b : Tm) (v : Int) : Int := (a.vs.count v : Int) - b.vs.count v
theorem first_ne : ∀ (l m : List Tm), l.length = m.length → (∃ (k : Nat) (x y : Tm), l[k]? = some x ∧ m[k]? = some y ∧ kb x y ≠ 0 ∧ ∀ (j : Nat) u v, j < k → l[j]? = some u → m[j]? = some v → kb u v = 0) ∨ ∀ (j : Nat) u v, l[j]? = some u → m[j]? = some v → kb u v = 0
  | [], _, _ => .inr fun j u v h => by simp at h
  | _ :: _, [], h => by simp at h
  | u :: l, v :: m, h => by
    by_cases h0 : kb u v = 0
    · rcases first_ne l m (by simpa using h) with ⟨k, x, y, h1, h2, h3, h4⟩ | h1
      · left
        refine ⟨k + 1, x, y, by simpa using h1, by simpa using h2, h3, fun j u' v' hj hu hv => ?_⟩
        cases j with
        | zero => simp at hu hv; subst hu; subst hv; exact h0
        | succ j => exact h4 j u' v' (by omega) (by simpa using hu) (by simpa using hv)
      · right
        intro j u' v' hu hv
        cases j with
        | zero => simp at hu hv; subst hu; subst hv; exact h0
        | succ j => exact h1 j u' v' (by simpa using hu) (by simpa using hv)
    · left; exact ⟨0, u, v, rfl, rfl, h0, fun j u v hj => by omega⟩
theorem vs_take_same : ∀ {l m : List Tm} {k : Nat}, k ≤ l.length → l.length = m.length → (∀ j u v, j < k → l[j]? = some u → m[j]? = some v → kb u v = 0) → ((l.take k).flatMap Tm.flat).length = ((m.take k).flatMap Tm.flat).length ∧ (l.take k).flatMap Tm.vs = (m.take k).flatMap Tm.vs
  | _, _, 0, _, _, _ => by simp
  | [], _, k + 1, h, _, _ => by simp at h
  | _ :: _, [], k + 1, _, h, _ => by simp at h
  | u :: l, v :: m, k + 1, h, hl, hi => by
    have h0 := (kb_zero u v).1 (hi 0 u v (by omega) rfl rfl)
    obtain ⟨h1, h2⟩ := vs_take_same (l := l) (m := m) (k := k) (by simpa using h) (by simpa using hl) fun j u v hj hu hv => hi (j + 1) u v (by omega) (by simpa using hu) (by simpa using hv)
    have h3 : u.flat.length = v.flat.length := by have := congrArg Tm.size h0; rw [Tm.strip_size, Tm.strip_size] at this; exact this
    have h4 : u.vs = v.vs := by have := congrArg Tm.vs h0; rw [Tm.strip_vs, Tm.strip_vs] at this; exact this
    rw [List.take_succ_cons, List.take_succ_cons, List.flatMap_cons, List.flatMap_cons, List.flatMap_cons, List.flatMap_cons, List.length_append, List.length_append, h1, h2, h3, h4]
    exact ⟨rfl, rfl⟩
theorem split_len {l : List Tm} {k : Nat} {x : Tm} (h : l[k]? = some x) : (l.flatMap Tm.flat).length = ((l.take k).flatMap Tm.flat).length + (x.size + ((l.drop (k + 1)).flatMap Tm.flat).length) ∧ ∀ v, (l.flatMap Tm.vs).count v = ((l.take k).flatMap Tm.vs).count v + (x.vs.count v + ((l.drop (k + 1)).flatMap Tm.vs).count v) := by
  obtain ⟨h1, _⟩ := split_at h
  constructor
  · conv => lhs; rw [h1]
    rw [List.flatMap_append, List.flatMap_cons, List.length_append, List.length_append]
    rfl
  · intro v
    conv => lhs; rw [h1]
    rw [List.flatMap_append, List.flatMap_cons, List.count_append, List.count_append]
theorem scS_spec (a : Tm) : ∀ b, Bds (scS a b) (a.size + b.size) ∧ (kb a b = 0 → scS a b = emp) ∧ (kb a b ≠ 0 → Ss (scS a b) (szD a b) (vD a b)) := by
  induction a using Tm.indp with
  | h a ih =>
    intro b
    by_cases h : a.f ≠ b.f ∨ a.ps.length ≠ b.ps.length
    · rw [scS_ne h]
      have h1 : Bds (addT (-1) (addT 1 emp a) b) (0 + a.size + b.size) := (emp_bds.addT (.inl rfl)).addT (.inr rfl)
      refine ⟨by rw [Nat.zero_add] at h1; exact h1, fun h2 => ?_, fun _ => ?_⟩
      · rw [kb_eq, verd_zero] at h2
        unfold wi at h2
        rw [if_pos h] at h2
        exact absurd h2 (hd_ne h)
      · have h2 := (emp_ss.fold (σ := 1) (l := a.flat)).fold (σ := -1) (l := b.flat)
        refine ⟨?_, h2.nd, h2.sp, h2.lk, fun v => ?_⟩
        · refine h2.sz.trans ?_
          unfold szD Tm.size; omega
        · refine (h2.at_ v).trans ?_
          unfold vD Tm.vs; omega
    · rw [scS_eq h]
      have hw : wi a b = kbs a.ps b.ps := by unfold wi; rw [if_neg h]
      have hll : a.ps.length = b.ps.length := by omega
      rcases first_ne a.ps b.ps hll with ⟨k, x, y, h1, h2, h3, h4⟩ | h1
      · obtain ⟨e1, e2⟩ := scs_at h1 h2 h3 h4
        obtain ⟨b1, b2, b3⟩ := ih x (List.mem_of_getElem? h1) y
        have hk : k < a.ps.length := by
          rcases Nat.lt_or_ge k a.ps.length with h | h
          · exact h
          · rw [List.getElem?_eq_none h] at h1; cases h1
        obtain ⟨v1, v2⟩ := vs_take_same (Nat.le_of_lt hk) hll h4
        obtain ⟨l1, l2⟩ := split_len h1
        obtain ⟨m1, m2⟩ := split_len h2
        have sa := a.size_eq
        have sb := b.size_eq
        rw [e1]
        refine ⟨?_, fun h5 => ?_, fun h5 => ?_⟩
        · have hB := ((b1.addL (.inl rfl) (l := a.ps.drop (k + 1))).addL (.inr rfl) (l := b.ps.drop (k + 1)))
          obtain ⟨q1, q2, q3, q4⟩ := hB
          exact ⟨by omega, by omega, by omega, fun v => by have := q4 v; omega⟩
        · rw [kb_eq, verd_zero, hw, e2] at h5
          exact absurd h5 h3
        · have h6 := ((b3 h3).fold (σ := 1) (l := (a.ps.drop (k + 1)).flatMap Tm.flat)).fold (σ := -1) (l := (b.ps.drop (k + 1)).flatMap Tm.flat)
          refine ⟨?_, h6.nd, h6.sp, h6.lk, fun v => ?_⟩
          · refine h6.sz.trans ?_
            unfold szD; omega
          · refine (h6.at_ v).trans ?_
            rw [vsL_flatMap, vsL_flatMap]
            have p1 := l2 v
            have p2 := m2 v
            rw [← v2] at p2
            have hf : a.f = b.f := by omega
            have ha : a.vs = a.ps.flatMap Tm.vs := by
              by_cases hv : a.f < 0
              · rw [Tm.ps_of_var hv] at hk; simp at hk
              · rw [Tm.vs_sym hv, Tm.ps_of_sym (by omega)]
            have hb : b.vs = b.ps.flatMap Tm.vs := by
              by_cases hv : b.f < 0
              · rw [Tm.ps_of_var (t := a) (by omega)] at hk; simp at hk
              · rw [Tm.vs_sym hv, Tm.ps_of_sym (by omega)]
            unfold vD
            rw [ha, hb]
            omega
      · obtain ⟨e1, e2⟩ := scs_none h1
        rw [e1]
        refine ⟨?_, fun _ => rfl, fun h5 => ?_⟩
        · obtain ⟨q1, q2, q3, q4⟩ := emp_bds
          exact ⟨by omega, by omega, by omega, fun v => by have := q4 v; omega⟩
        · exfalso
          apply h5
          rw [kb_eq, verd_zero, hw, e2]
theorem ord_same (z w : Int) : (if z ≠ 0 then cmpZ z 0 else w) = ordV z w := by
  unfold ordV
  rcases cmpZ_cases z 0 with h | h | h
  · rw [if_pos (by omega), if_neg (by omega), if_pos (by omega), h.1]
  · rw [if_neg (by omega), if_neg (by omega), if_neg (by omega)]
  · rw [if_pos (by omega), if_pos (by omega), h.1]
theorem vd_spec {s : Sc} {a b : Tm} (h : Ss s (szD a b) (vD a b)) {w : Int} (hw : w ≠ 0) : vdS s w = verd (szD a b) (cov a b) (cov b a) w := by
  have h1 : 0 < s.lk ↔ ¬ cov a b := by
    obtain ⟨d1, d2⟩ := dns_zero h.nd
    rw [h.lk]
    have : dnS s.mp = 0 ↔ cov a b := by
      rw [d2]
      unfold cov
      constructor
      · intro h2 v; have := h2 v; rw [h.at_] at this; unfold vD at this; omega
      · intro h2 v; have := h2 v; rw [h.at_]; unfold vD; omega
    rw [← this]; omega
  have h2 : 0 < s.sp ↔ ¬ cov b a := by
    obtain ⟨d1, d2⟩ := ups_zero h.nd
    rw [h.sp]
    have : upS s.mp = 0 ↔ cov b a := by
      rw [d2]
      unfold cov
      constructor
      · intro h2 v; have := h2 v; rw [h.at_] at this; unfold vD at this; omega
      · intro h2 v; have := h2 v; rw [h.at_]; unfold vD; omega
    rw [← this]; omega
  unfold vdS verd pickV ordS
  rw [if_neg hw, h.sz, ord_same]
  by_cases h3 : (ordV (szD a b) w = 1 ∧ ¬ cov a b) ∨ (ordV (szD a b) w = -1 ∧ ¬ cov b a)
  · rw [if_pos h3, if_pos (by rw [h1, h2]; exact h3)]
  · rw [if_neg h3, if_neg (by rw [h1, h2]; exact h3)]
-- 
set_option maxHeartbeats 1000000 in
theorem kCompare_abs : ∀ a : Tm, a.rng → a.ok → a.size ≤ 100000000000 → ∀ b : Tm, b.rng → b.ok → b.size ≤ 100000000000 → AFunO Try.prog 56 (sst emp) [.bp 350001 0 [], .val a.cw, .val b.cw] (.val (.i (kb a b))) (sst (scS a b)) := by
  intro a
  induction a using Tm.indp with
  | h a ih =>
  intro hr hok has b hbr hbok hbs
  have hok' := (Tm.ok_iff _).1 hok
  have hr' := (Tm.rng_iff _).1 hr
  have hbok' := (Tm.ok_iff _).1 hbok
  have hbr' := (Tm.rng_iff _).1 hbr
  have hsz := Tm.size_all a.ps
  have hsz2 := Tm.size_all b.ps
  have el : (a.ps.map Tm.cv).length = a.ps.length := List.length_map ..
  have el2 : (b.ps.map Tm.cv).length = b.ps.length := List.length_map ..
  have hla := a.len_ps
  have hlb := b.len_ps
  obtain ⟨S, hS⟩ : ∃ S, S = scS a b := ⟨_, rfl⟩
  obtain ⟨sp1, sp2, sp3⟩ := scS_spec a b
  refine afunO_of Try.func56 Try.ntmps56 rfl rfl rfl rfl rfl rfl ?_
  intro w U hU
  refine aS (aR ?_)
  (refine nx (a_box (gN rfl) rfl rfl rfl rfl rfl) rfl ?_)
  (refine nx (a_box (gN rfl) rfl rfl rfl rfl rfl) rfl ?_)
  (refine nx (aA (gN rfl) rfl rfl rfl rfl rfl) rfl ?_)
  show AWp _ _ _ _ _ _ _
  refine aS (aD (by kernel_rfl) (by kernel_rfl) ?_)
  (refine nx (aL (gN rfl) rfl rfl rfl rfl rfl rfl rfl rfl rfl rfl rfl rfl) rfl ?_)
  (refine nx (a_call (gN rfl) rfl rfl rfl rfl rfl (kParts_abs w a)) rfl ?_)
  (refine nx (aL (gN rfl) rfl rfl rfl rfl rfl rfl rfl rfl rfl rfl rfl rfl) rfl ?_)
  (refine nx (a_call (gN rfl) rfl rfl rfl rfl rfl (kParts_abs w b)) rfl ?_)
  (refine nx (aA (gN rfl) rfl rfl rfl rfl rfl) rfl ?_)
  (refine nx (aA (gN rfl) rfl rfl rfl rfl rfl) rfl ?_)
  refine ⟨by kernel_rfl, ?_⟩
  show AWp _ _ _ _ _ _ _
  refine AWp.wk (wk_sub (s' := (0, AV.bp 350001 0 []) :: (4, .bp 4 0 []) :: (100004, .bx a.cw) :: (5, .bp 5 0 []) :: (100005, .bx b.cw) :: (7, .val (.lst (a.ps.map Tm.cv))) :: (8, .val (.lst (b.ps.map Tm.cv))) :: sst emp) ⟨rfl, rfl, rfl, rfl, rfl, rfl, rfl, rfl, rfl, rfl, rfl, rfl, rfl, trivial⟩) ?_
  by_cases h : a.f ≠ b.f ∨ a.ps.length ≠ b.ps.length
  case pos =>
    have hw : wi a b = hdK a b := by unfold wi; rw [if_pos h]
    have hk0 : kb a b ≠ 0 := by rw [kb_eq, ne_eq, verd_zero, hw]; exact hd_ne h
    have hres : vdS (addT (-1) (addT 1 emp a) b) (hdK a b) = kb a b := by
      have := vd_spec (w := hdK a b) (by have := sp3 hk0; rw [scS_ne h] at this; exact this) (hd_ne h)
      rw [this, kb_eq, hw]
    rw [scS_ne h]
    by_cases hf : a.f ≠ b.f
    · have g : decide (a.f ≠ b.f) = true := by simpa using hf
      refine aS (aS (aR ?_))
      (refine nx (aF (gN rfl) rfl rfl rfl rfl rfl rfl rfl rfl rfl) rfl ?_)
      (refine nx (aLb (gN rfl) rfl rfl rfl rfl rfl rfl rfl rfl rfl rfl rfl rfl) rfl ?_)
      (refine nx (aF (gN rfl) rfl rfl rfl rfl rfl rfl rfl rfl rfl) rfl ?_)
      (refine nx (aLb (gN rfl) rfl rfl rfl rfl rfl rfl rfl rfl rfl rfl rfl rfl) rfl ?_)
      (refine nx (a_neq (gN rfl) rfl rfl rfl rfl rfl rfl) rfl ?_)
      (refine nx (aM (gN rfl) rfl rfl rfl rfl rfl) rfl ?_)
      (refine ⟨_, _, _, a_off (go_off rfl rfl rfl rfl (by first | rfl | assumption | (simp; done) | (simp [*]; done))) rfl rfl rfl, rfl, ?_⟩)
      (refine ⟨_, _, _, a_off (go_off rfl rfl rfl rfl (by first | rfl | assumption | (simp; done) | (simp [*]; done))) rfl rfl rfl, rfl, ?_⟩)
      (refine ⟨_, _, _, a_off (go_off rfl rfl rfl rfl (by first | rfl | assumption | (simp; done) | (simp [*]; done))) rfl rfl rfl, rfl, ?_⟩)
      (refine ⟨_, _, _, a_off (go_off rfl rfl rfl rfl (by first | rfl | assumption | (simp; done) | (simp [*]; done))) rfl rfl rfl, rfl, ?_⟩)
      (refine ⟨_, _, _, a_off (go_off rfl rfl rfl rfl (by first | rfl | assumption | (simp; done) | (simp [*]; done))) rfl rfl rfl, rfl, ?_⟩)
      (refine ⟨_, _, _, aPt (gN rfl) rfl rfl rfl rfl rfl ?hb rfl, rfl, ?_⟩; case hb => (first | rfl | assumption | (simp; done)))
      show AWp _ _ _ _ _ _ _
      refine aC rfl (fun hc => ?_) (fun hc => by cases hc)
      refine aS (aR ?_)
      (refine nx (aM (gN rfl) rfl rfl rfl rfl rfl) rfl ?_)
      (refine nx (aL (gN rfl) rfl rfl rfl rfl rfl rfl rfl rfl rfl rfl rfl rfl) rfl ?_)
      (refine nx (a_callO (gN rfl) rfl rfl rfl rfl rfl (kAdd_abs 1 (.inl rfl) a hr hok emp 0 emp_bds (by omega)) (by repeat (first | exact trivial | refine ⟨rfl, ?_⟩)) (sst_lend _) (sst_leave _) (by first | rfl | kernel_rfl) (by first | rfl | kernel_rfl) (hnb_of (by first | rfl | kernel_rfl))) rfl ?_)
      show AWp _ _ _ _ _ _ _
      refine aS (aR ?_)
      (refine nx (aM (gN rfl) rfl rfl rfl rfl rfl) rfl ?_)
      (refine nx (aL (gN rfl) rfl rfl rfl rfl rfl rfl rfl rfl rfl rfl rfl rfl) rfl ?_)
      (refine nx (a_callO (gN rfl) rfl rfl rfl rfl rfl (kAdd_abs (-1) (.inr rfl) b hbr hbok (addT 1 emp a) (0 + a.size) (emp_bds.addT (.inl rfl)) (by omega)) (by repeat (first | exact trivial | refine ⟨rfl, ?_⟩)) (sst_lend _) (sst_leave _) (by first | rfl | kernel_rfl) (by first | rfl | kernel_rfl) (hnb_of (by first | rfl | kernel_rfl))) rfl ?_)
      show AWp _ _ _ _ _ _ _
      refine aS (aR ?_)
      (refine nx (aM (gN rfl) rfl rfl rfl rfl rfl) rfl ?_)
      (refine nx (aL (gN rfl) rfl rfl rfl rfl rfl rfl rfl rfl rfl rfl rfl rfl) rfl ?_)
      (refine nx (aL (gN rfl) rfl rfl rfl rfl rfl rfl rfl rfl rfl rfl rfl rfl) rfl ?_)
      (refine nx (a_call (gN rfl) rfl rfl rfl rfl rfl (kHeads_abs w a b)) rfl ?_)
      (refine nx (a_callO (gN rfl) rfl rfl rfl rfl rfl (kVerdict_abs (addT (-1) (addT 1 emp a) b) (hdK a b)) (by repeat (first | exact trivial | refine ⟨rfl, ?_⟩)) (sst_lend _) (sst_leave _) (by first | rfl | kernel_rfl) (by first | rfl | kernel_rfl) (hnb_of (by first | rfl | kernel_rfl))) rfl ?_)
      (refine nx (aA (gN rfl) rfl rfl rfl rfl rfl) rfl ?_)
      show AWp _ _ _ _ _ _ _
      rw [hres]
      exact aT ⟨.inr rfl, _, Wk.refl _, rfl, rfl, rfl, rfl, rfl, rfl, rfl, trivial⟩
    · have g : decide (a.f ≠ b.f) = false := by simpa using hf
      refine aS (aS (aR ?_))
      (refine nx (aF (gN rfl) rfl rfl rfl rfl rfl rfl rfl rfl rfl) rfl ?_)
      (refine nx (aLb (gN rfl) rfl rfl rfl rfl rfl rfl rfl rfl rfl rfl rfl rfl) rfl ?_)
      (refine nx (aF (gN rfl) rfl rfl rfl rfl rfl rfl rfl rfl rfl) rfl ?_)
      (refine nx (aLb (gN rfl) rfl rfl rfl rfl rfl rfl rfl rfl rfl rfl rfl rfl) rfl ?_)
      (refine nx (a_neq (gN rfl) rfl rfl rfl rfl rfl rfl) rfl ?_)
      (refine nx (aM (gN rfl) rfl rfl rfl rfl rfl) rfl ?_)
      (refine nx (aM (gd_on rfl rfl rfl rfl (by first | rfl | assumption | (simp; done))) rfl rfl rfl rfl rfl) rfl ?_)
      (refine nx (a_len (gd_on rfl rfl rfl rfl (by first | rfl | assumption | (simp; done))) rfl rfl rfl rfl rfl rfl rfl) rfl ?_)
      (refine nx (aM (gd_on rfl rfl rfl rfl (by first | rfl | assumption | (simp; done))) rfl rfl rfl rfl rfl) rfl ?_)
      (refine nx (a_len (gd_on rfl rfl rfl rfl (by first | rfl | assumption | (simp; done))) rfl rfl rfl rfl rfl rfl rfl) rfl ?_)
      (refine nx (a_neq (gd_on rfl rfl rfl rfl (by first | rfl | assumption | (simp; done))) rfl rfl rfl rfl rfl rfl) rfl ?_)
      (refine ⟨_, _, _, aPf (gN rfl) rfl rfl rfl rfl rfl ?hb rfl, rfl, ?_⟩; case hb => (first | rfl | assumption | (simp; done)))
      show AWp _ _ _ _ _ _ _
      refine aC rfl (fun hc => ?_) (fun hc => ?_)
      case refine_2 =>
        exfalso
        have hc := of_decide_eq_false hc
        simp only [List.length_map, ne_eq, Decidable.not_not] at hc
        omega
      refine aS (aR ?_)
      (refine nx (aM (gN rfl) rfl rfl rfl rfl rfl) rfl ?_)
      (refine nx (aL (gN rfl) rfl rfl rfl rfl rfl rfl rfl rfl rfl rfl rfl rfl) rfl ?_)
      (refine nx (a_callO (gN rfl) rfl rfl rfl rfl rfl (kAdd_abs 1 (.inl rfl) a hr hok emp 0 emp_bds (by omega)) (by repeat (first | exact trivial | refine ⟨rfl, ?_⟩)) (sst_lend _) (sst_leave _) (by first | rfl | kernel_rfl) (by first | rfl | kernel_rfl) (hnb_of (by first | rfl | kernel_rfl))) rfl ?_)
      show AWp _ _ _ _ _ _ _
      refine aS (aR ?_)
      (refine nx (aM (gN rfl) rfl rfl rfl rfl rfl) rfl ?_)
      (refine nx (aL (gN rfl) rfl rfl rfl rfl rfl rfl rfl rfl rfl rfl rfl rfl) rfl ?_)
      (refine nx (a_callO (gN rfl) rfl rfl rfl rfl rfl (kAdd_abs (-1) (.inr rfl) b hbr hbok (addT 1 emp a) (0 + a.size) (emp_bds.addT (.inl rfl)) (by omega)) (by repeat (first | exact trivial | refine ⟨rfl, ?_⟩)) (sst_lend _) (sst_leave _) (by first | rfl | kernel_rfl) (by first | rfl | kernel_rfl) (hnb_of (by first | rfl | kernel_rfl))) rfl ?_)
      show AWp _ _ _ _ _ _ _
      refine aS (aR ?_)
      (refine nx (aM (gN rfl) rfl rfl rfl rfl rfl) rfl ?_)
      (refine nx (aL (gN rfl) rfl rfl rfl rfl rfl rfl rfl rfl rfl rfl rfl rfl) rfl ?_)
      (refine nx (aL (gN rfl) rfl rfl rfl rfl rfl rfl rfl rfl rfl rfl rfl rfl) rfl ?_)
      (refine nx (a_call (gN rfl) rfl rfl rfl rfl rfl (kHeads_abs w a b)) rfl ?_)
      (refine nx (a_callO (gN rfl) rfl rfl rfl rfl rfl (kVerdict_abs (addT (-1) (addT 1 emp a) b) (hdK a b)) (by repeat (first | exact trivial | refine ⟨rfl, ?_⟩)) (sst_lend _) (sst_leave _) (by first | rfl | kernel_rfl) (by first | rfl | kernel_rfl) (hnb_of (by first | rfl | kernel_rfl))) rfl ?_)
      (refine nx (aA (gN rfl) rfl rfl rfl rfl rfl) rfl ?_)
      show AWp _ _ _ _ _ _ _
      rw [hres]
      exact aT ⟨.inr rfl, _, Wk.refl _, rfl, rfl, rfl, rfl, rfl, rfl, rfl, trivial⟩
  case neg =>
    have hf : a.f = b.f := by omega
    have hll : a.ps.length = b.ps.length := by omega
    have hw : wi a b = kbs a.ps b.ps := by unfold wi; rw [if_neg h]
    have g : decide (a.f ≠ b.f) = false := by simpa using hf
    refine aS (aS (aR ?_))
    (refine nx (aF (gN rfl) rfl rfl rfl rfl rfl rfl rfl rfl rfl) rfl ?_)
    (refine nx (aLb (gN rfl) rfl rfl rfl rfl rfl rfl rfl rfl rfl rfl rfl rfl) rfl ?_)
    (refine nx (aF (gN rfl) rfl rfl rfl rfl rfl rfl rfl rfl rfl) rfl ?_)
    (refine nx (aLb (gN rfl) rfl rfl rfl rfl rfl rfl rfl rfl rfl rfl rfl rfl) rfl ?_)
    (refine nx (a_neq (gN rfl) rfl rfl rfl rfl rfl rfl) rfl ?_)
    (refine nx (aM (gN rfl) rfl rfl rfl rfl rfl) rfl ?_)
    (refine nx (aM (gd_on rfl rfl rfl rfl (by first | rfl | assumption | (simp; done))) rfl rfl rfl rfl rfl) rfl ?_)
    (refine nx (a_len (gd_on rfl rfl rfl rfl (by first | rfl | assumption | (simp; done))) rfl rfl rfl rfl rfl rfl rfl) rfl ?_)
    (refine nx (aM (gd_on rfl rfl rfl rfl (by first | rfl | assumption | (simp; done))) rfl rfl rfl rfl rfl) rfl ?_)
    (refine nx (a_len (gd_on rfl rfl rfl rfl (by first | rfl | assumption | (simp; done))) rfl rfl rfl rfl rfl rfl rfl) rfl ?_)
    (refine nx (a_neq (gd_on rfl rfl rfl rfl (by first | rfl | assumption | (simp; done))) rfl rfl rfl rfl rfl rfl) rfl ?_)
    (refine ⟨_, _, _, aPf (gN rfl) rfl rfl rfl rfl rfl ?hb rfl, rfl, ?_⟩; case hb => (first | rfl | assumption | (simp; done)))
    show AWp _ _ _ _ _ _ _
    refine aC rfl (fun hc => ?_) (fun hc => ?_)
    · exfalso
      have hc := of_decide_eq_true hc
      simp only [List.length_map, ne_eq] at hc
      omega
    refine aK ?_
    show AWp _ _ _ _ _ _ _
    refine aS (aS (aR ?_))
    (refine nx (aM (gN rfl) rfl rfl rfl rfl rfl) rfl ?_)
    (refine nx (a_len (gN rfl) rfl rfl rfl rfl rfl rfl rfl) rfl ?_)
    (refine nx (aM (gN rfl) rfl rfl rfl rfl rfl) rfl ?_)
    show AWp _ _ _ _ _ _ _
    refine aB (awp_countI a.ps.length (fun k => ∀ (j : Nat) u v, j < k → a.ps[j]? = some u → b.ps[j]? = some v → kb u v = 0) (fun k => (0, .bp 350001 0 []) :: (7, .val (.lst (a.ps.map Tm.cv))) :: (8, .val (.lst (b.ps.map Tm.cv))) :: (39, .val (.i (a.ps.map Tm.cv).length)) :: (40, .val (.i k)) :: sst emp) (wk_sub ⟨rfl, rfl, rfl, rfl, rfl, rfl, rfl, rfl, rfl, rfl, rfl, trivial⟩) (fun j u v hj => by omega) ?_)
    intro k hk hI
    refine aS (aR ?_)
    (refine nx (a_lss (gN rfl) rfl rfl rfl rfl rfl rfl) rfl ?_)
    show AWp _ _ _ _ _ _ _
    refine aS (aC rfl (fun hlt => ?_) (fun hlt => ?_))
    · have hkl : k < a.ps.length := by simpa using hlt
      obtain ⟨x, hx⟩ : ∃ x, a.ps[k]? = some x := ⟨a.ps[k], List.getElem?_eq_getElem hkl⟩
      obtain ⟨y, hy⟩ : ∃ y, b.ps[k]? = some y := ⟨b.ps[k]'(by omega), List.getElem?_eq_getElem (by omega)⟩
      have hx' := Tm.map_at hx
      have hy' := Tm.map_at hy
      have hxm := List.mem_of_getElem? hx
      have hym := List.mem_of_getElem? hy
      have hxs := Tm.size_part hxm
      have hys := Tm.size_part hym
      have hrec := ih x hxm (hr'.2 x (Tm.ps_mem hxm).1) (hok'.2 x (Tm.ps_mem hxm).1) (by omega) y (hbr'.2 y (Tm.ps_mem hym).1) (hbok'.2 y (Tm.ps_mem hym).1) (by omega)
      obtain ⟨q1, q2, q3⟩ := scS_spec x y
      refine aK ?_
      show AWp _ _ _ _ _ _ _
      refine aS (aB (aS (aR ?_)))
      (refine nx (aM (gN rfl) rfl rfl rfl rfl rfl) rfl ?_)
      (refine nx (aA (gN rfl) rfl rfl rfl rfl rfl) rfl ?_)
      show AWp _ _ _ _ _ _ _
      refine aS (aD (by kernel_rfl) (by kernel_rfl) ?_)
      (refine nx (aM (gN rfl) rfl rfl rfl rfl rfl) rfl ?_)
      (refine nx (aM (gN rfl) rfl rfl rfl rfl rfl) rfl ?_)
      (refine nx (aM (gN rfl) rfl rfl rfl rfl rfl) rfl ?_)
      (refine nx (a_index (j := k) (gN rfl) rfl rfl rfl rfl rfl rfl rfl rfl rfl (hx') rfl (hsz)) rfl ?_)
      (refine nx (a_load_ad (gN rfl) rfl rfl rfl rfl rfl rfl rfl rfl rfl) rfl ?_)
      (refine nx (aM (gN rfl) rfl rfl rfl rfl rfl) rfl ?_)
      (refine nx (aM (gN rfl) rfl rfl rfl rfl rfl) rfl ?_)
      (refine nx (a_index (j := k) (gN rfl) rfl rfl rfl rfl rfl rfl rfl rfl rfl (hy') rfl (hsz2)) rfl ?_)
      (refine nx (a_load_ad (gN rfl) rfl rfl rfl rfl rfl rfl rfl rfl rfl) rfl ?_)
      (refine nx (a_callO (gN rfl) rfl rfl rfl rfl rfl (hrec) (by repeat (first | exact trivial | refine ⟨rfl, ?_⟩)) (sst_lend _) (sst_leave _) (by first | rfl | kernel_rfl) (by first | rfl | kernel_rfl) (hnb_of (by first | rfl | kernel_rfl))) rfl ?_)
      (refine nx (aA (gN rfl) rfl rfl rfl rfl rfl) rfl ?_)
      refine ⟨by kernel_rfl, ?_⟩
      show AWp _ _ _ _ _ _ _
      refine aS (aR ?_)
      (refine nx (aM (gN rfl) rfl rfl rfl rfl rfl) rfl ?_)
      (refine nx (a_neq (gN rfl) rfl rfl rfl rfl rfl rfl) rfl ?_)
      show AWp _ _ _ _ _ _ _
      refine aC rfl (fun hc => ?_) (fun hc => ?_)
      · have hne : kb x y ≠ 0 := by simpa using hc
        obtain ⟨e1, e2⟩ := scs_at hx hy hne hI
        have hk0 : kb a b ≠ 0 := by rw [kb_eq, ne_eq, verd_zero, hw, e2]; exact hne
        obtain ⟨l1, l2⟩ := split_len hx
        obtain ⟨m1, m2⟩ := split_len hy
        have sa := a.size_eq
        have sb := b.size_eq
        have hA : ∀ t ∈ a.ps.drop (k + 1), t.rng ∧ t.ok := fun t ht => ⟨hr'.2 t (Tm.ps_mem (List.mem_of_mem_drop ht)).1, hok'.2 t (Tm.ps_mem (List.mem_of_mem_drop ht)).1⟩
        have hB : ∀ t ∈ b.ps.drop (k + 1), t.rng ∧ t.ok := fun t ht => ⟨hbr'.2 t (Tm.ps_mem (List.mem_of_mem_drop ht)).1, hbok'.2 t (Tm.ps_mem (List.mem_of_mem_drop ht)).1⟩
        have c1 := kAddAll_abs 1 (.inl rfl) (a.ps.drop (k + 1)) (by rw [List.length_drop]; omega) hA (scS x y) (x.size + y.size) q1 (by omega)
        have b1 := q1.addL (σ := 1) (.inl rfl) (l := a.ps.drop (k + 1))
        have c2 := kAddAll_abs (-1) (.inr rfl) (b.ps.drop (k + 1)) (by rw [List.length_drop]; omega) hB _ _ b1 (by omega)
        rw [List.map_drop] at c1 c2
        have hres : vdS (addL (-1) (addL 1 (scS x y) (a.ps.drop (k + 1))) (b.ps.drop (k + 1))) (kb x y) = kb a b := by
          have := vd_spec (w := kb x y) (by have := sp3 hk0; rw [scS_eq h, e1] at this; exact this) hne
          rw [this, kb_eq a b, hw, e2]
        refine aS (aR ?_)
        (refine nx (aM (gN rfl) rfl rfl rfl rfl rfl) rfl ?_)
        (refine nx (aM (gN rfl) rfl rfl rfl rfl rfl) rfl ?_)
        (refine nx (aM (gN rfl) rfl rfl rfl rfl rfl) rfl ?_)
        (refine nx (a_add (gN rfl) rfl rfl rfl rfl rfl rfl (by first | omega | (simp only [List.length_map, List.length_append, List.length_cons, List.length_nil] <;> omega) | (simp <;> omega))) rfl ?_)
        (refine nx (a_from (lo := k + 1) (gN rfl) rfl rfl rfl rfl rfl rfl rfl rfl rfl (by omega) (by first | assumption | exact sZ rfl | exact Tm.size_all _ | exact Bd.size_all _ | exact ints_size _ | exact bys_size _ | exact Lt.size_all _)) rfl ?_)
        (refine nx (a_callO (gN rfl) rfl rfl rfl rfl rfl (c1) (by repeat (first | exact trivial | refine ⟨rfl, ?_⟩)) (sst_lend _) (sst_leave _) (by first | rfl | kernel_rfl) (by first | rfl | kernel_rfl) (hnb_of (by first | rfl | kernel_rfl))) rfl ?_)
        show AWp _ _ _ _ _ _ _
        refine aS (aR ?_)
        (refine nx (aM (gN rfl) rfl rfl rfl rfl rfl) rfl ?_)
        (refine nx (aM (gN rfl) rfl rfl rfl rfl rfl) rfl ?_)
        (refine nx (aM (gN rfl) rfl rfl rfl rfl rfl) rfl ?_)
        (refine nx (a_add (gN rfl) rfl rfl rfl rfl rfl rfl (by first | omega | (simp only [List.length_map, List.length_append, List.length_cons, List.length_nil] <;> omega) | (simp <;> omega))) rfl ?_)
        (refine nx (a_from (lo := k + 1) (gN rfl) rfl rfl rfl rfl rfl rfl rfl rfl rfl (by omega) (by first | assumption | exact sZ rfl | exact Tm.size_all _ | exact Bd.size_all _ | exact ints_size _ | exact bys_size _ | exact Lt.size_all _)) rfl ?_)
        (refine nx (a_callO (gN rfl) rfl rfl rfl rfl rfl (c2) (by repeat (first | exact trivial | refine ⟨rfl, ?_⟩)) (sst_lend _) (sst_leave _) (by first | rfl | kernel_rfl) (by first | rfl | kernel_rfl) (hnb_of (by first | rfl | kernel_rfl))) rfl ?_)
        show AWp _ _ _ _ _ _ _
        refine aS (aR ?_)
        (refine nx (aM (gN rfl) rfl rfl rfl rfl rfl) rfl ?_)
        (refine nx (aM (gN rfl) rfl rfl rfl rfl rfl) rfl ?_)
        (refine nx (a_callO (gN rfl) rfl rfl rfl rfl rfl (kVerdict_abs _ (kb x y)) (by repeat (first | exact trivial | refine ⟨rfl, ?_⟩)) (sst_lend _) (sst_leave _) (by first | rfl | kernel_rfl) (by first | rfl | kernel_rfl) (hnb_of (by first | rfl | kernel_rfl))) rfl ?_)
        (refine nx (aA (gN rfl) rfl rfl rfl rfl rfl) rfl ?_)
        show AWp _ _ _ _ _ _ _
        rw [hres, scS_eq h, e1]
        exact aT ⟨.inr rfl, _, Wk.refl _, rfl, rfl, rfl, rfl, rfl, rfl, rfl, trivial⟩
      · have h0 : kb x y = 0 := by simpa using hc
        rw [q2 h0]
        refine aK ?_
        show AWp _ _ _ _ _ _ _
        refine aR ?_
        (refine nx (a_add (gN rfl) rfl rfl rfl rfl rfl rfl (by first | omega | (simp only [List.length_map, List.length_append, List.length_cons, List.length_nil] <;> omega) | (simp <;> omega))) rfl ?_)
        (refine nx (aM (gN rfl) rfl rfl rfl rfl rfl) rfl ?_)
        refine ⟨hkl, fun j u v hj hu hv => ?_, wk_sub ⟨rfl, rfl, rfl, rfl, rfl, rfl, rfl, rfl, rfl, rfl, rfl, trivial⟩⟩
        rcases Nat.lt_or_ge j k with h | h
        · exact hI j u v h hu hv
        · have : j = k := by omega
          subst this
          rw [hx] at hu
          rw [hy] at hv
          cases hu; cases hv
          exact h0
    · have hkl : k = a.ps.length := by
        have : ¬ k < a.ps.length := by simpa using hlt
        omega
      subst hkl
      obtain ⟨e1, e2⟩ := scs_none (l := a.ps) (m := b.ps) fun j u v hu hv => hI j u v (by
        rcases Nat.lt_or_ge j a.ps.length with h | h
        · exact h
        · rw [List.getElem?_eq_none h] at hu; cases hu) hu hv
      have h0 : kb a b = 0 := by rw [kb_eq, verd_zero, hw, e2]
      rw [h0, sp2 h0]
      refine aE ?_
      show AWp _ _ _ _ _ _ _
      refine aS (aR ?_)
      (refine nx (aA (gN rfl) rfl rfl rfl rfl rfl) rfl ?_)
      show AWp _ _ _ _ _ _ _
      exact aT ⟨.inr rfl, _, Wk.refl _, rfl, rfl, rfl, rfl, rfl, rfl, rfl, trivial⟩
theorem emp_st : sst emp = sstN 0 0 0 := sst_N rfl
-- 
theorem kCmp_abs (W : World) (a b : Tm) (hr : a.rng) (hok : a.ok) (hs : a.size ≤ 100000000000) (hbr : b.rng) (hbok : b.ok) (hbs : b.size ≤ 100000000000) : AFun Try.prog W 37 [a.cw, b.cw] (.val (.i (kb a b))) := by
  have hc := kCompare_abs a hr hok hs b hbr hbok hbs
  rw [emp_st] at hc
  refine afun_of (rs := [.i (kb a b)]) Try.func37 Try.ntmps37 rfl rfl rfl rfl ?_
  intro w U hW
  refine aS (aR ?_)
  (refine nx (a_box (gN rfl) rfl rfl rfl rfl rfl) rfl ?_)
  (refine nx (a_box (gN rfl) rfl rfl rfl rfl rfl) rfl ?_)
  (refine nx (aA (gN rfl) rfl rfl rfl rfl rfl) rfl ?_)
  show AWp _ _ _ _ _ _ _
  refine aS (aR ?_)
  (refine nx (a_alloc9N 350001 (gN rfl) rfl rfl rfl rfl rfl rfl rfl rfl rfl rfl rfl rfl (fun v h => by first | (rw [hW.1] at h; cases h) | (have h2 := hU _ v h; cases h2))) rfl ?_)
  show AWp _ _ _ _ _ _ _
  refine AWp.wk ((wk_sub (s' := [(2, AV.bp 2 0 []), (100002, .bx a.cw), (3, .bp 3 0 []), (100003, .bx b.cw), (5, .bp 350001 0 []), (450001, .obj), (35500100, .val (.i 0)), (35500101, .val (.sc (.map none))), (35500102, .val (.i 0)), (35500103, .val (.i 0))]) ⟨rfl, rfl, rfl, rfl, rfl, by kernel_rfl, by kernel_rfl, by kernel_rfl, by kernel_rfl, by kernel_rfl, trivial⟩).trans (wk_nmap 35500101 300001 rfl rfl rfl (by kernel_rfl) (by kernel_rfl))) ?_
  refine aS (aR ?_)
  (refine nx (aL (gN rfl) rfl rfl rfl rfl rfl rfl rfl rfl rfl rfl rfl rfl) rfl ?_)
  (refine nx (aL (gN rfl) rfl rfl rfl rfl rfl rfl rfl rfl rfl rfl rfl rfl) rfl ?_)
  (refine nx (a_callO (gN rfl) rfl rfl rfl rfl rfl (hc) (by repeat (first | exact trivial | refine ⟨rfl, ?_⟩)) (by kernel_rfl) (sst_leave _) (by first | rfl | kernel_rfl) (by first | rfl | kernel_rfl) (hnb_of (by first | rfl | kernel_rfl))) rfl ?_)
  (refine nx (aA (gN rfl) rfl rfl rfl rfl rfl) rfl ?_)
  show AWp _ _ _ _ _ _ _
  exact aT ⟨.inr rfl, rfl⟩
-- 
theorem kGreater_abs (W : World) (a b : Tm) (hr : a.rng) (hok : a.ok) (hs : a.size ≤ 100000000000) (hbr : b.rng) (hbok : b.ok) (hbs : b.size ≤ 100000000000) : AFun Try.prog W 33 [a.cw, b.cw] (.val (.b (decide (kb a b = 1)))) := by
  refine afun_of (rs := [.b (decide (kb a b = 1))]) Try.func33 Try.ntmps33 rfl rfl rfl rfl ?_
  intro w U hW
  refine aS (aR ?_)
  (refine nx (a_box (gN rfl) rfl rfl rfl rfl rfl) rfl ?_)
  (refine nx (a_box (gN rfl) rfl rfl rfl rfl rfl) rfl ?_)
  (refine nx (aA (gN rfl) rfl rfl rfl rfl rfl) rfl ?_)
  show AWp _ _ _ _ _ _ _
  refine aS (aR ?_)
  (refine nx (aL (gN rfl) rfl rfl rfl rfl rfl rfl rfl rfl rfl rfl rfl rfl) rfl ?_)
  (refine nx (aL (gN rfl) rfl rfl rfl rfl rfl rfl rfl rfl rfl rfl rfl rfl) rfl ?_)
  (refine nx (a_call (gN rfl) rfl rfl rfl rfl rfl (kCmp_abs w a b hr hok hs hbr hbok hbs)) rfl ?_)
  (refine nx (a_eql (gN rfl) rfl rfl rfl rfl rfl rfl) rfl ?_)
  (refine nx (aA (gN rfl) rfl rfl rfl rfl rfl) rfl ?_)
  show AWp _ _ _ _ _ _ _
  exact aT ⟨.inr rfl, rfl⟩
noncomputable def covB (a b : Tm) : Bool := haveI := Classical.propDecidable; decide (cov a b)
theorem covB_iff (a b : Tm) : covB a b = true ↔ cov a b := by unfold covB; simp
def zTm : Tm := ⟨0, []⟩
theorem del_row (a : List Tm) (k i : Nat) (hi : i < a.length) :
    (((a ++ List.replicate k zTm).map Tm.cv).take i ++ ((((a ++ List.replicate k zTm).map Tm.cv).drop (i + 1)).take (a.length - (i + 1)) ++ ((a ++ List.replicate k zTm).map Tm.cv).drop (i + (a.length - (i + 1))))).take (a.length - 1) ++ (List.replicate (a.length - (a.length - 1)) zTm.cv ++ (((a ++ List.replicate k zTm).map Tm.cv).take i ++ ((((a ++ List.replicate k zTm).map Tm.cv).drop (i + 1)).take (a.length - (i + 1)) ++ ((a ++ List.replicate k zTm).map Tm.cv).drop (i + (a.length - (i + 1))))).drop (a.length - 1 + (a.length - (a.length - 1)))) = (a.eraseIdx i ++ List.replicate (k + 1) zTm).map Tm.cv := by
  have e1 : ((a ++ List.replicate k zTm).map Tm.cv).take i = (a.take i).map Tm.cv := by rw [← List.map_take, List.take_append_of_le_length (by omega)]
  have e2 : (((a ++ List.replicate k zTm).map Tm.cv).drop (i + 1)).take (a.length - (i + 1)) = (a.drop (i + 1)).map Tm.cv := by
    rw [← List.map_drop, ← List.map_take, List.drop_append_of_le_length (by omega), List.take_append_of_le_length (by rw [List.length_drop]; exact Nat.le_refl _), List.take_of_length_le (by rw [List.length_drop]; exact Nat.le_refl _)]
  obtain ⟨E, hE⟩ : ∃ E, E = (a.eraseIdx i).map Tm.cv := ⟨_, rfl⟩
  have hEl : E.length = a.length - 1 := by rw [hE, List.length_map, List.length_eraseIdx_of_lt hi]
  have e3 : (a.take i).map Tm.cv ++ ((a.drop (i + 1)).map Tm.cv ++ ((a ++ List.replicate k zTm).map Tm.cv).drop (i + (a.length - (i + 1)))) = E ++ ((a ++ List.replicate k zTm).map Tm.cv).drop (a.length - 1) := by
    rw [← List.append_assoc, ← List.map_append, ← List.eraseIdx_eq_take_drop_succ, ← hE, show i + (a.length - (i + 1)) = a.length - 1 by omega]
  rw [e1, e2, e3]
  have e4 : a.length - (a.length - 1) = 1 := by omega
  have e5 : a.length - 1 + 1 = a.length := by omega
  have e7 : (a.eraseIdx i ++ List.replicate (k + 1) zTm).map Tm.cv = E ++ List.replicate (k + 1) zTm.cv := by rw [List.map_append, ← hE, List.map_replicate]
  rw [e4, e5, ← hEl, List.take_left, e7]
  have e6 : (E ++ ((a ++ List.replicate k zTm).map Tm.cv).drop E.length).drop a.length = List.replicate k zTm.cv := by
    rw [List.drop_append, List.drop_eq_nil_of_le (by omega), List.nil_append, List.drop_drop, show E.length + (a.length - E.length) = a.length by omega, ← List.map_drop, List.drop_left, List.map_replicate]
  rw [e6, List.replicate_succ]
  rfl
theorem take_cv (a : List Tm) (k : Nat) : ((a ++ List.replicate k zTm).map Tm.cv).take a.length = a.map Tm.cv := by rw [← List.map_take, List.take_left]

-- 
theorem idxT_abs (W : World) (p : Tm → Bool) (fc : CV) (c : List Tm) (hl : c.length ≤ 1000000) (hc : ∀ W, ∀ x ∈ c, AFunW Try.prog W fc [x.cw] (.val (.b (p x)))) : AFun Try.prog W 66 [.lst (c.map Tm.cv), fc] (.val (.i (match c.findIdx? p with | some i => (i : Int) | none => -1))) := by
  have hsz := Tm.size_all c
  obtain ⟨R, hR⟩ : ∃ R : Int, R = match c.findIdx? p with | some i => (i : Int) | none => -1 := ⟨_, rfl⟩
  rw [← hR]
  refine afun_of (rs := [.i R]) Try.func66 Try.ntmps66 rfl rfl rfl rfl ?_
  intro w U hW
  refine aS (aR ?_)
  (refine nx (aA (gN rfl) rfl rfl rfl rfl rfl) rfl ?_)
  show AWp _ _ _ _ _ _ _
  refine aS (aS (aR ?_))
  (refine nx (aM (gN rfl) rfl rfl rfl rfl rfl) rfl ?_)
  (refine nx (a_len (gN rfl) rfl rfl rfl rfl rfl rfl rfl) rfl ?_)
  (refine nx (aM (gN rfl) rfl rfl rfl rfl rfl) rfl ?_)
  show AWp _ _ _ _ _ _ _
  refine aB (awp_countI c.length (fun k => ∀ x ∈ c.take k, p x = false) (fun k => [(0, .val (.lst (c.map Tm.cv))), (1, .val fc), (7, .val (.i (c.map Tm.cv).length)), (8, .val (.i k))]) (wk_sub ⟨rfl, rfl, rfl, rfl, trivial⟩) (by simp) ?_)
  intro k hk hI
  refine aS (aR ?_)
  (refine nx (a_lss (gN rfl) rfl rfl rfl rfl rfl rfl) rfl ?_)
  show AWp _ _ _ _ _ _ _
  refine aS (aC rfl (fun hlt => ?_) (fun hlt => ?_))
  · have hkl : k < c.length := by simpa using hlt
    obtain ⟨x, hx⟩ : ∃ x, c[k]? = some x := ⟨c[k], List.getElem?_eq_getElem hkl⟩
    have hx' := Tm.map_at hx
    have hxm := List.mem_of_getElem? hx
    refine aK ?_
    show AWp _ _ _ _ _ _ _
    refine aS (aB (aS (aR ?_)))
    (refine nx (aM (gN rfl) rfl rfl rfl rfl rfl) rfl ?_)
    (refine nx (aA (gN rfl) rfl rfl rfl rfl rfl) rfl ?_)
    show AWp _ _ _ _ _ _ _
    refine aS (aR ?_)
    (refine nx (aM (gN rfl) rfl rfl rfl rfl rfl) rfl ?_)
    (refine nx (aM (gN rfl) rfl rfl rfl rfl rfl) rfl ?_)
    (refine nx (aM (gN rfl) rfl rfl rfl rfl rfl) rfl ?_)
    (refine nx (a_index (j := k) (gN rfl) rfl rfl rfl rfl rfl rfl rfl rfl rfl (hx') rfl (hsz)) rfl ?_)
    (refine nx (a_load_ad (gN rfl) rfl rfl rfl rfl rfl rfl rfl rfl rfl) rfl ?_)
    (refine nx (a_callw (gN rfl) rfl rfl rfl rfl rfl rfl (hc w x hxm)) rfl ?_)
    show AWp _ _ _ _ _ _ _
    refine aC rfl (fun hp => ?_) (fun hp => ?_)
    · have hRk : R = k := by
        rw [hR]
        have : c.findIdx? p = some k := by
          rw [List.findIdx?_eq_some_iff_getElem]
          obtain ⟨hk2, e⟩ := List.getElem?_eq_some_iff.1 hx
          refine ⟨hk2, by rw [e]; exact hp, fun j hj => ?_⟩
          have := hI c[j] (List.mem_take_iff_getElem.2 ⟨j, by omega, rfl⟩)
          simpa using this
        rw [this]
      rw [hRk]
      refine aS (aR ?_)
      (refine nx (aM (gN rfl) rfl rfl rfl rfl rfl) rfl ?_)
      (refine nx (aA (gN rfl) rfl rfl rfl rfl rfl) rfl ?_)
      show AWp _ _ _ _ _ _ _
      exact aT (And.intro (.inr rfl) rfl)
    · refine aK ?_
      show AWp _ _ _ _ _ _ _
      refine aR ?_
      (refine nx (a_add (gN rfl) rfl rfl rfl rfl rfl rfl (by first | omega | (simp only [List.length_map, List.length_append, List.length_cons, List.length_nil] <;> omega) | (simp <;> omega))) rfl ?_)
      (refine nx (aM (gN rfl) rfl rfl rfl rfl rfl) rfl ?_)
      refine ⟨hkl, ?_, wk_sub ⟨rfl, rfl, rfl, rfl, trivial⟩⟩
      intro y hy
      rw [List.take_add_one, hx, List.mem_append] at hy
      rcases hy with hy | hy
      · exact hI y hy
      · simp at hy; rw [hy]; exact hp
  · have hkl : k = c.length := by
      have : ¬ k < c.length := by simpa using hlt
      omega
    subst hkl
    rw [List.take_length] at hI
    have hRn : R = -1 := by
      rw [hR, List.findIdx?_eq_none_iff.2 fun x hx => by rw [hI x hx]]
    rw [hRn]
    refine aE ?_
    show AWp _ _ _ _ _ _ _
    refine aS (aR ?_)
    (refine nx (aA (gN rfl) rfl rfl rfl rfl rfl) rfl ?_)
    show AWp _ _ _ _ _ _ _
    exact aT (And.intro (.inr rfl) rfl)
-- 
theorem conT_abs (W : World) (p : Tm → Bool) (fc : CV) (c : List Tm) (hl : c.length ≤ 1000000) (hc : ∀ W, ∀ x ∈ c, AFunW Try.prog W fc [x.cw] (.val (.b (p x)))) : AFun Try.prog W 55 [.lst (c.map Tm.cv), fc] (.val (.b (c.any p))) := by
  have e : decide ((match c.findIdx? p with | some i => (i : Int) | none => -1) ≥ 0) = c.any p := by
    cases h : c.findIdx? p with
    | none =>
      have h1 := List.findIdx?_eq_none_iff.1 h
      have : c.any p = false := by
        rw [List.any_eq_false]
        intro x hx
        rw [h1 x hx]; simp
      rw [this]; rfl
    | some i =>
      obtain ⟨hi, hp, _⟩ := List.findIdx?_eq_some_iff_getElem.1 h
      have : c.any p = true := List.any_eq_true.2 ⟨_, List.getElem_mem hi, hp⟩
      rw [this]
      simp
  refine afun_of (rs := [.b (c.any p)]) Try.func55 Try.ntmps55 rfl rfl rfl rfl ?_
  intro w U hW
  refine aS (aR ?_)
  (refine nx (aA (gN rfl) rfl rfl rfl rfl rfl) rfl ?_)
  show AWp _ _ _ _ _ _ _
  refine aS (aR ?_)
  (refine nx (aM (gN rfl) rfl rfl rfl rfl rfl) rfl ?_)
  (refine nx (aM (gN rfl) rfl rfl rfl rfl rfl) rfl ?_)
  (refine nx (a_call (gN rfl) rfl rfl rfl rfl rfl (idxT_abs w p fc c hl hc)) rfl ?_)
  (refine nx (a_geq (gN rfl) rfl rfl rfl rfl rfl rfl) rfl ?_)
  (refine nx (aA (gN rfl) rfl rfl rfl rfl rfl) rfl ?_)
  show AWp _ _ _ _ _ _ _
  rw [e]
  exact aT (And.intro (.inr rfl) rfl)
-- 
theorem cloneT400001_abs (L : List Tm) (hn : L.length ≤ 1000000000) : AFunO Try.prog 39 [] [.val (.lst (L.map Tm.cv))] (.sl 400001 0 L.length 2) [(400001, .mrow 31 2 (L.map Tm.cv))] := by
  have hsz := Tm.size_all L
  refine afunO_of Try.func39 Try.ntmps39 rfl rfl rfl rfl rfl rfl ?_
  intro w U hU
  have hUf : U.f 400001 = none := by
    cases e : U.f 400001 with
    | none => rfl
    | some v => have := hU _ v e; cases this
  refine AWp.nil 0 rfl rfl (fun hl => ?_) ?_
  · have hL : L = [] := by simpa using hl
    subst hL
    refine aS (aR ?_)
    (refine nx (aA (gN rfl) rfl rfl rfl rfl rfl) rfl ?_)
    show AWp _ _ _ _ _ _ _
    refine aS (aS (aR ?_))
    (refine nx (aM (gN rfl) rfl rfl rfl rfl rfl) rfl ?_)
    (refine nx (a_isnil (gN rfl) rfl rfl rfl rfl rfl rfl) rfl ?_)
    show AWp _ _ _ _ _ _ _
    refine aC rfl (fun _ => ?_) (fun h => by cases h)
    refine aS (aR ?_)
    (refine nx (aA (gN rfl) rfl rfl rfl rfl rfl) rfl ?_)
    show AWp _ _ _ _ _ _ _
    exact aT ⟨.inr rfl, _, ((wk_nilM 2 250007 31 2 rfl rfl rfl rfl rfl).trans (wk_sub (s' := [(2, .sl 250007 0 0 2), (250007, .mrow 31 2 [])]) ⟨rfl, rfl, trivial⟩)).trans (wk_renF 250007 400001 rfl rfl hUf rfl rfl rfl), rfl, rfl, trivial⟩
  · refine aS (aR ?_)
    (refine nx (aA (gN rfl) rfl rfl rfl rfl rfl) rfl ?_)
    show AWp _ _ _ _ _ _ _
    refine aS (aS (aR ?_))
    (refine nx (aM (gN rfl) rfl rfl rfl rfl rfl) rfl ?_)
    (refine nx (a_notnil (gN rfl) rfl rfl rfl rfl rfl rfl) rfl ?_)
    show AWp _ _ _ _ _ _ _
    refine aC rfl (fun h => by cases h) (fun _ => ?_)
    refine aK ?_
    show AWp _ _ _ _ _ _ _
    refine AWp.wk ((wk_not 0 rfl rfl).trans (wk_sub (s' := [(0, .val (.lst (L.map Tm.cv)))]) ⟨rfl, trivial⟩)) ?_
    refine aS (aR ?_)
    (refine nx (a_bslice0 (gN rfl) rfl rfl rfl rfl rfl rfl rfl rfl) rfl ?_)
    (refine nx (aM (gN rfl) rfl rfl rfl rfl rfl) rfl ?_)
    (refine nx (a_app0M 250007 (gN rfl) rfl rfl rfl rfl rfl rfl rfl rfl rfl rfl rfl rfl rfl rfl rfl (by first | assumption | exact sZ rfl | exact Tm.size_all _ | exact Bd.size_all _ | exact ints_size _ | exact bys_size _ | exact Lt.size_all _) (by first | omega | (simp only [List.length_map, List.length_append, List.length_cons, List.length_nil] <;> omega) | (simp <;> omega))) rfl ?_)
    (refine nx (aA (gN rfl) rfl rfl rfl rfl rfl) rfl ?_)
    show AWp _ _ _ _ _ _ _
    refine aT ⟨.inr rfl, _, (wk_sub (s' := [(2, .sl 250007 0 L.length 2), (250007, .mrow 31 2 (L.map Tm.cv))]) ⟨?_, rfl, trivial⟩).trans (wk_renF 250007 400001 rfl rfl hUf rfl rfl rfl), rfl, rfl, trivial⟩
    show some (AV.sl _ _ _ _) = some (AV.sl _ _ _ _)
    rw [List.length_map]
    rfl
-- 
theorem cloneT400002_abs (L : List Tm) (hn : L.length ≤ 1000000000) : AFunO Try.prog 39 [] [.val (.lst (L.map Tm.cv))] (.sl 400002 0 L.length 2) [(400002, .mrow 31 2 (L.map Tm.cv))] := by
  have hsz := Tm.size_all L
  refine afunO_of Try.func39 Try.ntmps39 rfl rfl rfl rfl rfl rfl ?_
  intro w U hU
  have hUf : U.f 400002 = none := by
    cases e : U.f 400002 with
    | none => rfl
    | some v => have := hU _ v e; cases this
  refine AWp.nil 0 rfl rfl (fun hl => ?_) ?_
  · have hL : L = [] := by simpa using hl
    subst hL
    refine aS (aR ?_)
    (refine nx (aA (gN rfl) rfl rfl rfl rfl rfl) rfl ?_)
    show AWp _ _ _ _ _ _ _
    refine aS (aS (aR ?_))
    (refine nx (aM (gN rfl) rfl rfl rfl rfl rfl) rfl ?_)
    (refine nx (a_isnil (gN rfl) rfl rfl rfl rfl rfl rfl) rfl ?_)
    show AWp _ _ _ _ _ _ _
    refine aC rfl (fun _ => ?_) (fun h => by cases h)
    refine aS (aR ?_)
    (refine nx (aA (gN rfl) rfl rfl rfl rfl rfl) rfl ?_)
    show AWp _ _ _ _ _ _ _
    exact aT ⟨.inr rfl, _, ((wk_nilM 2 250007 31 2 rfl rfl rfl rfl rfl).trans (wk_sub (s' := [(2, .sl 250007 0 0 2), (250007, .mrow 31 2 [])]) ⟨rfl, rfl, trivial⟩)).trans (wk_renF 250007 400002 rfl rfl hUf rfl rfl rfl), rfl, rfl, trivial⟩
  · refine aS (aR ?_)
    (refine nx (aA (gN rfl) rfl rfl rfl rfl rfl) rfl ?_)
    show AWp _ _ _ _ _ _ _
    refine aS (aS (aR ?_))
    (refine nx (aM (gN rfl) rfl rfl rfl rfl rfl) rfl ?_)
    (refine nx (a_notnil (gN rfl) rfl rfl rfl rfl rfl rfl) rfl ?_)
    show AWp _ _ _ _ _ _ _
    refine aC rfl (fun h => by cases h) (fun _ => ?_)
    refine aK ?_
    show AWp _ _ _ _ _ _ _
    refine AWp.wk ((wk_not 0 rfl rfl).trans (wk_sub (s' := [(0, .val (.lst (L.map Tm.cv)))]) ⟨rfl, trivial⟩)) ?_
    refine aS (aR ?_)
    (refine nx (a_bslice0 (gN rfl) rfl rfl rfl rfl rfl rfl rfl rfl) rfl ?_)
    (refine nx (aM (gN rfl) rfl rfl rfl rfl rfl) rfl ?_)
    (refine nx (a_app0M 250007 (gN rfl) rfl rfl rfl rfl rfl rfl rfl rfl rfl rfl rfl rfl rfl rfl rfl (by first | assumption | exact sZ rfl | exact Tm.size_all _ | exact Bd.size_all _ | exact ints_size _ | exact bys_size _ | exact Lt.size_all _) (by first | omega | (simp only [List.length_map, List.length_append, List.length_cons, List.length_nil] <;> omega) | (simp <;> omega))) rfl ?_)
    (refine nx (aA (gN rfl) rfl rfl rfl rfl rfl) rfl ?_)
    show AWp _ _ _ _ _ _ _
    refine aT ⟨.inr rfl, _, (wk_sub (s' := [(2, .sl 250007 0 L.length 2), (250007, .mrow 31 2 (L.map Tm.cv))]) ⟨?_, rfl, trivial⟩).trans (wk_renF 250007 400002 rfl rfl hUf rfl rfl rfl), rfl, rfl, trivial⟩
    show some (AV.sl _ _ _ _) = some (AV.sl _ _ _ _)
    rw [List.length_map]
    rfl
-- 
theorem del400001_abs (a : List Tm) (k i : Nat) (hi : i < a.length) (hb : a.length + k ≤ 1000000) : AFunO Try.prog 69 [(400001, .mrow 31 2 ((a ++ List.replicate k zTm).map Tm.cv))] [.sl 400001 0 a.length 2, .val (.i i), .val (.i ((i : Int) + 1))] (.sl 400001 0 (a.length - 1) 2) [(400001, .mrow 31 2 ((a.eraseIdx i ++ List.replicate (k + 1) zTm).map Tm.cv))] := by
  refine afunO_of Try.func69 Try.ntmps69 rfl rfl rfl rfl rfl rfl ?_
  intro w U hU
  obtain ⟨l, hl⟩ : ∃ l, l = (a ++ List.replicate k zTm).map Tm.cv := ⟨_, rfl⟩
  have hll : l.length = a.length + k := by rw [hl]; simp
  rw [← hl]
  refine aS (aR ?_)
  (refine nx (aA (gN rfl) rfl rfl rfl rfl rfl) rfl ?_)
  show AWp _ _ _ _ _ _ _
  refine aS (aR ?_)
  (refine nx (aM (gN rfl) rfl rfl rfl rfl rfl) rfl ?_)
  (refine nx (aM (gN rfl) rfl rfl rfl rfl rfl) rfl ?_)
  (refine nx (aM (gN rfl) rfl rfl rfl rfl rfl) rfl ?_)
  (refine nx (aM (gN rfl) rfl rfl rfl rfl rfl) rfl ?_)
  (refine nx (a_lenM (gN rfl) rfl rfl rfl rfl rfl rfl rfl) rfl ?_)
  (refine nx (a_cut3 (i) (i + 1) (a.length) (gN rfl) rfl rfl rfl rfl rfl rfl rfl rfl rfl rfl (by first | rfl | omega | (simp only [List.length_set, List.length_map, List.length_append, List.length_cons, List.length_nil] <;> omega) | (simp <;> omega)) (by first | rfl | omega | (simp only [List.length_set, List.length_map, List.length_append, List.length_cons, List.length_nil] <;> omega) | (simp <;> omega)) (by first | rfl | omega | (simp only [List.length_set, List.length_map, List.length_append, List.length_cons, List.length_nil] <;> omega) | (simp <;> omega)) (by first | rfl | omega | (simp only [List.length_set, List.length_map, List.length_append, List.length_cons, List.length_nil] <;> omega) | (simp <;> omega)) (by first | rfl | omega | (simp only [List.length_set, List.length_map, List.length_append, List.length_cons, List.length_nil] <;> omega) | (simp <;> omega)) (by first | rfl | omega | (simp only [List.length_set, List.length_map, List.length_append, List.length_cons, List.length_nil] <;> omega) | (simp <;> omega))) rfl ?_)
  show AWp _ _ _ _ _ _ _
  refine aS (aS (aR ?_))
  (refine nx (aM (gN rfl) rfl rfl rfl rfl rfl) rfl ?_)
  (refine nx (aM (gN rfl) rfl rfl rfl rfl rfl) rfl ?_)
  (refine nx (a_eql (gN rfl) rfl rfl rfl rfl rfl rfl) rfl ?_)
  show AWp _ _ _ _ _ _ _
  refine aC rfl (fun h => ?_) (fun h => ?_)
  · have h : decide ((i : Int) = (i : Int) + 1) = true := h
    have := of_decide_eq_true h
    omega
  refine aK ?_
  show AWp _ _ _ _ _ _ _
  refine AWp.wk (wk_sub (s' := [(0, .sl 400001 0 a.length 2), (1, .val (.i i)), (2, .val (.i ((i : Int) + 1))), (400001, .mrow 31 2 l)]) ⟨rfl, rfl, rfl, rfl, trivial⟩) ?_
  refine aS (aR ?_)
  (refine nx (aM (gN rfl) rfl rfl rfl rfl rfl) rfl ?_)
  (refine nx (a_lenM (gN rfl) rfl rfl rfl rfl rfl rfl rfl) rfl ?_)
  (refine nx (aA (gN rfl) rfl rfl rfl rfl rfl) rfl ?_)
  show AWp _ _ _ _ _ _ _
  refine aS (aD (by kernel_rfl) (by kernel_rfl) ?_)
  (refine nx (aM (gN rfl) rfl rfl rfl rfl rfl) rfl ?_)
  (refine nx (aM (gN rfl) rfl rfl rfl rfl rfl) rfl ?_)
  (refine nx (a_uptoM (j := i) (gN rfl) rfl rfl rfl rfl rfl rfl rfl rfl (by first | rfl | omega | (simp only [List.length_set, List.length_map, List.length_append, List.length_cons, List.length_nil] <;> omega) | (simp <;> omega)) (by first | rfl | omega | (simp only [List.length_set, List.length_map, List.length_append, List.length_cons, List.length_nil] <;> omega) | (simp <;> omega))) rfl ?_)
  (refine nx (aM (gN rfl) rfl rfl rfl rfl rfl) rfl ?_)
  (refine nx (aM (gN rfl) rfl rfl rfl rfl rfl) rfl ?_)
  (refine nx (a_fromM (j := i + 1) (gN rfl) rfl rfl rfl rfl rfl rfl rfl rfl (by first | rfl | omega | (simp only [List.length_set, List.length_map, List.length_append, List.length_cons, List.length_nil] <;> omega) | (simp <;> omega)) (by first | rfl | omega | (simp only [List.length_set, List.length_map, List.length_append, List.length_cons, List.length_nil] <;> omega) | (simp <;> omega))) rfl ?_)
  (refine nx (a_appI (gN rfl) rfl rfl rfl rfl rfl rfl rfl rfl rfl (by first | rfl | omega | (simp only [List.length_set, List.length_map, List.length_append, List.length_cons, List.length_nil] <;> omega) | (simp <;> omega)) (by first | rfl | omega | (simp only [List.length_set, List.length_map, List.length_append, List.length_cons, List.length_nil] <;> omega) | (simp <;> omega))) rfl ?_)
  (refine nx (aA (gN rfl) rfl rfl rfl rfl rfl) rfl ?_)
  refine ⟨by kernel_rfl, ?_⟩
  show AWp _ _ _ _ _ _ _
  obtain ⟨r1, hr1⟩ : ∃ r1, r1 = l.take i ++ ((l.drop (0 + (i + 1))).take (a.length - (i + 1)) ++ l.drop (i + (a.length - (i + 1)))) := ⟨_, rfl⟩
  have hr1l : r1.length = l.length := by rw [hr1]; simp only [List.length_append, List.length_take, List.length_drop]; omega
  have e1 : i + (a.length - (i + 1)) = a.length - 1 := by omega
  refine AWp.wk (wk_sub (s' := [(0, .sl 400001 0 (a.length - 1) 2), (7, .val (.i a.length)), (400001, .mrow 31 2 r1)]) ⟨by rw [← e1]; rfl, rfl, by rw [hr1]; rfl, trivial⟩) ?_
  refine aS (aR ?_)
  (refine nx (aM (gN rfl) rfl rfl rfl rfl rfl) rfl ?_)
  (refine nx (aM (gN rfl) rfl rfl rfl rfl rfl) rfl ?_)
  (refine nx (a_lenM (gN rfl) rfl rfl rfl rfl rfl rfl rfl) rfl ?_)
  (refine nx (aM (gN rfl) rfl rfl rfl rfl rfl) rfl ?_)
  (refine nx (a_cutM (a.length - 1) (a.length) (gN rfl) rfl rfl rfl rfl rfl rfl rfl rfl rfl rfl (by first | rfl | omega | (simp only [List.length_set, List.length_map, List.length_append, List.length_cons, List.length_nil] <;> omega) | (simp <;> omega)) (by first | rfl | omega | (simp only [List.length_set, List.length_map, List.length_append, List.length_cons, List.length_nil] <;> omega) | (simp <;> omega)) (by first | rfl | omega | (simp only [List.length_set, List.length_map, List.length_append, List.length_cons, List.length_nil] <;> omega) | (simp <;> omega)) (by first | rfl | omega | (simp only [List.length_set, List.length_map, List.length_append, List.length_cons, List.length_nil] <;> omega) | (simp <;> omega))) rfl ?_)
  (refine nx (a_clearM (gN rfl) rfl rfl rfl rfl rfl rfl rfl rfl (by first | rfl | omega | (simp only [List.length_set, List.length_map, List.length_append, List.length_cons, List.length_nil] <;> omega) | (simp <;> omega))) rfl ?_)
  show AWp _ _ _ _ _ _ _
  refine aS (aR ?_)
  (refine nx (aM (gN rfl) rfl rfl rfl rfl rfl) rfl ?_)
  (refine nx (aA (gN rfl) rfl rfl rfl rfl rfl) rfl ?_)
  show AWp _ _ _ _ _ _ _
  refine aT ⟨.inr rfl, _, Wk.refl _, rfl, ?_, trivial⟩
  show some (AV.mrow _ _ _) = some (AV.mrow _ _ _)
  have e2 := del_row a k i hi
  rw [← hl] at e2
  rw [← e2, hr1, Nat.zero_add]
  rfl
-- 
theorem del400002_abs (a : List Tm) (k i : Nat) (hi : i < a.length) (hb : a.length + k ≤ 1000000) : AFunO Try.prog 69 [(400002, .mrow 31 2 ((a ++ List.replicate k zTm).map Tm.cv))] [.sl 400002 0 a.length 2, .val (.i i), .val (.i ((i : Int) + 1))] (.sl 400002 0 (a.length - 1) 2) [(400002, .mrow 31 2 ((a.eraseIdx i ++ List.replicate (k + 1) zTm).map Tm.cv))] := by
  refine afunO_of Try.func69 Try.ntmps69 rfl rfl rfl rfl rfl rfl ?_
  intro w U hU
  obtain ⟨l, hl⟩ : ∃ l, l = (a ++ List.replicate k zTm).map Tm.cv := ⟨_, rfl⟩
  have hll : l.length = a.length + k := by rw [hl]; simp
  rw [← hl]
  refine aS (aR ?_)
  (refine nx (aA (gN rfl) rfl rfl rfl rfl rfl) rfl ?_)
  show AWp _ _ _ _ _ _ _
  refine aS (aR ?_)
  (refine nx (aM (gN rfl) rfl rfl rfl rfl rfl) rfl ?_)
  (refine nx (aM (gN rfl) rfl rfl rfl rfl rfl) rfl ?_)
  (refine nx (aM (gN rfl) rfl rfl rfl rfl rfl) rfl ?_)
  (refine nx (aM (gN rfl) rfl rfl rfl rfl rfl) rfl ?_)
  (refine nx (a_lenM (gN rfl) rfl rfl rfl rfl rfl rfl rfl) rfl ?_)
  (refine nx (a_cut3 (i) (i + 1) (a.length) (gN rfl) rfl rfl rfl rfl rfl rfl rfl rfl rfl rfl (by first | rfl | omega | (simp only [List.length_set, List.length_map, List.length_append, List.length_cons, List.length_nil] <;> omega) | (simp <;> omega)) (by first | rfl | omega | (simp only [List.length_set, List.length_map, List.length_append, List.length_cons, List.length_nil] <;> omega) | (simp <;> omega)) (by first | rfl | omega | (simp only [List.length_set, List.length_map, List.length_append, List.length_cons, List.length_nil] <;> omega) | (simp <;> omega)) (by first | rfl | omega | (simp only [List.length_set, List.length_map, List.length_append, List.length_cons, List.length_nil] <;> omega) | (simp <;> omega)) (by first | rfl | omega | (simp only [List.length_set, List.length_map, List.length_append, List.length_cons, List.length_nil] <;> omega) | (simp <;> omega)) (by first | rfl | omega | (simp only [List.length_set, List.length_map, List.length_append, List.length_cons, List.length_nil] <;> omega) | (simp <;> omega))) rfl ?_)
  show AWp _ _ _ _ _ _ _
  refine aS (aS (aR ?_))
  (refine nx (aM (gN rfl) rfl rfl rfl rfl rfl) rfl ?_)
  (refine nx (aM (gN rfl) rfl rfl rfl rfl rfl) rfl ?_)
  (refine nx (a_eql (gN rfl) rfl rfl rfl rfl rfl rfl) rfl ?_)
  show AWp _ _ _ _ _ _ _
  refine aC rfl (fun h => ?_) (fun h => ?_)
  · have h : decide ((i : Int) = (i : Int) + 1) = true := h
    have := of_decide_eq_true h
    omega
  refine aK ?_
  show AWp _ _ _ _ _ _ _
  refine AWp.wk (wk_sub (s' := [(0, .sl 400002 0 a.length 2), (1, .val (.i i)), (2, .val (.i ((i : Int) + 1))), (400002, .mrow 31 2 l)]) ⟨rfl, rfl, rfl, rfl, trivial⟩) ?_
  refine aS (aR ?_)
  (refine nx (aM (gN rfl) rfl rfl rfl rfl rfl) rfl ?_)
  (refine nx (a_lenM (gN rfl) rfl rfl rfl rfl rfl rfl rfl) rfl ?_)
  (refine nx (aA (gN rfl) rfl rfl rfl rfl rfl) rfl ?_)
  show AWp _ _ _ _ _ _ _
  refine aS (aD (by kernel_rfl) (by kernel_rfl) ?_)
  (refine nx (aM (gN rfl) rfl rfl rfl rfl rfl) rfl ?_)
  (refine nx (aM (gN rfl) rfl rfl rfl rfl rfl) rfl ?_)
  (refine nx (a_uptoM (j := i) (gN rfl) rfl rfl rfl rfl rfl rfl rfl rfl (by first | rfl | omega | (simp only [List.length_set, List.length_map, List.length_append, List.length_cons, List.length_nil] <;> omega) | (simp <;> omega)) (by first | rfl | omega | (simp only [List.length_set, List.length_map, List.length_append, List.length_cons, List.length_nil] <;> omega) | (simp <;> omega))) rfl ?_)
  (refine nx (aM (gN rfl) rfl rfl rfl rfl rfl) rfl ?_)
  (refine nx (aM (gN rfl) rfl rfl rfl rfl rfl) rfl ?_)
  (refine nx (a_fromM (j := i + 1) (gN rfl) rfl rfl rfl rfl rfl rfl rfl rfl (by first | rfl | omega | (simp only [List.length_set, List.length_map, List.length_append, List.length_cons, List.length_nil] <;> omega) | (simp <;> omega)) (by first | rfl | omega | (simp only [List.length_set, List.length_map, List.length_append, List.length_cons, List.length_nil] <;> omega) | (simp <;> omega))) rfl ?_)
  (refine nx (a_appI (gN rfl) rfl rfl rfl rfl rfl rfl rfl rfl rfl (by first | rfl | omega | (simp only [List.length_set, List.length_map, List.length_append, List.length_cons, List.length_nil] <;> omega) | (simp <;> omega)) (by first | rfl | omega | (simp only [List.length_set, List.length_map, List.length_append, List.length_cons, List.length_nil] <;> omega) | (simp <;> omega))) rfl ?_)
  (refine nx (aA (gN rfl) rfl rfl rfl rfl rfl) rfl ?_)
  refine ⟨by kernel_rfl, ?_⟩
  show AWp _ _ _ _ _ _ _
  obtain ⟨r1, hr1⟩ : ∃ r1, r1 = l.take i ++ ((l.drop (0 + (i + 1))).take (a.length - (i + 1)) ++ l.drop (i + (a.length - (i + 1)))) := ⟨_, rfl⟩
  have hr1l : r1.length = l.length := by rw [hr1]; simp only [List.length_append, List.length_take, List.length_drop]; omega
  have e1 : i + (a.length - (i + 1)) = a.length - 1 := by omega
  refine AWp.wk (wk_sub (s' := [(0, .sl 400002 0 (a.length - 1) 2), (7, .val (.i a.length)), (400002, .mrow 31 2 r1)]) ⟨by rw [← e1]; rfl, rfl, by rw [hr1]; rfl, trivial⟩) ?_
  refine aS (aR ?_)
  (refine nx (aM (gN rfl) rfl rfl rfl rfl rfl) rfl ?_)
  (refine nx (aM (gN rfl) rfl rfl rfl rfl rfl) rfl ?_)
  (refine nx (a_lenM (gN rfl) rfl rfl rfl rfl rfl rfl rfl) rfl ?_)
  (refine nx (aM (gN rfl) rfl rfl rfl rfl rfl) rfl ?_)
  (refine nx (a_cutM (a.length - 1) (a.length) (gN rfl) rfl rfl rfl rfl rfl rfl rfl rfl rfl rfl (by first | rfl | omega | (simp only [List.length_set, List.length_map, List.length_append, List.length_cons, List.length_nil] <;> omega) | (simp <;> omega)) (by first | rfl | omega | (simp only [List.length_set, List.length_map, List.length_append, List.length_cons, List.length_nil] <;> omega) | (simp <;> omega)) (by first | rfl | omega | (simp only [List.length_set, List.length_map, List.length_append, List.length_cons, List.length_nil] <;> omega) | (simp <;> omega)) (by first | rfl | omega | (simp only [List.length_set, List.length_map, List.length_append, List.length_cons, List.length_nil] <;> omega) | (simp <;> omega))) rfl ?_)
  (refine nx (a_clearM (gN rfl) rfl rfl rfl rfl rfl rfl rfl rfl (by first | rfl | omega | (simp only [List.length_set, List.length_map, List.length_append, List.length_cons, List.length_nil] <;> omega) | (simp <;> omega))) rfl ?_)
  show AWp _ _ _ _ _ _ _
  refine aS (aR ?_)
  (refine nx (aM (gN rfl) rfl rfl rfl rfl rfl) rfl ?_)
  (refine nx (aA (gN rfl) rfl rfl rfl rfl rfl) rfl ?_)
  show AWp _ _ _ _ _ _ _
  refine aT ⟨.inr rfl, _, Wk.refl _, rfl, ?_, trivial⟩
  show some (AV.mrow _ _ _) = some (AV.mrow _ _ _)
  have e2 := del_row a k i hi
  rw [← hl] at e2
  rw [← e2, hr1, Nat.zero_add]
  rfl

-- 
theorem oSame_abs (W : World) (t u : Tm) (ht : t.rng) (hu : u.rng) : AFun Try.prog W 67 [u.cw, .ptr t.cw] (.val (.b (sameT t u))) := by
  refine afun_of (rs := [.b (sameT t u)]) Try.func67 Try.ntmps67 rfl rfl rfl rfl ?_
  intro w U hW
  refine aS (aR ?_)
  (refine nx (a_box (gN rfl) rfl rfl rfl rfl rfl) rfl ?_)
  (refine nx (aA (gN rfl) rfl rfl rfl rfl rfl) rfl ?_)
  show AWp _ _ _ _ _ _ _
  refine aS (aR ?_)
  (refine nx (a_load_ptr (gN rfl) rfl rfl rfl rfl rfl rfl rfl rfl rfl) rfl ?_)
  (refine nx (aL (gN rfl) rfl rfl rfl rfl rfl rfl rfl rfl rfl rfl rfl rfl) rfl ?_)
  (refine nx (a_call (gN rfl) rfl rfl rfl rfl rfl (same_abs w ht hu)) rfl ?_)
  (refine nx (aA (gN rfl) rfl rfl rfl rfl rfl) rfl ?_)
  show AWp _ _ _ _ _ _ _
  exact aT (And.intro (.inr rfl) rfl)
noncomputable def rwT (n : Nat) (a : List Tm) (k : Nat) : Nat × AV := (n, .mrow 31 2 ((a ++ List.replicate k zTm).map Tm.cv))
theorem cut_len : ∀ (n : Nat) (a b : List Tm), (cutN n a b).1.length ≤ a.length ∧ (cutN n a b).2.length ≤ b.length
  | 0, a, b => ⟨Nat.le_refl _, Nat.le_refl _⟩
  | n + 1, a, b => by
    unfold cutN
    split
    · exact cut_len n a b
    · split
      · exact cut_len n a b
      · rename_i k hk
        have h := cut_len n (a.eraseIdx n) (b.eraseIdx k)
        exact ⟨Nat.le_trans h.1 (List.length_eraseIdx_le _ _), Nat.le_trans h.2 (List.length_eraseIdx_le _ _)⟩
theorem cut_mem : ∀ (n : Nat) (a b : List Tm), (∀ t ∈ (cutN n a b).1, t ∈ a) ∧ ∀ t ∈ (cutN n a b).2, t ∈ b
  | 0, a, b => ⟨fun _ h => h, fun _ h => h⟩
  | n + 1, a, b => by
    unfold cutN
    split
    · exact cut_mem n a b
    · split
      · exact cut_mem n a b
      · rename_i k hk
        have h := cut_mem n (a.eraseIdx n) (b.eraseIdx k)
        exact ⟨fun t ht => List.mem_of_mem_eraseIdx (h.1 t ht), fun t ht => List.mem_of_mem_eraseIdx (h.2 t ht)⟩
-- 
theorem oCut_abs (a b : List Tm) (ha : ∀ t ∈ a, t.rng) (hb : ∀ t ∈ b, t.rng) (hal : a.length ≤ 100000) (hbl : b.length ≤ 100000) :
    AFunH Try.prog 52 [rwT 400001 a 0, rwT 400002 b 0] 400001 400002 (fun v1 v2 => [.val (.sc (cutV v1 a.length)), .val (.sc (cutV v2 b.length))]) (fun v1 v2 => .tup [.sc (cutV v1 (cutN a.length a b).1.length), .sc (cutV v2 (cutN a.length a b).2.length)]) [rwT 400001 (cutN a.length a b).1 (a.length - (cutN a.length a b).1.length), rwT 400002 (cutN a.length a b).2 (b.length - (cutN a.length a b).2.length)] := by
  refine afunH_of 2 400001 3 400002 Try.func52 Try.ntmps52 rfl rfl (fun _ _ => rfl) rfl rfl rfl rfl rfl ?_
  intro v1 v2 w U hU
  obtain ⟨X, Y, hXY⟩ : ∃ X Y, cutN a.length a b = (X, Y) := ⟨_, _, rfl⟩
  rw [hXY]
  have hla : ((a ++ List.replicate 0 zTm).map Tm.cv).length = a.length := by simp
  have hlb : ((b ++ List.replicate 0 zTm).map Tm.cv).length = b.length := by simp
  refine AWp.wk ((wk_scsl 0 400001 2 a.length (e := 31) (z := 2) (l := (a ++ List.replicate 0 zTm).map Tm.cv) rfl rfl rfl rfl (by omega)).trans ((wk_scsl 1 400002 3 b.length (e := 31) (z := 2) (l := (b ++ List.replicate 0 zTm).map Tm.cv) rfl rfl rfl rfl (by omega)).trans (wk_sub (s' := [(2, .hdl v1 400001), (3, .hdl v2 400002), (0, .sl 400001 0 a.length 2), (1, .sl 400002 0 b.length 2), rwT 400001 a 0, rwT 400002 b 0]) ⟨rfl, rfl, rfl, rfl, rfl, rfl, trivial⟩))) ?_
  refine aS (aR ?_)
  (refine nx (aA (gN rfl) rfl rfl rfl rfl rfl) rfl ?_)
  (refine nx (aA (gN rfl) rfl rfl rfl rfl rfl) rfl ?_)
  show AWp _ _ _ _ _ _ _
  refine aS (aS (aR ?_))
  (refine nx (aM (gN rfl) rfl rfl rfl rfl rfl) rfl ?_)
  (refine nx (a_lenM (gN rfl) rfl rfl rfl rfl rfl rfl rfl) rfl ?_)
  (refine nx (a_sub (gN rfl) rfl rfl rfl rfl rfl rfl (by first | omega | (simp only [List.length_map, List.length_append, List.length_cons, List.length_nil] <;> omega) | (simp <;> omega))) rfl ?_)
  (refine nx (aA (gN rfl) rfl rfl rfl rfl rfl) rfl ?_)
  show AWp _ _ _ _ _ _ _
  let st : Nat → List Tm → List Tm → Nat → Nat → AS := fun m A B ka kb => [(2, .hdl v1 400001), (3, .hdl v2 400002), (0, .sl 400001 0 A.length 2), (1, .sl 400002 0 B.length 2), (6, .val (.i ((m : Int) - 1))), rwT 400001 A ka, rwT 400002 B kb]
  refine aB (awp_loop (fun j s => ∃ A B ka kb, cutN j A B = (X, Y) ∧ j ≤ A.length ∧ A.length + ka = a.length ∧ B.length + kb = b.length ∧ (∀ t ∈ A, t.rng) ∧ (∀ t ∈ B, t.rng) ∧ s = st j A B ka kb) (s' := st a.length a b 0 0) (wk_sub ⟨rfl, rfl, rfl, rfl, rfl, rfl, rfl, trivial⟩) ⟨a, b, 0, 0, hXY, Nat.le_refl _, rfl, rfl, ha, hb, rfl⟩ ?_)
  rintro m s ⟨A, B, ka, kb, hc, hm, hka, hkb, hA, hB, rfl⟩
  refine aS (aS (aR ?_))
  (refine nx (aM (gN rfl) rfl rfl rfl rfl rfl) rfl ?_)
  (refine nx (a_geq (gN rfl) rfl rfl rfl rfl rfl rfl) rfl ?_)
  show AWp _ _ _ _ _ _ _
  refine aC rfl (fun hlt => ?_) (fun hlt => ?_)
  · have hm0 : 0 < m := by have h3 : decide ((m : Int) - 1 ≥ 0) = true := hlt; have := of_decide_eq_true h3; omega
    obtain ⟨m, rfl⟩ : ∃ q, m = q + 1 := ⟨m - 1, by omega⟩
    have hmA : m < A.length := by omega
    obtain ⟨t, ht⟩ : ∃ t, A[m]? = some t := ⟨A[m], List.getElem?_eq_getElem hmA⟩
    have htr : t.rng := hA t (List.mem_of_getElem? ht)
    have ht' : ((A ++ List.replicate ka zTm).map Tm.cv)[m]? = some t.cw := Tm.map_at (by rw [List.getElem?_append_left hmA]; exact ht)
    have hlA : ((A ++ List.replicate ka zTm).map Tm.cv).length = A.length + ka := by simp
    have hlB : ((B ++ List.replicate kb zTm).map Tm.cv).length = B.length + kb := by simp
    obtain ⟨lA, hlA2⟩ : ∃ lA, lA = (A ++ List.replicate ka zTm).map Tm.cv := ⟨_, rfl⟩
    refine aK ?_
    show AWp _ _ _ _ _ _ _
    refine AWp.wk (wk_sub (s' := [(2, .hdl v1 400001), (3, .hdl v2 400002), (0, .sl 400001 0 A.length 2), (1, .sl 400002 0 B.length 2), (6, .val (.i (((m + 1 : Nat) : Int) - 1))), (400001, .mrow 31 2 lA), rwT 400002 B kb]) ⟨rfl, rfl, rfl, rfl, rfl, by rw [hlA2]; rfl, rfl, trivial⟩) ?_
    rw [← hlA2] at ht' hlA
    refine aS (aB (aS (aR ?_)))
    (refine nx (aM (gN rfl) rfl rfl rfl rfl rfl) rfl ?_)
    (refine nx (aM (gN rfl) rfl rfl rfl rfl rfl) rfl ?_)
    (refine nx (aIm (k := m) (gN rfl) rfl rfl rfl rfl rfl rfl rfl rfl rfl (by first | rfl | omega | (simp only [List.length_set, List.length_map, List.length_append, List.length_cons, List.length_nil] <;> omega) | (simp <;> omega))) rfl ?_)
    (refine nx (a_loadM (gN rfl) rfl rfl rfl rfl rfl rfl rfl rfl (ht') rfl (by first | rfl | omega | (simp only [List.length_set, List.length_map, List.length_append, List.length_cons, List.length_nil] <;> omega) | (simp <;> omega)) rfl rfl) rfl ?_)
    (refine nx (a_alloc (gN rfl) rfl rfl rfl rfl rfl rfl rfl rfl rfl rfl) rfl ?_)
    (refine nx (aSt (gN rfl) rfl rfl rfl rfl rfl rfl rfl rfl rfl rfl) rfl ?_)
    show AWp _ _ _ _ _ _ _
    refine AWp.wk (wk_freeze 7 rfl rfl rfl (s' := [(2, .hdl v1 400001), (3, .hdl v2 400002), (0, .sl 400001 0 A.length 2), (1, .sl 400002 0 B.length 2), (6, .val (.i (((m + 1 : Nat) : Int) - 1))), (400001, .mrow 31 2 lA), rwT 400002 B kb]) ⟨rfl, rfl, rfl, rfl, rfl, rfl, rfl, trivial⟩ rfl rfl rfl) ?_
    have hI := idxT_abs w (sameT t) (.fn 67 0 [.ptr t.cw]) B (by omega) (fun w x hx => .inl ⟨_, _, _, rfl, oSame_abs w t x htr (hB x hx)⟩)
    rw [← take_cv B kb] at hI
    have hI2 := afun_lend1 (e := 31) (z := 2) (nm := 400002) (N := B.length) (by omega) (by omega) (by omega) hI
    refine aS (aR ?_)
    (refine nx (aM (gN rfl) rfl rfl rfl rfl rfl) rfl ?_)
    (refine nx (a_mkfunc (gN rfl) rfl rfl rfl rfl rfl rfl) rfl ?_)
    (refine nx (a_callO (gN rfl) rfl rfl rfl rfl rfl (hI2) (by repeat (first | exact trivial | refine ⟨rfl, ?_⟩)) (by first | rfl | kernel_rfl) (by first | rfl | kernel_rfl) (by first | rfl | kernel_rfl) (by first | rfl | kernel_rfl) (hnb_of (by first | rfl | kernel_rfl))) rfl ?_)
    (refine nx (aA (gN rfl) rfl rfl rfl rfl rfl) rfl ?_)
    show AWp _ _ _ _ _ _ _
    obtain ⟨J, hJ⟩ : ∃ J : Int, J = (match B.findIdx? (sameT t) with | some i => (i : Int) | none => -1) := ⟨_, rfl⟩
    refine AWp.wk (wk_sub (s' := [(2, .hdl v1 400001), (3, .hdl v2 400002), (0, .sl 400001 0 A.length 2), (1, .sl 400002 0 B.length 2), (6, .val (.i (((m + 1 : Nat) : Int) - 1))), (8, .val (.i J)), (400001, .mrow 31 2 lA), rwT 400002 B kb]) ⟨rfl, rfl, rfl, rfl, rfl, by rw [hJ]; rfl, rfl, rfl, trivial⟩) ?_
    refine aS (aR ?_)
    (refine nx (aM (gN rfl) rfl rfl rfl rfl rfl) rfl ?_)
    (refine nx (a_geq (gN rfl) rfl rfl rfl rfl rfl rfl) rfl ?_)
    show AWp _ _ _ _ _ _ _
    unfold cutN at hc
    rw [ht] at hc
    simp only at hc
    refine aC rfl (fun hf => ?_) (fun hf => ?_)
    · have hf : decide (J ≥ 0) = true := hf
      cases hfi : B.findIdx? (sameT t) with
      | none => rw [hfi] at hJ; rw [hJ] at hf; simp at hf
      | some k =>
        rw [hfi] at hJ hc
        have hc : cutN m (A.eraseIdx m) (B.eraseIdx k) = (X, Y) := hc
        obtain ⟨hkl, _, _⟩ := List.findIdx?_eq_some_iff_getElem.1 hfi
        refine AWp.wk (wk_sub (s' := [(2, .hdl v1 400001), (3, .hdl v2 400002), (0, .sl 400001 0 A.length 2), (1, .sl 400002 0 B.length 2), (6, .val (.i (m : Int))), (8, .val (.i (k : Int))), rwT 400001 A ka, rwT 400002 B kb]) ⟨rfl, rfl, rfl, rfl, ?_, by rw [hJ]; rfl, by rw [hlA2]; rfl, rfl, trivial⟩) ?_
        · show some (AV.val (.i (((m + 1 : Nat) : Int) - 1))) = some (AV.val (.i (m : Int)))
          rw [show ((m + 1 : Nat) : Int) - 1 = (m : Int) by omega]
        refine aR ?_
        (refine nx (aM (gN rfl) rfl rfl rfl rfl rfl) rfl ?_)
        (refine nx (aM (gN rfl) rfl rfl rfl rfl rfl) rfl ?_)
        (refine nx (aM (gN rfl) rfl rfl rfl rfl rfl) rfl ?_)
        (refine nx (a_add (gN rfl) rfl rfl rfl rfl rfl rfl (by first | omega | (simp only [List.length_map, List.length_append, List.length_cons, List.length_nil] <;> omega) | (simp <;> omega))) rfl ?_)
        (refine nx (a_callO (gN rfl) rfl rfl rfl rfl rfl (del400001_abs A ka m hmA (by omega)) (by repeat (first | exact trivial | refine ⟨rfl, ?_⟩)) (by first | rfl | kernel_rfl) (by first | rfl | kernel_rfl) (by first | rfl | kernel_rfl) (by first | rfl | kernel_rfl) (hnb_of (by first | rfl | kernel_rfl))) rfl ?_)
        (refine nx (aM (gN rfl) rfl rfl rfl rfl rfl) rfl ?_)
        (refine nx (aM (gN rfl) rfl rfl rfl rfl rfl) rfl ?_)
        (refine nx (aM (gN rfl) rfl rfl rfl rfl rfl) rfl ?_)
        (refine nx (a_add (gN rfl) rfl rfl rfl rfl rfl rfl (by first | omega | (simp only [List.length_map, List.length_append, List.length_cons, List.length_nil] <;> omega) | (simp <;> omega))) rfl ?_)
        (refine nx (a_callO (gN rfl) rfl rfl rfl rfl rfl (del400002_abs B kb k hkl (by omega)) (by repeat (first | exact trivial | refine ⟨rfl, ?_⟩)) (by first | rfl | kernel_rfl) (by first | rfl | kernel_rfl) (by first | rfl | kernel_rfl) (by first | rfl | kernel_rfl) (hnb_of (by first | rfl | kernel_rfl))) rfl ?_)
        (refine nx (aA (gN rfl) rfl rfl rfl rfl rfl) rfl ?_)
        (refine nx (aA (gN rfl) rfl rfl rfl rfl rfl) rfl ?_)
        show AWp _ _ _ _ _ _ _
        have hAe : (A.eraseIdx m).length = A.length - 1 := List.length_eraseIdx_of_lt hmA
        have hBe : (B.eraseIdx k).length = B.length - 1 := List.length_eraseIdx_of_lt hkl
        refine AWp.wk (wk_sub (s' := [(2, .hdl v1 400001), (3, .hdl v2 400002), (0, .sl 400001 0 (A.eraseIdx m).length 2), (1, .sl 400002 0 (B.eraseIdx k).length 2), (6, .val (.i (m : Int))), rwT 400001 (A.eraseIdx m) (ka + 1), rwT 400002 (B.eraseIdx k) (kb + 1)]) ⟨rfl, rfl, by rw [hAe]; rfl, by rw [hBe]; rfl, rfl, rfl, rfl, trivial⟩) ?_
        refine aR ?_
        (refine nx (aM (gN rfl) rfl rfl rfl rfl rfl) rfl ?_)
        (refine nx (a_sub (gN rfl) rfl rfl rfl rfl rfl rfl (by first | omega | (simp only [List.length_map, List.length_append, List.length_cons, List.length_nil] <;> omega) | (simp <;> omega))) rfl ?_)
        (refine nx (aA (gN rfl) rfl rfl rfl rfl rfl) rfl ?_)
        refine ⟨m, st m (A.eraseIdx m) (B.eraseIdx k) (ka + 1) (kb + 1), by omega, ⟨_, _, _, _, hc, by omega, by omega, by omega, fun t h => hA t (List.mem_of_mem_eraseIdx h), fun t h => hB t (List.mem_of_mem_eraseIdx h), rfl⟩, wk_sub ⟨rfl, rfl, rfl, rfl, rfl, rfl, rfl, trivial⟩⟩
    · have hf : decide (J ≥ 0) = false := hf
      cases hfi : B.findIdx? (sameT t) with
      | some k => rw [hfi] at hJ; rw [hJ] at hf; simp at hf
      | none =>
        rw [hfi] at hc
        have hc : cutN m A B = (X, Y) := hc
        refine aK ?_
        show AWp _ _ _ _ _ _ _
        refine AWp.wk (wk_sub (s' := [(2, .hdl v1 400001), (3, .hdl v2 400002), (0, .sl 400001 0 A.length 2), (1, .sl 400002 0 B.length 2), (6, .val (.i (m : Int))), rwT 400001 A ka, rwT 400002 B kb]) ⟨rfl, rfl, rfl, rfl, ?_, by rw [hlA2]; rfl, rfl, trivial⟩) ?_
        · show some (AV.val (.i (((m + 1 : Nat) : Int) - 1))) = some (AV.val (.i (m : Int)))
          rw [show ((m + 1 : Nat) : Int) - 1 = (m : Int) by omega]
        refine aR ?_
        (refine nx (aM (gN rfl) rfl rfl rfl rfl rfl) rfl ?_)
        (refine nx (a_sub (gN rfl) rfl rfl rfl rfl rfl rfl (by first | omega | (simp only [List.length_map, List.length_append, List.length_cons, List.length_nil] <;> omega) | (simp <;> omega))) rfl ?_)
        (refine nx (aA (gN rfl) rfl rfl rfl rfl rfl) rfl ?_)
        refine ⟨m, st m A B ka kb, by omega, ⟨_, _, _, _, hc, by omega, hka, hkb, hA, hB, rfl⟩, wk_sub ⟨rfl, rfl, rfl, rfl, rfl, rfl, rfl, trivial⟩⟩
  · have hm0 : m = 0 := by have h3 : decide ((m : Int) - 1 ≥ 0) = false := hlt; have := of_decide_eq_false h3; omega
    subst hm0
    unfold cutN at hc
    cases hc
    have hkA : ka = a.length - X.length := by omega
    have hkB : kb = b.length - Y.length := by omega
    subst hkA hkB
    refine aE ?_
    show AWp _ _ _ _ _ _ _
    refine aS (aR ?_)
    (refine nx (aM (gN rfl) rfl rfl rfl rfl rfl) rfl ?_)
    (refine nx (aM (gN rfl) rfl rfl rfl rfl rfl) rfl ?_)
    (refine nx (aA (gN rfl) rfl rfl rfl rfl rfl) rfl ?_)
    (refine nx (aA (gN rfl) rfl rfl rfl rfl rfl) rfl ?_)
    show AWp _ _ _ _ _ _ _
    refine aT ⟨.inr rfl, _, (wk_slsc 4 400001 2 rfl rfl rfl).trans (wk_slsc 5 400002 3 rfl rfl rfl), rfl, rfl, rfl, trivial⟩
end Go.Proofs.Ytglbohajmccehaa
namespace Go.Proofs.Ytglbohajmccehaa
open Go.RowKit
set_option linter.unusedVariables false
structure Lt where
  neg : Bool
  a : Tm
  b : Tm
noncomputable abbrev Lt.cw (l : Lt) : CV := .row [.b l.neg, l.a.cw, l.b.cw]
noncomputable def Lt.cv (l : Lt) : CV := l.cw
theorem Lt.size_all (c : List Lt) : ∀ x ∈ c.map Lt.cv, x.size = 5 := by
  intro x hx
  obtain ⟨l, _, rfl⟩ := List.mem_map.1 hx
  rfl
theorem Lt.map_at {c : List Lt} {i : Nat} {l : Lt} (h : c[i]? = some l) : (c.map Lt.cv)[i]? = some l.cw := by rw [List.getElem?_map, h]; rfl
def Lt.strip (l : Lt) : Lt := ⟨l.neg, l.a.strip, l.b.strip⟩
def Lt.rng (l : Lt) : Prop := l.a.rng ∧ l.b.rng
def Lt.ok (l : Lt) : Prop := l.a.ok ∧ l.b.ok
end Go.Proofs.Ytglbohajmccehaa
