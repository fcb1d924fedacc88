/-
  Boxes that are made and written; structs and slices that are built.
-/
import Derived.Test.YtmdhefepaolhcaaAbStep2
import Derived.Great.BuildSlice
namespace Go.Proofs.Ytmdhefepaolhcaa
open Go.RowKit
set_option linter.unusedVariables false
set_option linter.unusedSimpArgs false

noncomputable def CV.upO : CV → List Nat → CV → Option CV
  | c, [], x => match Nat.beq c.size x.size with | true => some x | false => none
  | ⟨k, v, l⟩, i :: p, x => match Nat.beq k 2, preO l i with
    | true, some (_, c) => match c.upO p x with
      | some c' => match setO l i c' with | some l' => some ⟨k, v, l'⟩ | none => none
      | none => none
    | _, _ => none

theorem at_nil (c : CV) : c.at [] = some (0, c) := by cases c; rfl
theorem preO_set : ∀ {l l' : List CV} {i n : Nat} {c c' : CV}, preO l i = some (n, c) → setO l i c' = some l' → preO l' i = some (n, c')
  | [], _, _, _, _, _, h, _ => by simp [preO] at h
  | c :: cs, l', 0, n, c0, c', h, h2 => by
    unfold setO at h2
    split at h2
    · cases h2; simp [preO] at h ⊢; exact h.1
    · cases h2
  | c :: cs, l', i + 1, n, c0, c', h, h2 => by
    unfold setO at h2
    split at h2
    · rename_i r hr
      cases h2
      unfold preO at h
      split at h
      · rename_i m x hx
        cases h
        rw [preO, preO_set hx hr]
      · cases h
    · cases h2

theorem upO_spec {U : Nat → Nat → Prop} {w : World} : ∀ {p : List Nat} {c c2 x c' : CV} {n : Nat} {xs : List Value}, c.at p = some (n, c') → c.upO p x = some c2 → c2.at p = some (n, x) ∧ (Rep U w c xs → ∃ ys zs us, xs = ys ++ zs ++ us ∧ ys.length = n ∧ zs.length = x.size ∧ ∀ vs, Rep U w x vs → Rep U w c2 (ys ++ vs ++ us))
  | [], c, c2, x, c', n, xs, h, h2 => by
    cases c with
    | mk k v l =>
      unfold CV.upO at h2
      split at h2
      · rename_i hb
        cases h2
        simp [CV.at] at h
        obtain ⟨rfl, rfl⟩ := h
        refine ⟨at_nil _, fun hr => ⟨[], xs, [], by simp, rfl, by rw [hr.len]; exact Nat.eq_of_beq_eq_true hb, fun vs hv => by simpa using hv⟩⟩
      · cases h2
  | i :: p, ⟨k, v, l⟩, c2, x, c', n, xs, h, h2 => by
    unfold CV.at at h
    split at h
    · rename_i n1 c1 hk h1
      split at h
      · rename_i m y hy
        cases h
        unfold CV.upO at h2
        rw [hk, h1] at h2
        simp only at h2
        split at h2
        · rename_i c1' hc1
          split at h2
          · rename_i l' hl'
            cases h2
            obtain ⟨ih1, ih2⟩ := upO_spec (xs := []) (U := U) (w := w) hy hc1
            refine ⟨by rw [CV.at, hk, preO_set h1 hl']; simp only [ih1], fun hr => ?_⟩
            have hk2 : k = 2 := Nat.eq_of_beq_eq_true hk
            subst hk2
            rw [Rep, if_pos rfl] at hr
            obtain ⟨_, h3⟩ := preO_spec (f := fun c => Rep U w c) (fun c xs h => h.len) h1
            obtain ⟨ys, zs, us, e, e1, e2, e3⟩ := h3 hr
            obtain ⟨_, ih3⟩ := upO_spec (xs := zs) (U := U) (w := w) hy hc1
            obtain ⟨y2, z2, u2, e4, e5, e6, e7⟩ := ih3 e2
            refine ⟨ys ++ y2, z2, u2 ++ us, by rw [e, e4]; simp, by rw [List.length_append, e1, e5], e6, fun vs hv => ?_⟩
            have := e3 c1' (y2 ++ vs ++ u2) (e7 vs hv)
            rw [(setO_spec hl').1, Rep, if_pos rfl]
            simpa using this
          · cases h2
        · cases h2
      · cases h
    · cases h

/-- Where the zero value holds nil that no part is laid over. -/
def nilB : List CV → List (Nat × Operand) → Nat → Nat × List Nat
  | [], _, _ => (0, [])
  | c :: cs, ps, i => match isNilC c, ps.any (fun x => Nat.beq x.1 i) with
    | true, false => (1, [i])
    | _, _ => nilB cs ps (i + 1)
theorem nilB_spec : ∀ {l : List CV} {ps : List (Nat × Operand)} {i n : Nat} {p : List Nat}, nilB l ps i = (n, p) → n = 0 ∨ ∃ j c, n = 1 ∧ p = [i + j] ∧ l[j]? = some c ∧ isNilC c = true ∧ ∀ x ∈ ps, x.1 ≠ i + j
  | [], _, _, _, _, h => by simp [nilB] at h; exact .inl h.1.symm
  | c :: cs, ps, i, n, p, h => by
    unfold nilB at h
    split at h
    · rename_i h1 h2
      cases h
      refine .inr ⟨0, c, rfl, rfl, rfl, h1, fun x hx e => ?_⟩
      rw [List.any_eq_false] at h2
      have := h2 x hx
      rw [e] at this
      simp at this
    · rcases nilB_spec h with h | ⟨j, c', h1, h2, h3, h4, h5⟩
      · exact .inl h
      · exact .inr ⟨j + 1, c', h1, by rw [h2]; congr 1; omega, by simpa using h3, h4, fun x hx => by have := h5 x hx; omega⟩

theorem setAll_other : ∀ {ps : List (Nat × Value)} {segs : List (List Value)} {i : Nat}, (∀ x ∈ ps, x.1 ≠ i) → (setAll segs ps)[i]? = segs[i]?
  | [], _, _, _ => rfl
  | (j, v) :: ps, segs, i, h => by
    rw [setAll, setAll_other (fun x hx => h x (List.mem_cons_of_mem _ hx)), List.getElem?_set, if_neg (h (j, v) (by simp))]
theorem setAll_len : ∀ {ps : List (Nat × Value)} {segs : List (List Value)}, (∀ x ∈ ps, (segs.map List.length)[x.1]? = some x.2.cells.size) → (setAll segs ps).map List.length = segs.map List.length
  | [], _, _ => rfl
  | (j, v) :: ps, segs, h => by
    have h1 := h (j, v) (by simp)
    simp only at h1
    have h2 : (segs.set j v.cells.toList).map List.length = segs.map List.length := by
      rw [List.map_set]
      apply List.ext_getElem?
      intro k
      rw [List.getElem?_set]
      split
      · rename_i e
        subst e
        split
        · rw [h1]; simp
        · rename_i hl; rw [List.getElem?_eq_none (by omega)]
      · rfl
    rw [setAll, setAll_len (by rw [h2]; exact fun x hx => h x (List.mem_cons_of_mem _ hx)), h2]
theorem flat_at : ∀ {segs : List (List Value)} {i : Nat} {v : Value}, segs[i]? = some [v] → segs.flatten[((segs.map List.length).take i).sum]? = some v
  | [], _, _, h => by simp at h
  | s :: segs, 0, v, h => by simp at h; subst h; simp
  | s :: segs, i + 1, v, h => by
    have := flat_at (segs := segs) (i := i) (v := v) (by simpa using h)
    simp only [List.flatten_cons, List.map_cons, List.take_succ_cons, List.sum_cons]
    rw [List.getElem?_append_right (by omega)]
    rw [show s.length + ((segs.map List.length).take i).sum - s.length = ((segs.map List.length).take i).sum by omega]
    exact this
theorem preO_at : ∀ {l : List CV} {i : Nat} {c : CV}, l[i]? = some c → preO l i = some (((l.map CV.size).take i).sum, c)
  | [], _, _, h => by simp at h
  | x :: l, 0, c, h => by simp at h; subst h; simp [preO]
  | x :: l, i + 1, c, h => by
    rw [preO, preO_at (l := l) (i := i) (c := c) (by simpa using h)]
    simp

/-- The sizes of a struct's fields, one behind the other. -/
def szO (P : Program) : List Field → Nat → Option (List Nat)
  | [], _ => some []
  | f :: fs, o => match Nat.beq f.offset o, P.info? f.type with
    | true, some i => match szO P fs (o + i.size) with | some r => some (i.size :: r) | none => none
    | _, _ => none
theorem szO_spec {P : Program} : ∀ {fs : List Field} {o : Nat} {sz : List Nat}, szO P fs o = some sz → ∃ pl, fs.mapM (fun f => (P.info? f.type).map fun i => (f.offset, i.size)) = some pl ∧ ∀ i z, sz[i]? = some z → pl[i]? = some (o + (sz.take i).sum, z)
  | [], _, sz, h => by simp [szO] at h; subst h; exact ⟨[], rfl, fun i z hi => by simp at hi⟩
  | f :: fs, o, sz, h => by
    unfold szO at h
    split at h
    · rename_i i h1 h2
      split at h
      · rename_i r hr
        cases h
        obtain ⟨pl, h3, h4⟩ := szO_spec hr
        refine ⟨(f.offset, i.size) :: pl, by simp [List.mapM_cons, h2, h3], fun j z hj => ?_⟩
        cases j with
        | zero => simp at hj ⊢; exact ⟨Nat.eq_of_beq_eq_true h1, hj⟩
        | succ j =>
          have := h4 j z (by simpa using hj)
          simp only [List.getElem?_cons_succ, List.take_succ_cons, List.sum_cons]
          rw [this]
          simp only [Option.some.injEq, Prod.mk.injEq, and_true]
          omega
      · cases h
    · cases h

section
variable {P : Program} {w0 : World} {U0 : UX} {nt : Nat} {ops : Array Oper} {o : Oper} {S : Nat → Option AV} {gs : List Nat} {d : Nat} {s : AS} {a : Act} {w : World} {D : Nat → Nat → Prop} {hv : Nat → Value}

theorem mem_rds : ∀ {ps : List (Nat × Operand)} {x : Nat × Operand}, x ∈ ps → ∀ k ∈ rd x.2, k ∈ rds ps
  | y :: ps, x, h, k, hk => by
    rcases List.mem_cons.1 h with rfl | h
    · exact List.mem_append_left _ hk
    · exact List.mem_append_right _ (mem_rds h k hk)

theorem setsO_size {S : Nat → Option AV} : ∀ {ps : List (Nat × Operand)} {zs r : List CV}, setsO S ps zs = some r → r.map CV.size = zs.map CV.size
  | [], zs, r, h => by simp [setsO] at h; rw [h]
  | (i, x) :: ps, zs, r, h => by
    unfold setsO at h
    split at h
    · split at h
      · rename_i zs' hset
        rw [setsO_size h]
        obtain ⟨e1, c0, e2, e3⟩ := setO_spec hset
        rw [e1, List.map_set]
        apply List.ext_getElem?
        intro j
        rw [List.getElem?_set]
        split
        · rename_i e
          subst e
          split
          · rw [List.getElem?_map, e2, Option.map_some, e3]
          · rename_i hl
            rw [List.getElem?_eq_none (by omega)]
        · rfl
      · cases h
    · cases h
/-- A struct is built. -/
theorem a_build (hg : Gd w0 U0 nt ops o gs S) (hd : o.dst = some d) (hn : Nat.blt d nt = true) (h5 : Nat.blt d 100000 = true) {t : TypeId} {parts : Array (Nat × Operand)} {fs : Array Field} {it : TypeInfo} {cs : Array Value} {sz : List Nat} {zs r : List CV} {n : Nat} {p : List Nat} (ho : o.op = .build t parts) (hu : P.underlying t = some (.struct fs)) (hi : P.info? t = some it) (hz : it.zero = some (.agg cs)) (hsz : szO P fs.toList 0 = some sz) (h0 : zsO sz cs.toList = some zs) (hr : setsO S parts.toList zs = some r) (hp : nilB zs parts.toList 0 = (n, p)) :
    AOp P w0 U0 nt ops o (gs ++ rds parts.toList) [] S [(d, ⟨0, .row r, n, 0, p⟩)] :=
  aop_val hg hd hn h5 (fun k hk => List.mem_append_left _ hk) fun s hs a w D hv hm => by
    obtain ⟨segs, e1, e2, e3, e4, e5⟩ := zsO_spec (U := Us w0 U0 D) (w := w) h0
    have hlen : segs.map List.length = zs.map CV.size := by rw [e2, e3]
    obtain ⟨g1, g2⟩ := setsO_spec (U := Us w0 U0 D) (w := w) (ρ := a.eval) (segs := segs) hr (fun x hx c n q p hev => ev_val hm (fun k hk => hs k (List.mem_append_right _ (mem_rds hx k hk))) hev) e4 hlen (fun i c hi => by obtain ⟨seg, f1, f2, _⟩ := e5 i c hi; exact ⟨seg, f1, f2⟩)
    obtain ⟨pl, h1, h2⟩ := szO_spec hsz
    have hfill := fill_segs (place := fun i => pl.toArray[i]?) sz (fun i z hz => by rw [List.getElem?_toArray, h2 i z hz, Nat.zero_add]) (parts.toList.map fun x => (x.1, a.eval x.2)) segs cs e1.symm e2 (fun x hx => by rw [← e3]; exact g1 x hx)
    refine ⟨.agg (setAll segs (parts.toList.map fun x => (x.1, a.eval x.2))).flatten.toArray, ?_, vrep_row.2 ⟨_, rfl, g2⟩, fun hl => ?_⟩
    · have hb : P.built t (parts.map fun x => (x.1, a.eval x.2)).toList = some (setAll segs (parts.toList.map fun x => (x.1, a.eval x.2))).flatten.toArray := by
        unfold Program.built
        rw [hi, hu]
        simp only [hz, h1]
        rw [Array.toList_map]
        exact hfill
      have := run_build w t _ _ hb
      generalize a.eval = ρ at this ⊢
      simp [execOp, ho, this]
    · rcases nilB_spec hp with rfl | ⟨j, c, rfl, rfl, f1, f2, f3⟩
      · exact absurd hl not_live0
      · obtain ⟨seg, f4, _, f5⟩ := e5 j c f1
        rw [f5 f2] at f4
        have hj : (setAll segs (parts.toList.map fun x => (x.1, a.eval x.2)))[j]? = some [.slice none 0 0] := by
          rw [setAll_other, f4]
          intro x hx
          rw [List.mem_map] at hx
          obtain ⟨y, hy, rfl⟩ := hx
          have := f3 y hy
          simp only at this ⊢
          omega
        have hat := flat_at hj
        rw [setAll_len (fun x hx => by rw [hlen]; exact g1 x hx), hlen] at hat
        have hrs := setsO_size hr
        obtain ⟨rj, hrj⟩ : ∃ c', r[j]? = some c' := by
          have : j < r.length := by
            rw [← List.length_map (f := CV.size), hrs, List.length_map]
            rcases Nat.lt_or_ge j zs.length with h | h
            · exact h
            · rw [List.getElem?_eq_none h] at f1; cases f1
          exact ⟨r[j], List.getElem?_eq_getElem this⟩
        refine ⟨((r.map CV.size).take j).sum, rj, ?_, ?_⟩
        · simp only [Nat.zero_add]
          rw [CV.at, preO_at hrj]
          simp only [at_nil]
          rfl
        · rw [hrs]
          simpa [Value.cells, tokv] using hat

theorem alloc_new (w : World) (o : Obj) : (w.alloc o).heap[w.heap.size]? = some o := by
  show (w.heap.push o)[w.heap.size]? = some o
  simp
theorem live_two {x y : AV} {k m n : Nat} {e : Nat × Nat} (hk : k < 200000) (hm : m < 200000) : Live ((k, x) :: (m, y) :: s) n e ↔ Live s n e := by
  unfold Live
  constructor
  · rintro ⟨h1, h2⟩
    rw [look_ne (by omega), look_ne (by omega)] at h1
    exact ⟨h1, h2⟩
  · rintro ⟨h1, h2⟩
    exact ⟨by rw [look_ne (by omega), look_ne (by omega)]; exact h1, h2⟩

/-- A new box. -/
theorem SimG.newbox (h : SimG w0 U0 nt s a w D hv) (hr : NoRef s d) (hd : d < nt) (h5 : d < 100000) {av : AV} (hav : av.t = 5 ∨ av = .obj) {xs : List Value} (ty : TypeId) (hrep : av.t = 5 → Rep (Us w0 U0 D) w av.c xs) (htk : av.t = 5 → Tk hv (LiveN s) av xs) :
    SimG w0 U0 nt ((d, .bp d 0 []) :: (100000 + d, av) :: s) (a.put (some d) (.pointer (some ⟨w.heap.size, 0, none⟩))) (w.alloc (.cells xs.toArray ty)) D (fun k => if k = 100000 + d then .pointer (some ⟨w.heap.size, 0, none⟩) else hv k) := by
  have hb' : Below w.heap.size w (w.alloc (.cells xs.toArray ty)) := (Below.refl _ _).alloc (Nat.le_refl _) _
  have hG := h.grow' hb'
  obtain ⟨s', hs'⟩ : ∃ s', s' = (d, AV.bp d 0 []) :: (100000 + d, av) :: s := ⟨_, rfl⟩
  obtain ⟨hv', hhv⟩ : ∃ hv' : Nat → Value, hv' = fun k => if k = 100000 + d then .pointer (some ⟨w.heap.size, 0, none⟩) else hv k := ⟨_, rfl⟩
  rw [← hs', ← hhv]
  have hl : ∀ n e, Live s' n e ↔ Live s n e := fun n e => by rw [hs']; exact live_two (by omega) (by omega)
  have hl2 : LiveN s' = LiveN s := by funext n; simp only [LiveN, hl]
  have hlk : ∀ k, k ≠ d → k ≠ 100000 + d → look s' k = look s k := fun k h1 h2 => by rw [hs', look_ne (Ne.symm h1), look_ne (Ne.symm h2)]
  have hlb : look s' (100000 + d) = some av := by rw [hs', look_ne (by omega), look_same]
  have hvn : ∀ k, k ≠ 100000 + d → hv' k = hv k := fun k hk => by rw [hhv]; simp only [if_neg hk]
  have hvd : hv' (100000 + d) = .pointer (some ⟨w.heap.size, 0, none⟩) := by rw [hhv]; simp
  have hid : ∀ b o v, Us w0 U0 D b o → (w.alloc (.cells xs.toArray ty)).cell? ⟨b, o, none⟩ = some v → Us w0 U0 D b o ∧ (w.alloc (.cells xs.toArray ty)).cell? ⟨b, o, none⟩ = some v := fun _ _ _ h1 h2 => ⟨h1, h2⟩
  have hmv : ∀ {k av' v}, look s k = some av' → AVRep (Us w0 U0 D) (w.alloc (.cells xs.toArray ty)) hv (LiveN s) av' v → AVRep (Us w0 U0 D) (w.alloc (.cells xs.toArray ty)) hv' (LiveN s) av' v := fun {k av' v} h1 h2 =>
    h2.move hid (fun _ h => h) fun h3 => hvn _ (hk_ne_box h5 (fun n => liveN_rn) (hr k av' h1).1 h3)
  refine ⟨hG.below, h.dfr, by simp [Act.put, h.size], fun d' av' h1 h2 => ?_, fun n o av' h1 h2 h3 h10 => ?_, fun n o o' av1 av2 h1 h2 h3 h4 => ?_, fun k av' h1 h2 => ?_, fun k av' g h1 h2 h3 h4 => ?_, fun k k' av1 av2 g h1 h2 h3 h4 h6 h7 hne => ?_, fun n g h1 => ?_, hG.dlt⟩
  · rw [hl2]
    by_cases e : d = d'
    · subst e
      rw [hs', look_same] at h1
      cases h1
      refine ⟨.pointer (some ⟨w.heap.size, 0, none⟩), by simp [Act.put, h.size, hd], ?_⟩
      unfold AVRep
      simp only [if_true]
      exact ⟨.inl h5, by rw [hvd]; rfl⟩
    · rw [hlk d' (Ne.symm e) (by omega)] at h1
      obtain ⟨v', h3, h4⟩ := hG.slot d' av' h1 h2
      exact ⟨v', by simp [Act.put, e, h3], hmv h1 h4⟩
  · rw [hlk _ (by unfold fKey; omega) (by unfold fKey; omega)] at h1
    have hn := (hr _ _ h1).2.1
    rw [fnm_key h2] at hn
    rw [hlk _ (by omega) (by omega)] at h3
    rw [hl2]
    obtain ⟨v, h4, h6, h7⟩ := hG.fld n o av' h1 h2 h3 h10
    refine ⟨v, hmv h1 h4, h6, ?_⟩
    rw [hvn _ (by omega)]
    exact h7
  · rw [hlk _ (by unfold fKey; omega) (by unfold fKey; omega)] at h1 h2
    exact h.fdis n o o' av1 av2 h1 h2 h3 h4
  · rw [hl2]
    by_cases e : k = 100000 + d
    · subst e
      rw [hlb] at h1
      cases h1
      rw [hvd]
      unfold OC
      rcases hav with hav | rfl
      · rw [if_pos hav]
        refine ⟨w.heap.size, xs, ty, rfl, alloc_new _ _, (hrep hav).keep (us_keep h.dlt hb' fun _ _ h => h), fun hl => ?_⟩
        obtain ⟨m, c, g1, g2⟩ := htk hav hl
        refine ⟨m, c, g1, ?_⟩
        rw [g2]
        unfold tokv
        rcases liveN_rn hl with h6 | h6
        · rw [if_pos h6, if_pos h6]
        · unfold RN at h6
          rw [hvn _ (by omega)]
      · simp only [if_true]
        exact ⟨w.heap.size, xs.toArray, ty, rfl, alloc_new _ _⟩
    · have h2' := h2
      unfold oKey at h2'
      rw [hlk k (by omega) e] at h1
      rw [hvn k e]
      refine (hG.obj k av' h1 h2).move hid (fun _ hl => ⟨hl, ?_⟩) (fun _ _ => rfl)
      unfold tokv
      rcases liveN_rn hl with h6 | h6
      · rw [if_pos h6, if_pos h6]
      · unfold RN at h6
        rw [hvn _ (by omega)]
  · by_cases e : k = 100000 + d
    · subst e
      rw [hvd] at h4
      have h4 : some w.heap.size = some g := h4
      cases h4
      refine ⟨.inl h.below.size, by simp, fun o _ hd => ?_⟩
      have := h.dlt _ _ hd
      omega
    · have h2' := h2
      unfold oKey at h2'
      rw [hlk k (by omega) e] at h1
      rw [hvn k e] at h4 ⊢
      exact hG.blk k av' g h1 h2 h3 h4
  · have h3' := h3
    have h4' := h4
    unfold oKey at h3' h4'
    by_cases e1 : k = 100000 + d
    · have e2 : k' ≠ 100000 + d := fun e => hne (e1.trans e.symm)
      rw [hlk k' (by omega) e2] at h2
      rw [e1, hvd, hvn k' e2]
      intro h8 h9
      have := (h.blk k' av2 g h2 h4 h7 h9).2.1
      have h8 : some w.heap.size = some g := h8
      cases h8
      omega
    · rw [hlk k (by omega) e1] at h1
      by_cases e2 : k' = 100000 + d
      · rw [e2, hvd, hvn k e1]
        intro h8 h9
        have := (h.blk k av1 g h1 h3 h6 h8).2.1
        have h9 : some w.heap.size = some g := h9
        cases h9
        omega
      · rw [hlk k' (by omega) e2] at h2
        rw [hvn k e1, hvn k' e2]
        exact h.disj k k' av1 av2 g h1 h2 h3 h4 h6 h7 hne
  · have := U0.hf n g h1
    rw [hvn _ (by omega)]
    exact h.fix n g h1

theorem run_newVar (ty : TypeId) (v : Value) (w : World) : (newVar ty v).run P w = .ok ⟨w.heap.size, 0, none⟩ (w.alloc (.cells v.cells ty)) := by
  simp [newVar, newRow]

section
variable (hg : Gd w0 U0 nt ops o gs S) (hd : o.dst = some d) (hn : Nat.blt d nt = true) (h5 : Nat.blt d 100000 = true)
include hg hd hn h5

theorem a_box {x : Operand} {ty : TypeId} {c : CV} {n q p} (ho : o.op = .box ty x) (hx : ev S x = some ⟨0, c, n, q, p⟩) : AOp P w0 U0 nt ops o (gs ++ rd x) [(d, [])] S [(d, .bp d 0 []), (100000 + d, ⟨5, c, n, 0, p⟩)] := by
  intro s hs hN a w ⟨D, hv, h⟩ Q K hK
  rw [if_pos (hg s (fun k hk => hs k (List.mem_append_left _ hk)) a w D hv h)]
  obtain ⟨h1, h2⟩ : VRep (Us w0 U0 D) w c (a.eval x) ∧ Tk hv (LiveN s) ⟨0, c, n, q, p⟩ (a.eval x).cells.toList := ev_rep h (fun k hk => hs k (List.mem_append_right _ hk)) hx
  have he : (execOp a.eval o).run P w = .ok (.value (.pointer (some ⟨w.heap.size, 0, none⟩))) (w.alloc (.cells (a.eval x).cells ty)) := by
    generalize a.eval = ρ
    simp [execOp, ho, Instr.box, run_newVar]
  unfold Oper.wp
  rw [he, Oper.upon_value, hd]
  have := h.newbox (d := d) (av := ⟨5, c, n, 0, p⟩) (hN (d, []) (by simp)).nr (blt_lt hn) (blt_lt h5) (.inl rfl) ty (fun _ => h1.cells) (fun _ => h2)
  rw [Array.toArray_toList] at this
  exact hK _ _ ⟨_, _, this⟩

/-- A variable of a struct's type. -/
theorem a_alloc {ty : TypeId} {fs : Array Field} {it : TypeInfo} {cs : Array Value} {sz : List Nat} {zs : List CV} {n : Nat} {p : List Nat} (ho : o.op = .alloc ty) (hu : P.underlying ty = some (.struct fs)) (hi : P.info? ty = some it) (hz : it.zero = some (.agg cs)) (hsz : szO P fs.toList 0 = some sz) (h0 : zsO sz cs.toList = some zs) (hp : nilB zs [] 0 = (n, p)) : AOp P w0 U0 nt ops o gs [(d, [])] S [(d, .bp d 0 []), (100000 + d, ⟨5, .row zs, n, 0, p⟩)] := by
  intro s hs hN a w ⟨D, hv, h⟩ Q K hK
  rw [if_pos (hg s hs a w D hv h)]
  obtain ⟨segs, e1, e2, e3, e4, e5⟩ := zsO_spec (U := Us w0 U0 D) (w := w) h0
  have hrep : Rep (Us w0 U0 D) w (.row zs) cs.toList := by
    rw [rep_row, ← e1]
    exact sq_of_segs e4 (fun i c hi => by obtain ⟨seg, f1, f2, _⟩ := e5 i c hi; exact ⟨seg, f1, f2⟩)
  have htk : Tk hv (LiveN s) ⟨5, .row zs, n, 0, p⟩ cs.toList := fun hl => by
    rcases nilB_spec hp with rfl | ⟨j, c, rfl, rfl, f1, f2, f3⟩
    · exact absurd hl not_live0
    · obtain ⟨seg, f4, _, f5⟩ := e5 j c f1
      rw [f5 f2] at f4
      have hat := flat_at f4
      rw [e2, e1] at hat
      refine ⟨((zs.map CV.size).take j).sum, c, ?_, ?_⟩
      · simp only [Nat.zero_add]
        rw [CV.at, preO_at f1]
        simp only [at_nil]
        rfl
      · rw [e3]
        simpa [tokv] using hat
  have he : (execOp a.eval o).run P w = .ok (.value (.pointer (some ⟨w.heap.size, 0, none⟩))) (w.alloc (.cells cs ty)) := by
    simp [execOp, ho, Instr.alloc, zeroValue, typeInfo, hi, hz, run_newVar, Value.cells]
  unfold Oper.wp
  rw [he, Oper.upon_value, hd]
  have := h.newbox (d := d) (av := ⟨5, .row zs, n, 0, p⟩) (hN (d, []) (by simp)).nr (blt_lt hn) (blt_lt h5) (.inl rfl) ty (fun _ => hrep) (fun _ => htk)
  rw [Array.toArray_toList] at this
  exact hK _ _ ⟨_, _, this⟩
end

/-- What is in an object is written. -/
theorem SimG.store (h : SimG w0 U0 nt s a w D hv) {k0 : Nat} (h5 : oKey k0) {av0 av : AV} (h0 : look s k0 = some av0) (ht0 : av0.t ≠ 7) (hobj : av0.t ≠ 9) (ht : av.t = av0.t) (hnd : ∀ g, NoD D av0 (hv k0) g → NoD D av (hv k0) g) (ht6 : av.t ≠ 6) {g : Nat} (hg : hb (hv k0) = some g) {xs : Array Value} {xs' : List Value} {ty : TypeId} (hx : w.heap[g]? = some (.cells xs ty (0, 0))) (hoc : ∀ w', w'.heap[g]? = some (.cells xs'.toArray ty (0, 0)) → (∀ b o v, Us w0 U0 D b o → w.cell? ⟨b, o, none⟩ = some v → Us w0 U0 D b o ∧ w'.cell? ⟨b, o, none⟩ = some v) → OC (Us w0 U0 D) w' hv (LiveN s) av (hv k0)) :
    SimG w0 U0 nt ((k0, av) :: s) a (w.setRow g xs'.toArray) D hv := by
  obtain ⟨hbase, hlt0, hD⟩ := h.blk k0 av0 g h0 h5 ht0 hg
  have h5' := h5
  unfold oKey at h5'
  have ht6' : av0.t ≠ 6 := by rw [← ht]; exact ht6
  have hD' : ∀ o, ¬ D g o := fun o => hD o fun e => absurd e ht6'
  have hne9 : av ≠ .obj := fun e => hobj (by rw [← ht, e])
  have hne90 : av0 ≠ .obj := fun e => hobj (by rw [e])
  have hl : ∀ n e, Live ((k0, av) :: s) n e ↔ Live s n e := fun n e => by
    unfold Live
    by_cases e1 : k0 = n
    · subst e1
      rw [look_same, h0]
      constructor
      · rintro ⟨h1, _⟩; cases h1; exact absurd rfl ht6
      · rintro ⟨h1, _⟩; cases h1; exact absurd rfl ht6'
    · rw [look_ne e1]
  have hl2 : LiveN ((k0, av) :: s) = LiveN s := by funext k; simp only [LiveN, hl]
  have hoth : ∀ k, k ≠ g → (w.setRow g xs'.toArray).heap[k]? = w.heap[k]? := fun k hk => setRow_other w g k _ hk
  have hkeep : ∀ b o v, Us w0 U0 D b o → w.cell? ⟨b, o, none⟩ = some v → Us w0 U0 D b o ∧ (w.setRow g xs'.toArray).cell? ⟨b, o, none⟩ = some v := fun b o v hu hc => by
    refine ⟨hu, ?_⟩
    rw [cell_setRow_other]
    · exact hc
    · exact us_ne hu hbase (hD' o)
  refine ⟨⟨h.below.os, h.below.tape, h.below.output, by rw [setRow_size]; exact h.below.size, fun k hk hkx => ?_⟩, h.dfr, h.size, fun d av' h1 h2 => ?_, fun n o av' h1 h2 h3 h10 => ?_, fun n o o' av1 av2 h1 h2 => ?_, fun k av' h1 h2 => ?_, fun k av' g' h1 h2 h3 h4 => ?_, fun k k' av1 av2 g' h1 h2 h3 h4 h6 h7 hne => ?_, h.fix, fun b o hd => ?_⟩
  · rw [hoth k]
    · exact h.below.block k hk hkx
    · rintro rfl
      rcases hbase with h1 | h1
      · omega
      · exact hkx h1.2
  · rw [look_ne (by omega)] at h1
    rw [hl2]
    obtain ⟨v, h3, h4⟩ := h.slot d av' h1 h2
    exact ⟨v, h3, h4.keep hkeep⟩
  · rw [look_ne (by unfold fKey; omega)] at h1
    have hne : k0 ≠ 100000 + n := fun e => by subst e; rw [look_same] at h3; cases h3; exact hne9 rfl
    rw [look_ne hne] at h3
    rw [hl2]
    obtain ⟨v, h4, h6, h7⟩ := h.fld n o av' h1 h2 h3 h10
    refine ⟨v, h4.keep hkeep, h6, fun i hi => ?_⟩
    rw [cell_setRow_other]
    · exact h7 i hi
    · show blkOf (hv (100000 + n)) ≠ g
      rintro e
      obtain ⟨g2, ys, ty2, e1, e2, e3⟩ := h.obj9 h3 h10
      have : hb (hv (100000 + n)) = some g := by rw [e1]; rw [e2] at e; rw [← e]; rfl
      exact h.disj k0 (100000 + n) av0 _ g h0 h3 h5 (bn_okey h10) ht0 (by simp) hne hg this
  · rw [look_ne (by unfold fKey; omega)] at h1 h2
    exact h.fdis n o o' av1 av2 h1 h2
  · rw [hl2]
    by_cases e : k0 = k
    · subst e
      rw [look_same] at h1
      cases h1
      exact hoc _ (setRow_heap w _ _ _ _ _ hx) hkeep
    · rw [look_ne e] at h1
      by_cases h7 : av'.t = 7
      · exact oc_no h7
      · exact (h.obj k av' h1 h2).move hkeep (fun _ hl => ⟨hl, rfl⟩) fun g' hg' => hoth g' fun e2 => h.disj k0 k av0 av' g h0 h1 h5 h2 ht0 h7 e hg (e2 ▸ hg')
  · rw [setRow_size]
    by_cases e : k0 = k
    · subst e
      rw [look_same] at h1
      cases h1
      obtain ⟨g1, g2, g3⟩ := h.blk k0 av0 g' h0 h5 ht0 h4
      exact ⟨by rw [lcl_eq ht]; exact g1, g2, hnd g' g3⟩
    · rw [look_ne e] at h1
      exact h.blk k av' g' h1 h2 h3 h4
  · have conv : ∀ q (aq : AV), look ((k0, av) :: s) q = some aq → aq.t ≠ 7 → ∃ aq', look s q = some aq' ∧ aq'.t ≠ 7 := fun q aq h8 h9 => by
      by_cases e : k0 = q
      · exact ⟨av0, by rw [← e]; exact h0, ht0⟩
      · rw [look_ne e] at h8; exact ⟨aq, h8, h9⟩
    obtain ⟨a1, b1, c1⟩ := conv k av1 h1 h6
    obtain ⟨a2, b2, c2⟩ := conv k' av2 h2 h7
    exact h.disj k k' a1 a2 g' b1 b2 h3 h4 c1 c2 hne
  · rw [setRow_size]; exact h.dlt b o hd

theorem run_storeTree {ty : TypeId} {z : Nat} (hi : (P.info? ty).map (·.size) = some z) {g q : Nat} {ys zs us vs : List Value} {t : TypeId} (hg : w.heap[g]? = some (.cells (ys ++ zs ++ us).toArray t (0, 0))) (hq : ys.length = q) {v : Value} (hv : v.cells.toList = vs) (hl : vs.length = zs.length) (hz : vs.length = z) (h1 : ∀ u ∈ vs, u.oneCell' = true) :
    (storeVar ty ⟨g, q, none⟩ v).run P w = .ok () (w.setRow g (ys ++ vs ++ us).toArray) := by
  have hsz : (sizeOf ty).run P w = .ok z w := by
    cases hi' : P.info? ty with
    | none => rw [hi'] at hi; simp at hi
    | some i => rw [hi'] at hi; simp at hi; simp [sizeOf, typeInfo, hi', hi]
  have hc : v.cells.size = z := by rw [← Array.length_toList, hv, hz]
  have hst := run_storeCells_at (P := P) g q t vs 0 (ys ++ zs ++ us).toArray w hg (by simp; omega) h1
  have e1 : ((ys ++ zs ++ us).toArray.toList.take (q + 0) ++ vs ++ (ys ++ zs ++ us).toArray.toList.drop (q + 0 + vs.length)) = ys ++ vs ++ us := by
    subst hq
    simp [List.drop_append, hl]
  rw [e1] at hst
  simp [storeVar, hsz, hc, hv, hst]

/-- A store into a box. -/
theorem a_store (hg : Gd w0 U0 nt ops o gs S) (hd : o.dst = none) {x y : Operand} {ty : TypeId} {z : Nat} {c c' c2 v : CV} {n q p n' q' p' k1 v1 l1 m1 q1} (ho : o.op = .store ty x y) (hi : (P.info? ty).map (·.size) = some z) (hx : ev S x = some ⟨2, ⟨k1, v1, l1⟩, n, q, p⟩) (hn5 : Nat.blt n 400000 = true) (hb : S (100000 + n) = some ⟨5, c, n', q', p'⟩) (hy : ev S y = some ⟨0, v, m1, q1, []⟩) (hat : c.at p = some (q, c')) (hup : c.upO p v = some c2) (hz : v.size = z) :
    AOp P w0 U0 nt ops o (gs ++ (rd x ++ (rd y ++ [100000 + n]))) [] S [(100000 + n, ⟨5, c2, m1, 0, p⟩)] := by
  intro s hs hN a w ⟨D, hv, h⟩ Q K hK
  rw [if_pos (hg s (fun k hk => hs k (List.mem_append_left _ hk)) a w D hv h)]
  have hb' := (hs (100000 + n) (by simp)).trans hb
  have h1 : a.eval x = .pointer (some ⟨blkOf (hv (100000 + n)), q, none⟩) := (ev_rep h (fun k hk => hs k (List.mem_append_right _ (List.mem_append_left _ hk))) hx).2
  obtain ⟨h2, h2t⟩ : VRep (Us w0 U0 D) w v (a.eval y) ∧ Tk hv (LiveN s) ⟨0, v, m1, q1, []⟩ (a.eval y).cells.toList := ev_rep h (fun k hk => hs k (List.mem_append_right _ (List.mem_append_right _ (List.mem_append_left _ hk)))) hy
  obtain ⟨g, xs, t, hgv, h3, h4, _⟩ := h.box hb' (blt_lt hn5)
  have hgb : blkOf (hv (100000 + n)) = g := by rw [hgv]; rfl
  rw [hgb] at h1
  obtain ⟨u1, u2⟩ := upO_spec (U := Us w0 U0 D) (w := w) (xs := xs) hat hup
  obtain ⟨ys, zs, us, e, e1, e2, e3⟩ := u2 h4
  have hvl := h2.cells.len
  subst e
  have hrun := run_storeTree (P := P) hi h3 e1 (v := a.eval y) rfl (by rw [hvl, e2]) (by rw [hvl, hz]) h2.cells.one
  have he : (execOp a.eval o).run P w = .ok .skip (w.setRow g (ys ++ (a.eval y).cells.toList ++ us).toArray) := by
    generalize a.eval = ρ at h1 hrun ⊢
    simp [execOp, ho, Instr.storeAt, Instr.sureAddr, h1, hrun]
  unfold Oper.wp
  rw [he, Oper.upon_skip, hd]
  have hlt5 := blt_lt hn5
  refine hK _ _ ⟨_, _, h.store (av := ⟨5, c2, m1, 0, p⟩) ⟨by omega, by omega⟩ hb' (by simp) (by simp) rfl (fun g' hn o _ => hn o (by simp)) (by simp) (by rw [hgv]; rfl) h3 fun w' hw hkp => ?_⟩
  unfold OC
  simp only [if_true]
  refine ⟨g, _, t, hgv, hw, (e3 _ h2.cells).keep hkp, fun hl => ?_⟩
  obtain ⟨m, c3, g1, g2⟩ := h2t hl
  simp only at g1
  rw [at_nil] at g1
  cases g1
  refine ⟨q, v, u1, ?_⟩
  rw [← e1, List.append_assoc, List.getElem?_append_right (Nat.le_refl _), Nat.sub_self, List.getElem?_append_left]
  · exact g2
  · rcases Nat.lt_or_ge 0 (a.eval y).cells.toList.length with h | h
    · exact h
    · rw [List.getElem?_eq_none h] at g2; cases g2
/-- A whole box is written. -/
theorem a_store_all (hg : Gd w0 U0 nt ops o gs S) (hd : o.dst = none) {x y : Operand} {ty : TypeId} {z : Nat} {c v : CV} {n q n' q' p' k1 v1 l1 m1 q1 p1} (ho : o.op = .store ty x y) (hi : (P.info? ty).map (·.size) = some z) (hx : ev S x = some ⟨2, ⟨k1, v1, l1⟩, n, q, []⟩) (hq : q = 0) (hn5 : Nat.blt n 400000 = true) (hb : S (100000 + n) = some ⟨5, c, n', q', p'⟩) (hy : ev S y = some ⟨0, v, m1, q1, p1⟩) (hcz : c.size = z) (hz : v.size = z) :
    AOp P w0 U0 nt ops o (gs ++ (rd x ++ (rd y ++ [100000 + n]))) [] S [(100000 + n, ⟨5, v, m1, 0, p1⟩)] := by
  intro s hs hN a w ⟨D, hv, h⟩ Q K hK
  subst hq
  rw [if_pos (hg s (fun k hk => hs k (List.mem_append_left _ hk)) a w D hv h)]
  have hb' := (hs (100000 + n) (by simp)).trans hb
  have h1 : a.eval x = .pointer (some ⟨blkOf (hv (100000 + n)), 0, none⟩) := (ev_rep h (fun k hk => hs k (List.mem_append_right _ (List.mem_append_left _ hk))) hx).2
  obtain ⟨h2, h2t⟩ : VRep (Us w0 U0 D) w v (a.eval y) ∧ Tk hv (LiveN s) ⟨0, v, m1, q1, p1⟩ (a.eval y).cells.toList := ev_rep h (fun k hk => hs k (List.mem_append_right _ (List.mem_append_right _ (List.mem_append_left _ hk)))) hy
  obtain ⟨g, xs, t, hgv, h3, h4, _⟩ := h.box hb' (blt_lt hn5)
  have hgb : blkOf (hv (100000 + n)) = g := by rw [hgv]; rfl
  rw [hgb] at h1
  have hvl := h2.cells.len
  have hxl := h4.len
  have hrun := run_storeTree (P := P) (ys := []) (zs := xs) (us := []) (q := 0) (z := z) hi (by simpa using h3) rfl (v := a.eval y) rfl (by rw [hvl, hz, hxl, hcz]) (by rw [hvl, hz]) h2.cells.one
  simp only [List.nil_append, List.append_nil] at hrun
  have he : (execOp a.eval o).run P w = .ok .skip (w.setRow g (a.eval y).cells.toList.toArray) := by
    generalize a.eval = ρ at h1 hrun ⊢
    simp [execOp, ho, Instr.storeAt, Instr.sureAddr, h1, hrun]
  unfold Oper.wp
  rw [he, Oper.upon_skip, hd]
  have hlt5 := blt_lt hn5
  refine hK _ _ ⟨_, _, h.store (av := ⟨5, v, m1, 0, p1⟩) ⟨by omega, by omega⟩ hb' (by simp) (by simp) rfl (fun g' hn o _ => hn o (by simp)) (by simp) (by rw [hgv]; rfl) h3 fun w' hw hkp => ?_⟩
  unfold OC
  simp only [if_true]
  exact ⟨g, _, t, hgv, hw, h2.cells.keep hkp, h2t⟩

end
end Go.Proofs.Ytmdhefepaolhcaa
