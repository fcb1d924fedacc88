/-
  Terms in memory, told by Tat and told as trees; the contracts of term's functions over trees.
-/
import Derived.Test.YtmdhefepaolhcaaAbTm
import Derived.Test.YtmdhefepaolhcaaAbLit
import Derived.Test.YtmdhefepaolhcaaTmVars
import Derived.Test.YtmdhefepaolhcaaTmFine
namespace Go.Proofs.Ytmdhefepaolhcaa
open Go.RowKit
set_option linter.unusedVariables false
set_option maxRecDepth 100000

def Tm.rng : Tm → Prop
  | ⟨f, l⟩ => (-9223372036854775808 ≤ f ∧ f ≤ 9223372036854775807) ∧ ∀ t ∈ l, Tm.rng t
theorem Tm.rng_iff (t : Tm) : t.rng ↔ (-9223372036854775808 ≤ t.f ∧ t.f ≤ 9223372036854775807) ∧ ∀ s ∈ t.l, s.rng := by cases t; rw [Tm.rng]

theorem sq_of_ecs {U : Nat → Prop} {w : World} : ∀ {l : List Tm} {xs : List Value}, (∀ t ∈ l, ∀ a n c, Tat U w t a n c → Rep (fun b _ => U b) w t.cv [.int .i64 t.f, .slice a n c]) → Ecs U w l xs → Sq ((l.map Tm.cv).map fun c => Rep (fun b _ => U b) w c) xs
  | [], xs, _, h => Ecs.nil_iff.1 h
  | t :: ts, xs, ht, h => by
    obtain ⟨a, n, c, ys, e, h1, h2⟩ := Ecs.cons_iff.1 h
    exact ⟨[.int .i64 t.f, .slice a n c], ys, by rw [e]; rfl, ht t (by simp) a n c h1, sq_of_ecs (fun s hs => ht s (List.mem_cons_of_mem _ hs)) h2⟩
theorem at_of_cu {U : Nat → Prop} {w : World} {a : Option Addr} {xs : List Value} (h : Cu U w a xs) : At (fun b _ => U b) w a xs := by
  rcases h with h | ⟨b, off, h1, h2, h3, h4⟩
  · exact .inl h
  · exact .inr ⟨b, off, h1, fun i hi => ⟨h2, h4 i hi⟩⟩
theorem rep_of_tat {U : Nat → Prop} {w : World} : ∀ {t : Tm} {a : Option Addr} {n c : Nat}, Tat U w t a n c → Rep (fun b _ => U b) w t.cv [.int .i64 t.f, .slice a n c] := by
  intro t
  induction t using Tm.ind with
  | h f l ih =>
    intro a n c h
    obtain ⟨_, h2, h3, h4, h5, xs, h6, h7⟩ := tat_iff.1 h
    rw [Tm.cv_eq]
    refine rep_row.2 ⟨[.int .i64 f], [.slice a n c], rfl, rep_int _ _, [.slice a n c], [], rfl, rep_lst.2 ⟨a, n, c, rfl, by rw [List.length_map]; exact h2, h3, h4, h5, xs, at_of_cu h6, sq_of_ecs (fun t ht a n c => ih t ht) h7⟩, rfl⟩
theorem vrep_of_tat {U : Nat → Prop} {w : World} {t : Tm} {a : Option Addr} {n c : Nat} (h : Tat U w t a n c) : VRep (fun b _ => U b) w t.cw (.agg #[.int .i64 t.f, .slice a n c]) := by
  have := rep_of_tat h
  rw [Tm.cv_eq] at this
  exact ⟨_, rfl, this⟩
theorem Tat.rng {U : Nat → Prop} {w : World} : ∀ {t : Tm} {a : Option Addr} {n c : Nat}, Tat U w t a n c → t.rng := by
  intro t
  induction t using Tm.ind with
  | h f l ih =>
    intro a n c h
    obtain ⟨h1, h2, h3, h4, h5, xs, h6, h7⟩ := tat_iff.1 h
    rw [Tm.rng_iff]
    refine ⟨h1, fun s hs => ?_⟩
    obtain ⟨i, hi, he⟩ := List.mem_iff_getElem.1 hs
    obtain ⟨s', a', n', c', e1, e2, _⟩ := h7.at (i := i) hi
    have hi' : i < l.length := hi
    rw [List.getElem?_eq_getElem hi'] at e1
    have e1 := Option.some.inj e1
    have he : l[i] = s := he
    rw [← he]
    exact ih _ (List.getElem_mem hi') (by rw [e1]; exact e2)

theorem ecs_of_sq {U : Nat → Nat → Prop} {w : World} : ∀ {l : List Tm} {xs : List Value}, (∀ t ∈ l, ∀ ys, Rep U w t.cv ys → ∃ a n c, ys = [.int .i64 t.f, .slice a n c] ∧ Tat (fun _ => True) w t a n c) → Sq ((l.map Tm.cv).map fun c => Rep U w c) xs → Ecs (fun _ => True) w l xs
  | [], xs, _, h => Ecs.nil_iff.2 h
  | t :: ts, xs, ht, ⟨ys, zs, e, h1, h2⟩ => by
    obtain ⟨a, n, c, e1, h3⟩ := ht t (by simp) ys h1
    exact Ecs.cons_iff.2 ⟨a, n, c, zs, by rw [e, e1]; rfl, h3, ecs_of_sq (fun s hs => ht s (List.mem_cons_of_mem _ hs)) h2⟩
theorem tat_of_rep {U : Nat → Nat → Prop} {w : World} : ∀ {t : Tm} {xs : List Value}, t.rng → Rep U w t.cv xs → ∃ a n c, xs = [.int .i64 t.f, .slice a n c] ∧ Tat (fun _ => True) w t a n c := by
  intro t
  induction t using Tm.ind with
  | h f l ih =>
    intro xs hr h
    rw [Tm.rng_iff] at hr
    rw [Tm.cv_eq] at h
    obtain ⟨y1, y2, e1, h1, y3, y4, e2, h2, h3⟩ := rep_row.1 h
    obtain ⟨rfl, _⟩ := rep_sc.1 h1
    obtain ⟨a, n, c, rfl, g2, g3, g4, g5, zs, g6, g7⟩ := rep_lst.1 h2
    have h3 : y4 = [] := h3
    subst h3
    refine ⟨a, n, c, by rw [e1, e2]; rfl, tat_iff.2 ⟨hr.1, by rw [List.length_map] at g2; exact g2, g3, g4, g5, zs, ?_, ecs_of_sq (fun t ht ys hy => ih t ht (hr.2 t ht) hy) g7⟩⟩
    rcases g6 with g6 | ⟨b, off, g6, g8⟩
    · exact .inl g6
    · by_cases hz : zs = []
      · exact .inl hz
      · refine .inr ⟨b, off, g6, trivial, ?_, fun i hi => (g8 i hi).2⟩
        have hpos : 0 < zs.length := List.length_pos_iff.2 hz
        have := (g8 0 hpos).2
        rw [List.getElem?_eq_getElem hpos] at this
        exact World.block_lt_of_cell? w _ this
theorem tat_of_vrep {U : Nat → Nat → Prop} {w : World} {t : Tm} {v : Value} (hr : t.rng) (h : VRep U w t.cw v) : ∃ a n c, v = .agg #[.int .i64 t.f, .slice a n c] ∧ Tat (fun _ => True) w t a n c := by
  obtain ⟨xs, h1, h2⟩ : ∃ xs : List Value, v = .agg xs.toArray ∧ Rep U w t.cw xs := h
  rw [← Tm.cv_eq] at h2
  obtain ⟨a, n, c, h3, h4⟩ := tat_of_rep hr h2
  exact ⟨a, n, c, by rw [h1, h3], h4⟩

theorem same_abs (W : World) {t s : Tm} (ht : t.rng) (hs : s.rng) : AFun Try.prog W 27 [t.cw, s.cw] (.val (.b (sameT t s))) := by
  refine ⟨ent_of Try.func27 rfl rfl, .inl rfl, rfl, ?_⟩
  rintro U w vs hW ⟨u1, us1, rfl, h1, u2, us2, rfl, h2, h3⟩
  have h3 : us2 = [] := h3
  subst h3
  obtain ⟨a, n, c, rfl, h4⟩ := tat_of_vrep ht h1
  obtain ⟨a', n', c', rfl, h5⟩ := tat_of_vrep hs h2
  refine (same_any t s a a' n c n' c' w h4 h5).mono ?_
  rintro e w' ⟨rfl, hb⟩
  exact ⟨_, rfl, vrep_sc.2 ⟨rfl, rfl⟩, hb⟩
theorem size_abs (W : World) {t : Tm} (ht : t.rng) (hm : t.size ≤ 4611686018427387904) : AFun Try.prog W 32 [t.cw] (.val (.i (t.size : Int))) := by
  refine ⟨ent_of Try.func32 rfl rfl, .inl rfl, rfl, ?_⟩
  rintro U w vs hW ⟨u1, us1, rfl, h1, h3⟩
  have h3 : us1 = [] := h3
  subst h3
  obtain ⟨a, n, c, rfl, h4⟩ := tat_of_vrep ht h1
  refine (size_any h4 hm).mono ?_
  rintro e w' ⟨rfl, hb⟩
  exact ⟨_, rfl, vrep_sc.2 ⟨rfl, rfl⟩, hb⟩
theorem count_abs (W : World) {t : Tm} (f : Int) (ht : t.rng) (hm : t.size ≤ 4611686018427387904) : AFun Try.prog W 31 [t.cw, .i f] (.val (.i (cntF f t.flat : Int))) := by
  refine ⟨ent_of Try.func31 rfl rfl, .inl rfl, rfl, ?_⟩
  rintro U w vs hW ⟨u1, us1, rfl, h1, u2, us2, rfl, h2, h3⟩
  have h3 : us2 = [] := h3
  subst h3
  obtain ⟨a, n, c, rfl, h4⟩ := tat_of_vrep ht h1
  obtain ⟨rfl, _⟩ := vrep_sc.1 h2
  refine (count_any f h4 hm).mono ?_
  rintro e w' ⟨rfl, hb⟩
  exact ⟨_, rfl, vrep_sc.2 ⟨rfl, rfl⟩, hb⟩
theorem top_abs (W : World) {t : Tm} (ht : t.rng) : AFun Try.prog W 33 [t.cw] (.val (.i (topF t.flat))) := by
  refine ⟨ent_of Try.func33 rfl rfl, .inl rfl, rfl, ?_⟩
  rintro U w vs hW ⟨u1, us1, rfl, h1, h3⟩
  have h3 : us1 = [] := h3
  subst h3
  obtain ⟨a, n, c, rfl, h4⟩ := tat_of_vrep ht h1
  refine (top_any h4).mono ?_
  rintro e w' ⟨rfl, hb⟩
  exact ⟨_, rfl, vrep_sc.2 ⟨rfl, rfl⟩, hb⟩
theorem clone_abs (W : World) {t : Tm} (ht : t.rng) (hm : t.size ≤ 1000000000) : AFun Try.prog W 41 [t.cw] (.val t.strip.cw) := by
  refine ⟨ent_of Try.func41 rfl rfl, .inl rfl, rfl, ?_⟩
  rintro U w vs hW ⟨u1, us1, rfl, h1, h3⟩
  have h3 : us1 = [] := h3
  subst h3
  obtain ⟨a, n, c, rfl, h4⟩ := tat_of_vrep ht h1
  refine (clone_any t a n c w h4 hm).mono ?_
  rintro e w' h
  obtain ⟨a', n', c', rfl, h5, hb⟩ := h.tat h4.wf
  refine ⟨_, rfl, ?_, hb⟩
  have := vrep_of_tat h5
  rw [Tm.strip_f] at this
  exact this.mono fun b o h => .inr h
theorem sq_ints {U : Nat → Nat → Prop} {w : World} : ∀ (l : List Int), Sq ((l.map CV.i).map fun c => Rep U w c) (l.map (Value.int .i64))
  | [] => rfl
  | z :: l => ⟨[.int .i64 z], l.map (Value.int .i64), rfl, rep_int _ _, sq_ints l⟩
theorem vars_abs (W : World) {t : Tm} (ht : t.rng) (hm : t.size ≤ 1000000000) : AFun Try.prog W 26 [t.cw] (.val (.lst ((varsF t.flat).map CV.i))) := by
  refine ⟨ent_of Try.func26 rfl rfl, .inl rfl, rfl, ?_⟩
  rintro U w vs hW ⟨u1, us1, rfl, h1, h3⟩
  have h3 : us1 = [] := h3
  subst h3
  obtain ⟨a, n, c, rfl, h4⟩ := tat_of_vrep ht h1
  refine (vars_any h4 hm).mono ?_
  rintro e w' ⟨va, vc, rfl, hp, hb⟩
  obtain ⟨p1, p2, p3, p4, p5⟩ := hp
  refine ⟨_, rfl, vrep_lst.2 ⟨va, _, vc, rfl, by simp, p2, p3, p4, (varsF t.flat).map (Value.int .i64), ?_, sq_ints _⟩, hb⟩
  exact (at_of_cu p5).keep fun b o v h1 h2 => ⟨.inr h1, h2⟩
theorem small_abs (W : World) (t : Tm) (most deep : Int) (ht : t.rng) (h0 : 0 ≤ most) (h1 : most ≤ 60) (h2 : -1 ≤ deep) (h3 : deep ≤ 20) : AFun Try.prog W 11 [t.cw, .i most, .i deep] (.val (.i (smallT t most deep))) := by
  refine ⟨ent_of Try.func11 rfl rfl, .inl rfl, rfl, ?_⟩
  rintro U w vs hW ⟨u1, us1, rfl, g1, u2, us2, rfl, g2, u3, us3, rfl, g3, g4⟩
  have g4 : us3 = [] := g4
  subst g4
  obtain ⟨a, n, c, rfl, h4⟩ := tat_of_vrep ht g1
  obtain ⟨rfl, _⟩ := vrep_sc.1 g2
  obtain ⟨rfl, _⟩ := vrep_sc.1 g3
  refine (small_any t _ a n c most deep w h4 h0 h1 h2 h3).mono ?_
  rintro e w' ⟨rfl, hb⟩
  exact ⟨_, rfl, vrep_sc.2 ⟨rfl, rfl⟩, hb⟩
end Go.Proofs.Ytmdhefepaolhcaa
