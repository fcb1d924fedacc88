/-
  AbNilF EqUni EqFns EqFac SuWalk SuSym SuWays SuMeet SuPut
-/
import Derived.Test.YteegmcfobgpemaaGreatMg10
import Derived.Test.YteegmcfobgpemaaGreatMg3
import Derived.Test.YteegmcfobgpemaaGreatMg4
import Derived.Test.YteegmcfobgpemaaGreatMg2
namespace Go.Proofs.YteegmcfobgpemaaGreat
open Go.RowKit
set_option linter.unusedVariables false
set_option linter.unusedSimpArgs false
section
variable {P : Program} {w0 : World} {U0 : UX} {nt : Nat} {s : AS}

theorem wk_nilF (k n e0 z : Nat) (hk : Nat.ble 500000 k = true) (hn : (Nat.ble 200000 n && Nat.blt n 400000) = true) (hz : Nat.blt 0 z = true) (hs : look s k = some ⟨0, .lst [], 1, 0, []⟩) (hr : noRefB s [(n, [])] = true) (hnk : noKey s n = true) : Wk w0 U0 nt s ((k, .sl n 0 0 z) :: (n, .mrow e0 z []) :: s) := by
  rintro a w ⟨D, hv, h⟩
  have hk5 := Nat.le_of_ble_eq_true hk
  have hrn := rnB hn
  have hrn' : RN n := RW.rn hrn
  unfold RW at hrn
  have hnk' : look s n = none := by
    cases e : look s n with
    | none => rfl
    | some av =>
      unfold noKey at hnk
      rw [List.all_eq_true] at hnk
      have := hnk _ (look_mem e)
      simp [Nat.beq_refl] at this
  have hnr : NoRef s n := (noRefB_spec hr (n, []) (by simp)).nr
  obtain ⟨hv', hhv⟩ : ∃ hv' : Nat → Value, hv' = fun x => if x = n then .slice none 0 0 else hv x := ⟨_, rfl⟩
  have hvn : ∀ x, x ≠ n → hv' x = hv x := fun x hx => by rw [hhv]; simp only [if_neg hx]
  have hvd : hv' n = .slice none 0 0 := by rw [hhv]; simp
  obtain ⟨s', hs'⟩ : ∃ s', s' = (k, AV.sl n 0 0 z) :: (n, AV.mrow e0 z []) :: s := ⟨_, rfl⟩
  rw [← hs']
  have hlk : ∀ x, x ≠ k → x ≠ n → look s' x = look s x := fun x h1 h2 => by rw [hs', lN (Ne.symm h1), lN (Ne.symm h2)]
  have hlkk : look s' k = some (.sl n 0 0 z) := by rw [hs', lS]
  have hlkn : look s' n = some (.mrow e0 z []) := by rw [hs', lN (by omega), lS]
  have hl : ∀ q e, Live s' q e ↔ Live s q e := fun q e => by
    unfold Live
    by_cases e1 : q = k
    · omega
    · by_cases e2 : q = n
      · subst e2
        rw [hlkn, hnk']
        constructor <;> (rintro ⟨h1, _⟩; cases h1)
      · rw [hlk q e1 e2]
  have hl2 : LiveN s' = LiveN s := by funext q; simp only [LiveN, hl]
  have hmv : ∀ {k' av v}, look s k' = some av → AVRep (Us w0 U0 D) w hv (LiveN s) av v → AVRep (Us w0 U0 D) w hv' (LiveN s) av v := fun {k' av v} h1 h2 =>
    h2.move (fun _ _ _ h1 h2 => ⟨h1, h2⟩) (fun _ h => h) fun h3 => hvn _ (hk_ne_row hrn' (hnr k' av h1).1 h3)
  refine ⟨D, hv', h.below, h.dfr, h.size, fun d av g1 g2 => ?_, fun m o av g1 g2 g3 g4 => ?_, fun m o o' av av' g1 g2 g3 g4 g5 => ?_, fun k' av g1 g2 => ?_, fun k' av g g1 g2 g3 g4 => ?_, fun k' k2 av av' g g1 g2 g3 g4 g5 g6 g7 g8 => ?_, fun k' v g1 => ?_, h.dlt⟩
  · rw [hlk d (by omega) (by omega)] at g1
    rw [hl2]
    obtain ⟨v, h1, h2⟩ := h.slot d av g1 g2
    exact ⟨v, h1, hmv g1 h2⟩
  · have hbk := bn_okey g4
    unfold oKey at hbk
    unfold BN at g4
    rw [hlk (100000 + m) (by omega) (by omega)] at g3
    rw [hl2, hvn (100000 + m) (by omega)]
    by_cases e : fKey m o = k
    · rw [e, hlkk] at g1
      cases g1
      obtain ⟨v, h1, h2, h3⟩ := h.fld m o _ (by rw [e]; exact hs) g2 g3 g4
      have hv0 : v = .slice none 0 0 := by
        obtain ⟨q1, q2⟩ : VRep (Us w0 U0 D) w (.lst []) v ∧ Tk hv (LiveN s) ⟨0, .lst [], 1, 0, []⟩ v.cells.toList := h1
        obtain ⟨mm, c, f1, f2⟩ := q2 (.inl rfl)
        simp only at f1
        rw [at_nil] at f1
        cases f1
        obtain ⟨ao, k, c, e1, _⟩ := vrep_lst.1 q1
        rw [e1] at f2 ⊢
        simpa [Value.cells, tokv] using f2
      subst hv0
      refine ⟨.slice none 0 0, ⟨hrn', ?_⟩, rfl, h3⟩
      show SlV (hv' n) 0 0 z (.slice none 0 0)
      rw [hvd]
      exact slV_all rfl (Nat.le_refl _) (.inl rfl)
    · rw [hlk _ e (by unfold fKey; omega)] at g1
      obtain ⟨v, h1, h2, h3⟩ := h.fld m o av g1 g2 g3 g4
      exact ⟨v, hmv g1 h1, h2, h3⟩
  · have conv : ∀ o (av : AV), look s' (fKey m o) = some av → ∃ av', look s (fKey m o) = some av' ∧ av'.sz = av.sz := fun o av f1 => by
      by_cases e : fKey m o = k
      · rw [e, hlkk] at f1
        cases f1
        exact ⟨⟨0, .lst [], 1, 0, []⟩, by rw [e]; exact hs, rfl⟩
      · rw [hlk _ e (by unfold fKey; omega)] at f1
        exact ⟨av, f1, rfl⟩
    obtain ⟨a1, b1, c1⟩ := conv o av g1
    obtain ⟨a2, b2, c2⟩ := conv o' av' g2
    rw [← c1]
    exact h.fdis m o o' a1 a2 b1 b2 g3 g4 g5
  · unfold oKey at g2
    rw [hl2]
    by_cases e : k' = n
    · subst e
      rw [hlkn] at g1
      cases g1
      rw [hvd]
      exact ⟨[], World.ownsRow_nil _ _ _ _, bL hz, (fun c hc => by cases hc), rfl⟩
    · rw [hlk k' (by omega) e] at g1
      rw [hvn k' e]
      exact (h.obj k' av g1 g2).move (fun _ _ _ h1 h2 => ⟨h1, h2⟩) (fun ht hl => ⟨hl, by
        unfold tokv
        rw [hvn _ (hnr k' av g1).1]⟩) (fun _ _ => rfl)
  · unfold oKey at g2
    by_cases e : k' = n
    · subst e
      rw [hvd] at g4
      cases g4
    · rw [hlk k' (by omega) e] at g1
      rw [hvn k' e] at g4 ⊢
      exact h.blk k' av g g1 g2 g3 g4
  · unfold oKey at g3 g4
    by_cases e : k' = n
    · subst e
      rw [hvd] at g8
      cases g8
    · by_cases e2 : k2 = n
      · subst e2
        rw [hvd]
        intro h9; cases h9
      · rw [hlk k' (by omega) e] at g1
        rw [hlk k2 (by omega) e2] at g2
        rw [hvn k' e] at g8
        rw [hvn k2 e2]
        exact h.disj k' k2 av av' g g1 g2 g3 g4 g5 g6 g7 g8
  · have := U0.hf k' v g1
    rw [hvn k' (by omega)]
    exact h.fix k' v g1
end
end Go.Proofs.YteegmcfobgpemaaGreat
namespace Go.Proofs.YteegmcfobgpemaaGreat
open Go.RowKit
set_option linter.unusedVariables false
set_option linter.unusedSimpArgs false
set_option maxRecDepth 100000
theorem pw_down {k : Nat} : ∀ (l : List Nat) {ns : List Nd} {o : List Nat} {q}, downC k l ns o = some q → pw q.1 = pw ns
  | [], ns, o, q, e => by cases e; rfl
  | p :: l, ns, o, q, e => by
    rw [downC] at e
    cases h : headC k ns p with
    | none => rw [h] at e; cases e
    | some q1 =>
      rw [h] at e
      rw [pw_down l e, pw_us, pw_head k h]
theorem pw_ord {k : Nat} : ∀ (j i : Nat) {c : Cl} {o : List Nat} {q}, ordC k j i c o = some q → pw q.1.ns = pw c.ns
  | 0, _, _, _, _, e => by cases e
  | j + 1, i, c, o, q, e => by
    rw [ordC] at e
    split at e
    · cases e; rfl
    · rename_i g hg
      split at e
      · cases e
      · rename_i q1 h1
        rw [pw_ord j _ e]
        show pw q1.1 = _
        rw [pw_down _ h1, pw_parts]
theorem vr_few {c : Cl} {H r : Nat → Nat} {a b : Tm} (h : ClsC c H r [(a, b)]) (hv : vrOk c.vr) (ha : a.ten) (hb : b.ten) (hn : c.ns.length ≤ a.size + b.size) : c.vr.length < 20 := by
  have hnd : (c.vr.map Prod.snd).Nodup := by
    have h1 : c.vr.Pairwise (fun a b => a.1 ≠ b.1) := List.pairwise_map.1 hv.1
    refine List.pairwise_map.2 (List.Pairwise.imp_of_mem (fun {a b} ha hb hab e => hab ?_) h1)
    have e1 := (h.vrt a.1 a.2 (lookV_mem hv.1 ha)).2
    have e2 := (h.vrt b.1 b.2 (lookV_mem hv.1 hb)).2
    rw [e] at e1
    omega
  have hlt : ∀ x ∈ c.vr.map Prod.snd, x < c.ns.length ∧ (nT c.ns x).f < 0 := fun x hx => by
    obtain ⟨p, hp, rfl⟩ := List.mem_map.1 hx
    have h1 := h.vrt p.1 p.2 (lookV_mem hv.1 hp)
    have h2 := hv.2 p hp
    refine ⟨h1.1, ?_⟩
    rw [h1.2]; omega
  obtain ⟨n, m, h1, h2, e1, e2, _⟩ := h.pair (a, b) (by simp)
  have e1 : nT c.ns n = a := e1
  have e2 : nT c.ns m = b := e2
  have more : ∀ x, x < c.ns.length → ¬ (nT c.ns x).f < 0 → c.vr.length + 1 ≤ c.ns.length := fun x hx hf => by
    have := nodup_le c.ns.length (l := x :: c.vr.map Prod.snd) (List.nodup_cons.2 ⟨fun hm => hf (hlt x hm).2, hnd⟩) (fun y hy => by
      rcases List.mem_cons.1 hy with rfl | hy
      · exact hx
      · exact (hlt y hy).1)
    simpa using this
  have hle := vr_len h hv
  have hs1 := ha.2
  have hs2 := hb.2
  by_cases f1 : a.f < 0
  · by_cases f2 : b.f < 0
    · have s1 := Tm.size_var f1
      have s2 := Tm.size_var f2
      omega
    · have := more m h2 (by rw [e2]; exact f2)
      omega
  · have := more n h1 (by rw [e1]; exact f1)
    omega
theorem concat2_abs (W : World) (x y : List Lt) (hl : x.length + y.length ≤ 1000000) : AFun Tryz.prog W 95 [.lst [.lst (x.map Lt.cv), .lst (y.map Lt.cv)]] (.val (.lst ((x ++ y).map Lt.cv))) := by
  have h := concatL_abs W [x, y] (by simp) (by simp; omega)
  have e : [x, y].flatten = x ++ y := by simp
  rw [e] at h
  exact h
-- 
theorem eOthers_abs (W : World) (c : List Lt) (n : Nat) (hn : n < c.length) (hl : c.length ≤ 100000) : AFun Tryz.prog W 133 [.lst (c.map Lt.cv), .i (n : Int)] (.val (.lst ((offL c n).map Lt.cv))) := by
  have hsz := Lt.size_all c
  have hc2 := fun w => concat2_abs w (c.take n) (c.drop (n + 1)) (by rw [List.length_take, List.length_drop]; omega)
  rw [List.map_take, List.map_drop] at hc2
  have hlen : (c.map Lt.cv).length = c.length := List.length_map ..
  refine afun_of (rs := [.lst ((offL c n).map Lt.cv)]) Tryz.func133 Tryz.ntmps133 rfl rfl rfl rfl ?_
  intro w U hW
  refine aS (aR ?_)
  (refine nx (aA (gN rfl) rfl rfl rfl rfl rfl) rfl ?_)
  show AWp _ _ _ _ _ _ _
  refine aS (aD (by kernel_rfl) (by kernel_rfl) ?_)
  (refine nx (aM (gN rfl) rfl rfl rfl rfl rfl) rfl ?_)
  (refine nx (aM (gN rfl) rfl rfl rfl rfl rfl) rfl ?_)
  (refine nx (a_upto (gN rfl) rfl rfl rfl rfl rfl rfl rfl rfl rfl (by omega) (by first | assumption | exact sZ rfl | exact Tm.size_all _ | exact Bd.size_all _ | exact ints_size _ | exact bys_size _ | exact Lt.size_all _)) rfl ?_)
  (refine nx (aM (gN rfl) rfl rfl rfl rfl rfl) rfl ?_)
  (refine nx (aM (gN rfl) rfl rfl rfl rfl rfl) rfl ?_)
  (refine nx (a_add (gN rfl) rfl rfl rfl rfl rfl rfl (by first | omega | (simp only [List.length_map, List.length_append, List.length_cons, List.length_nil] <;> omega) | (simp <;> omega))) rfl ?_)
  (refine nx (a_from (lo := n + 1) (gN rfl) rfl rfl rfl rfl rfl rfl rfl rfl rfl (by omega) (by first | assumption | exact sZ rfl | exact Tm.size_all _ | exact Bd.size_all _ | exact ints_size _ | exact bys_size _ | exact Lt.size_all _)) rfl ?_)
  (refine nx (a_bslice (gN rfl) rfl rfl rfl rfl rfl rfl rfl rfl rfl rfl rfl rfl rfl) rfl ?_)
  (refine nx (a_call (gN rfl) rfl rfl rfl rfl rfl (hc2 w)) rfl ?_)
  (refine nx (aA (gN rfl) rfl rfl rfl rfl rfl) rfl ?_)
  refine ⟨by kernel_rfl, ?_⟩
  show AWp _ _ _ _ _ _ _
  exact aT (And.intro (.inr rfl) rfl)
theorem sid_fit {c : List Lt} (hl : c.length ≤ 100000) (h : ∀ l ∈ c, (l.a.rng ∧ l.a.ok) ∧ l.b.rng ∧ l.b.ok) : (⟨0, sidL c⟩ : Tm).rng ∧ (⟨0, sidL c⟩ : Tm).ok := by
  have hm : ∀ s ∈ sidL c, s.rng ∧ s.ok := fun s hs => by
    obtain ⟨l, hl, e⟩ := sidL_mem.1 hs
    rcases e with rfl | rfl
    · exact (h l hl).1
    · exact (h l hl).2
  have hlen := sidL_len c
  exact ⟨(Tm.rng_iff _).2 ⟨by show _ ≤ (0 : Int) ∧ (0 : Int) ≤ _; omega, fun s hs => (hm s hs).1⟩, (Tm.ok_iff _).2 ⟨by show (sidL c).length ≤ _; omega, fun s hs => (hm s hs).2⟩⟩
theorem img_none : ∀ t : Tm, repT (imgB []) t = t.strip := fun t => rep_id t
theorem lt_none (c : List Lt) : c.map (Lt.rep (imgB [])) = c.map Lt.strip := by
  refine List.map_congr_left fun l _ => ?_
  unfold Lt.rep Lt.strip
  rw [img_none, img_none]
-- 
theorem eWithout_abs (W : World) (c : List Lt) (i : Int) (hl : c.length ≤ 100000) (hc : ∀ l ∈ c, (l.a.rng ∧ l.a.ok) ∧ l.b.rng ∧ l.b.ok) : AFun Tryz.prog W 96 [.lst (c.map Lt.cv), .i i] (.val (.lst (((if 0 ≤ i ∧ i < c.length then offL c i.toNat else c).map Lt.strip).map Lt.cv))) := by
  have hap : ∀ (d : List Lt) (w : World), d.length ≤ 100000 → (∀ l ∈ d, (l.a.rng ∧ l.a.ok) ∧ l.b.rng ∧ l.b.ok) → AFun Tryz.prog w 67 [.lst [], .lst (d.map Lt.cv)] (.val (.lst ((d.map Lt.strip).map Lt.cv))) := fun d w h1 h2 => by
    obtain ⟨g1, g2⟩ := sid_fit h1 h2
    have := cApply_abs w [] d (by omega) (by simp) (fun b hb => by cases hb) g1 g2
    rw [lt_none] at this
    exact this
  have hsz := Lt.size_all c
  refine afun_of (rs := [.lst (((if 0 ≤ i ∧ i < c.length then offL c i.toNat else c).map Lt.strip).map Lt.cv)]) Tryz.func96 Tryz.ntmps96 rfl rfl rfl rfl ?_
  intro w U hW
  refine aS (aR ?_)
  (refine nx (aA (gN rfl) rfl rfl rfl rfl rfl) rfl ?_)
  show AWp _ _ _ _ _ _ _
  by_cases h0 : i ≥ 0
  · have g0 : decide (i ≥ 0) = true := decide_eq_true h0
    by_cases h1 : i < c.length
    · have g1 : decide (i < ((c.map Lt.cv).length : Int)) = true := decide_eq_true (by rw [List.length_map]; exact h1)
      obtain ⟨n, rfl⟩ : ∃ n : Nat, i = (n : Int) := ⟨i.toNat, by omega⟩
      rw [if_pos ⟨h0, h1⟩, Int.toNat_natCast]
      have hn : n < c.length := by omega
      have hol := offL_len hn
      refine aS (aS (aR ?_))
      (refine nx (aM (gN rfl) rfl rfl rfl rfl rfl) rfl ?_)
      (refine nx (a_geq (gN rfl) rfl rfl rfl rfl rfl rfl) rfl ?_)
      (refine nx (aM (gN rfl) rfl rfl rfl rfl rfl) rfl ?_)
      (refine nx (aM (gd_on rfl rfl rfl rfl (by first | rfl | assumption | (simp; done))) rfl rfl rfl rfl rfl) rfl ?_)
      (refine nx (aM (gd_on rfl rfl rfl rfl (by first | rfl | assumption | (simp; done))) rfl rfl rfl rfl rfl) rfl ?_)
      (refine nx (a_len (gd_on rfl rfl rfl rfl (by first | rfl | assumption | (simp; done))) rfl rfl rfl rfl rfl rfl rfl) rfl ?_)
      (refine nx (a_lss (gd_on rfl rfl rfl rfl (by first | rfl | assumption | (simp; done))) rfl rfl rfl rfl rfl rfl) rfl ?_)
      (refine ⟨_, _, _, aPt (gN rfl) rfl rfl rfl rfl rfl ?hb rfl, rfl, ?_⟩; case hb => (first | rfl | assumption | (simp; done)))
      show AWp _ _ _ _ _ _ _
      refine aC rfl (fun _ => ?_) (fun h => by rw [g1] at h; cases h)
      refine aR ?_
      (refine nx (aM (gN rfl) rfl rfl rfl rfl rfl) rfl ?_)
      (refine nx (aM (gN rfl) rfl rfl rfl rfl rfl) rfl ?_)
      (refine nx (a_call (gN rfl) rfl rfl rfl rfl rfl (eOthers_abs w c n hn hl)) rfl ?_)
      (refine nx (aA (gN rfl) rfl rfl rfl rfl rfl) rfl ?_)
      show AWp _ _ _ _ _ _ _
      refine aS (aR ?_)
      (refine nx (aM (gN rfl) rfl rfl rfl rfl rfl) rfl ?_)
      (refine nx (a_call (gN rfl) rfl rfl rfl rfl rfl (hap (offL c n) w (by omega) (fun l h => hc l (offL_mem h)))) rfl ?_)
      (refine nx (aA (gN rfl) rfl rfl rfl rfl rfl) rfl ?_)
      show AWp _ _ _ _ _ _ _
      exact aT (And.intro (.inr rfl) rfl)
    · have g1 : decide (i < ((c.map Lt.cv).length : Int)) = false := decide_eq_false (by rw [List.length_map]; exact h1)
      rw [if_neg (by omega)]
      refine aS (aS (aR ?_))
      (refine nx (aM (gN rfl) rfl rfl rfl rfl rfl) rfl ?_)
      (refine nx (a_geq (gN rfl) rfl rfl rfl rfl rfl rfl) rfl ?_)
      (refine nx (aM (gN rfl) rfl rfl rfl rfl rfl) rfl ?_)
      (refine nx (aM (gd_on rfl rfl rfl rfl (by first | rfl | assumption | (simp; done))) rfl rfl rfl rfl rfl) rfl ?_)
      (refine nx (aM (gd_on rfl rfl rfl rfl (by first | rfl | assumption | (simp; done))) rfl rfl rfl rfl rfl) rfl ?_)
      (refine nx (a_len (gd_on rfl rfl rfl rfl (by first | rfl | assumption | (simp; done))) rfl rfl rfl rfl rfl rfl rfl) rfl ?_)
      (refine nx (a_lss (gd_on rfl rfl rfl rfl (by first | rfl | assumption | (simp; done))) rfl rfl rfl rfl rfl rfl) rfl ?_)
      (refine ⟨_, _, _, aPt (gN rfl) rfl rfl rfl rfl rfl ?hb rfl, rfl, ?_⟩; case hb => (first | rfl | assumption | (simp; done)))
      show AWp _ _ _ _ _ _ _
      refine aC rfl (fun h => by rw [g1] at h; cases h) (fun _ => aK ?_)
      show AWp _ _ _ _ _ _ _
      refine aS (aR ?_)
      (refine nx (aM (gN rfl) rfl rfl rfl rfl rfl) rfl ?_)
      (refine nx (a_call (gN rfl) rfl rfl rfl rfl rfl (hap c w hl hc)) rfl ?_)
      (refine nx (aA (gN rfl) rfl rfl rfl rfl rfl) rfl ?_)
      show AWp _ _ _ _ _ _ _
      exact aT (And.intro (.inr rfl) rfl)
  · have g0 : decide (i ≥ 0) = false := decide_eq_false h0
    rw [if_neg (by omega)]
    refine aS (aS (aR ?_))
    (refine nx (aM (gN rfl) rfl rfl rfl rfl rfl) rfl ?_)
    (refine nx (a_geq (gN rfl) rfl rfl rfl rfl rfl rfl) rfl ?_)
    (refine nx (aM (gN rfl) rfl rfl rfl rfl rfl) rfl ?_)
    (refine ⟨_, _, _, a_off (go_off rfl rfl rfl rfl (by first | rfl | assumption | (simp; done) | (simp [*]; done))) rfl rfl rfl, rfl, ?_⟩)
    (refine ⟨_, _, _, a_off (go_off rfl rfl rfl rfl (by first | rfl | assumption | (simp; done) | (simp [*]; done))) rfl rfl rfl, rfl, ?_⟩)
    (refine ⟨_, _, _, a_off (go_off rfl rfl rfl rfl (by first | rfl | assumption | (simp; done) | (simp [*]; done))) rfl rfl rfl, rfl, ?_⟩)
    (refine ⟨_, _, _, a_off (go_off rfl rfl rfl rfl (by first | rfl | assumption | (simp; done) | (simp [*]; done))) rfl rfl rfl, rfl, ?_⟩)
    (refine ⟨_, _, _, aPf (gN rfl) rfl rfl rfl rfl rfl ?hb rfl, rfl, ?_⟩; case hb => (first | rfl | assumption | (simp; done)))
    show AWp _ _ _ _ _ _ _
    refine aC rfl (fun h => by cases h) (fun _ => aK ?_)
    show AWp _ _ _ _ _ _ _
    refine aS (aR ?_)
    (refine nx (aM (gN rfl) rfl rfl rfl rfl rfl) rfl ?_)
    (refine nx (a_call (gN rfl) rfl rfl rfl rfl rfl (hap c w hl hc)) rfl ?_)
    (refine nx (aA (gN rfl) rfl rfl rfl rfl rfl) rfl ?_)
    show AWp _ _ _ _ _ _ _
    exact aT (And.intro (.inr rfl) rfl)
noncomputable def clC (c : List Lt) : CV := .lst (c.map Lt.cv)
theorem clC_size (L : List (List Lt)) : ∀ x ∈ L.map clC, x.size = 1 := by
  intro x hx
  obtain ⟨c, _, rfl⟩ := List.mem_map.1 hx
  rfl
noncomputable abbrev obE (L : List (List Lt)) : AS := [(450001, .obj), (35500100, .sl 300005 0 L.length 1), (300005, .mrow 26 1 (L.map clC))]
noncomputable abbrev ltZ3 : List CV := [.b false, .row [.i 0, .lst []], .row [.i 0, .lst []]]
noncomputable def sy (t : Tm) : List Int → List (List Int × Tm) :=
  Tm.rec (motive_1 := fun _ => List Int → List (List Int × Tm)) (motive_2 := fun _ => Nat → List Int → List (List Int × Tm))
    (fun f l ih pl => if f < 0 then [] else (pl, ⟨f, l⟩) :: ih 0 pl)
    (fun _ _ => [])
    (fun _ _ ih1 ih2 i pl => ih1 (pl ++ [(i : Int)]) ++ ih2 (i + 1) pl) t
noncomputable def syL (l : List Tm) : Nat → List Int → List (List Int × Tm) :=
  Tm.rec_1 (motive_1 := fun _ => List Int → List (List Int × Tm)) (motive_2 := fun _ => Nat → List Int → List (List Int × Tm))
    (fun f l ih pl => if f < 0 then [] else (pl, ⟨f, l⟩) :: ih 0 pl)
    (fun _ _ => [])
    (fun _ _ ih1 ih2 i pl => ih1 (pl ++ [(i : Int)]) ++ ih2 (i + 1) pl) l
theorem sy_eq (t : Tm) (pl : List Int) : sy t pl = if t.f < 0 then [] else (pl, t) :: syL t.l 0 pl := by cases t; rfl
theorem syL_nil (i : Nat) (pl : List Int) : syL [] i pl = [] := rfl
theorem syL_cons (t : Tm) (l : List Tm) (i : Nat) (pl : List Int) : syL (t :: l) i pl = sy t (pl ++ [(i : Int)]) ++ syL l (i + 1) pl := rfl
theorem syL_app : ∀ (a b : List Tm) (i : Nat) (pl : List Int), syL (a ++ b) i pl = syL a i pl ++ syL b (i + a.length) pl
  | [], b, i, pl => by rw [List.nil_append, syL_nil, List.nil_append]; rfl
  | t :: a, b, i, pl => by rw [List.cons_append, syL_cons, syL_cons, syL_app a b (i + 1) pl, List.append_assoc, List.length_cons]; congr 3; omega
theorem syL_take {l : List Tm} {k : Nat} {x : Tm} (i : Nat) (pl : List Int) (hx : l[k]? = some x) : syL (l.take (k + 1)) i pl = syL (l.take k) i pl ++ sy x (pl ++ [((i + k : Nat) : Int)]) := by
  have hk : k < l.length := by
    rcases Nat.lt_or_ge k l.length with h | h
    · exact h
    · rw [List.getElem?_eq_none h] at hx; cases hx
  rw [List.take_add_one, hx, syL_app]
  rw [show (some x).toList = [x] from rfl, syL_cons, syL_nil, List.append_nil, List.length_take, Nat.min_eq_left (by omega)]
theorem syL_at {f : Int} {l : List Tm} {k : Nat} {x : Tm} (hx : l[k]? = some x) (pl : List Int) {i : Nat} {y : List Int × Tm} (hy : (sy x (pl ++ [(k : Int)]))[i]? = some y) : ((pl, (⟨f, l⟩ : Tm)) :: syL l 0 pl)[1 + (syL (l.take k) 0 pl).length + i]? = some y := by
  rw [show 1 + (syL (l.take k) 0 pl).length + i = ((syL (l.take k) 0 pl).length + i) + 1 by omega, List.getElem?_cons_succ]
  have h1 : syL l 0 pl = syL (l.take (k + 1)) 0 pl ++ syL (l.drop (k + 1)) (0 + (l.take (k + 1)).length) pl := by rw [← syL_app, List.take_append_drop]
  have hi : i < (sy x (pl ++ [(k : Int)])).length := by
    rcases Nat.lt_or_ge i (sy x (pl ++ [(k : Int)])).length with h | h
    · exact h
    · rw [List.getElem?_eq_none h] at hy; cases hy
  rw [h1, syL_take 0 pl hx, Nat.zero_add, List.append_assoc, List.getElem?_append_right (by omega), Nat.add_sub_cancel_left, List.getElem?_append_left hi, hy]
theorem sy_sizes {f : Int} {l : List Tm} (hf : ¬ f < 0) {k : Nat} {x : Tm} (hx : l[k]? = some x) : 1 + ((l.take k).flatMap Tm.flat).length + x.size ≤ (Tm.mk f l).size := by
  have h1 : (Tm.mk f l).size = 1 + (l.flatMap Tm.flat).length := by rw [Tm.size_eq, Tm.ps_of_sym (by show 0 ≤ f; omega)]
  have h2 : (l.flatMap Tm.flat).length = ((l.take k).flatMap Tm.flat).length + ((l.drop k).flatMap Tm.flat).length := by
    conv => lhs; rw [← List.take_append_drop k l]
    rw [List.flatMap_append, List.length_append]
  have h3 : x.flat.length ≤ ((l.drop k).flatMap Tm.flat).length := flatMap_len_mem Tm.flat (List.mem_of_getElem? (i := 0) (by rw [List.getElem?_drop]; simpa using hx))
  have h4 : x.flat.length = x.size := rfl
  omega
theorem sy_kids {f : Int} {l : List Tm} (hf : ¬ f < 0) : l.length < (Tm.mk f l).size := by
  rw [Tm.size_eq, Tm.ps_of_sym (by show 0 ≤ f; omega)]
  have : ∀ l : List Tm, l.length ≤ (l.flatMap Tm.flat).length := by
    intro l
    induction l with
    | nil => exact Nat.le_refl _
    | cons x l ih =>
      rw [List.flatMap_cons, List.length_append, List.length_cons]
      have : 0 < x.flat.length := by rw [Tm.flat_eq]; simp
      omega
  have := this l
  show l.length < 1 + (l.flatMap Tm.flat).length
  omega
theorem hUno9 {U : UX} {pre : List Nat} (hU : ∀ k v, U.f k = some v → hasN pre k = true) {n : Nat} (h : hasN pre n = false) : U.f n = none := by
  cases e : U.f n with
  | none => rfl
  | some v => rw [hU n v e] at h; cases h
noncomputable abbrev rowI (X : Nat) (pl : List Int) : AS := [(X, .mrow 3 1 (pl.map CV.i))]
noncomputable abbrev obX (L : List (List Lt)) (X : Nat) (pl : List Int) : AS := [(450001, .obj), (35500100, .sl 300005 0 L.length 1), (300005, .mrow 26 1 (L.map clC)), (X, .mrow 3 1 (pl.map CV.i))]
-- 
set_option maxHeartbeats 8000000 in
theorem suWalk_abs (Wb : World) (Ub : UX) (l0 : Nat) (Ls : Nat → List (List Lt)) : ∀ t : Tm, ∀ (j : Nat) (pl : List Int), pl.length + t.size ≤ 1000000 → (∀ i x, (sy t pl)[i]? = some x → ∀ X ∈ [400002, 400003], YldC Tryz.prog Wb Ub l0 X (obX (Ls (j + i)) X x.1) (fun _ => [.sl X 0 x.1.length 1, .val x.2.cw]) (obX (Ls (j + i + 1)) X x.1)) → AFunY Tryz.prog Wb Ub 120 (obX (Ls (j)) 400002 (pl)) [.sl 400002 0 (pl).length 1, .val (t).cw, .val (yldV l0)] (.val (.b true)) (obX (Ls (j + (sy t pl).length)) 400002 (pl)) ∧ AFunY Tryz.prog Wb Ub 120 (obX (Ls (j)) 400003 (pl)) [.sl 400003 0 (pl).length 1, .val (t).cw, .val (yldV l0)] (.val (.b true)) (obX (Ls (j + (sy t pl).length)) 400003 (pl)) := by
  intro t
  induction t using Tm.ind with
  | h f l ih =>
  intro j pl hb2 hY
  have hsz := Tm.size_all l
  have hll : f < 0 ∨ l.length < 1000000 := by
    by_cases hf : f < 0
    · exact .inl hf
    · exact .inr (by have := sy_kids hf (l := l); omega)
  constructor
  · refine afunY_of Tryz.func120 Tryz.ntmps120 rfl rfl rfl rfl (by kernel_rfl) (by kernel_rfl) ?_
    intro w U hon hU
    have hfY : U.f 400003 = none := hUno9 hU (by kernel_rfl)
    refine aS (aR ?_)
    (refine nx (a_box (gN rfl) rfl rfl rfl rfl rfl) (by kernel_rfl) ?_)
    (refine nx (aA (gN rfl) rfl rfl rfl rfl rfl) rfl ?_)
    show AWp _ _ _ _ _ _ _
    refine aS (aS (aR ?_))
    (refine nx (aF (gN rfl) rfl rfl rfl rfl rfl rfl rfl rfl rfl) rfl ?_)
    (refine nx (aLb (gN rfl) rfl rfl rfl rfl rfl rfl rfl rfl rfl rfl rfl rfl) rfl ?_)
    (refine nx (a_lss (gN rfl) rfl rfl rfl rfl rfl rfl) rfl ?_)
    show AWp _ _ _ _ _ _ _
    refine aC rfl (fun hc => ?_) (fun hc => ?_)
    · have hf : f < 0 := by simpa using hc
      have e : (sy ⟨f, l⟩ pl).length = 0 := by rw [sy_eq, if_pos hf]; rfl
      rw [e, Nat.add_zero]
      refine aS (aR ?_)
      (refine nx (aA (gN rfl) rfl rfl rfl rfl rfl) rfl ?_)
      show AWp _ _ _ _ _ _ _
      exact aT ⟨.inr rfl, _, Wk.refl _, rfl, rfl, rfl, rfl, rfl, trivial⟩
    have hf : ¬ f < 0 := by simpa using hc
    have hsy := sy_eq ⟨f, l⟩ pl
    rw [if_neg hf] at hsy
    rw [hsy] at hY ⊢
    refine aK ?_
    show AWp _ _ _ _ _ _ _
    refine AWp.wk (wk_sub (s' := (0, AV.sl 400002 0 pl.length 1) :: (2, .val (yldV l0)) :: (4, .bp 4 0 []) :: (100004, .bx (Tm.cw ⟨f, l⟩)) :: (obX (Ls (j)) 400002 pl)) ⟨rfl, rfl, rfl, rfl, rfl, rfl, rfl, rfl, trivial⟩) ?_
    have hY0 := hY 0 (pl, ⟨f, l⟩) rfl 400002 (by simp)
    refine aS (aS (awp_regionY ?_))
    (refine nxY (AOp.y (aM (gN rfl) rfl rfl rfl rfl rfl)) rfl ?_)
    (refine nxY (AOp.y (aM (gN rfl) rfl rfl rfl rfl rfl)) rfl ?_)
    (refine nxY (AOp.y (aL (gN rfl) rfl rfl rfl rfl rfl rfl rfl rfl rfl rfl rfl rfl)) rfl ?_)
    (refine nxY (a_yield (u := .slice none 0 0) 0 (hY0) hon (gN rfl) rfl rfl rfl rfl rfl rfl (.inr fun _ _ => rfl) (by repeat (first | exact trivial | refine ⟨rfl, ?_⟩)) (by first | rfl | kernel_rfl) (by first | rfl | kernel_rfl) (by first | rfl | kernel_rfl) (hnb_of (by first | rfl | kernel_rfl)) rfl) rfl ?_)
    (refine nxY (AOp.y (a_not (gN rfl) rfl rfl rfl rfl rfl)) rfl ?_)
    show AWp _ _ _ _ _ _ _
    refine aC rfl (fun hc => by cases hc) (fun hc => aK ?_)
    show AWp _ _ _ _ _ _ _
    refine AWp.wk (wk_sub (s' := (0, AV.sl 400002 0 pl.length 1) :: (2, .val (yldV l0)) :: (4, .bp 4 0 []) :: (100004, .bx (Tm.cw ⟨f, l⟩)) :: (obX (Ls (j + 1)) 400002 pl)) ⟨rfl, rfl, rfl, rfl, rfl, rfl, rfl, rfl, trivial⟩) ?_
    refine aS (aS (aR ?_))
    (refine nx (aF (gN rfl) rfl rfl rfl rfl rfl rfl rfl rfl rfl) rfl ?_)
    (refine nx (aLb (gN rfl) rfl rfl rfl rfl rfl rfl rfl rfl rfl rfl rfl rfl) rfl ?_)
    (refine nx (a_len (gN rfl) rfl rfl rfl rfl rfl rfl rfl) rfl ?_)
    (refine nx (aM (gN rfl) rfl rfl rfl rfl rfl) rfl ?_)
    show AWp _ _ _ _ _ _ _
    refine aB (awp_count l.length (fun k => (0, AV.sl 400002 0 pl.length 1) :: (2, .val (yldV l0)) :: (18, .val (.lst (l.map Tm.cv))) :: (19, .val (.i (l.map Tm.cv).length)) :: (20, .val (.i (k))) :: (obX (Ls (j + 1 + (syL (l.take k) 0 pl).length)) 400002 pl)) (wk_sub ⟨rfl, rfl, rfl, rfl, rfl, ?_, ?_, ?_, rfl, trivial⟩) ?_)
    · rfl
    · rfl
    · rfl
    intro k hk
    obtain ⟨J, hJ⟩ : ∃ J, J = j + 1 + (syL (l.take k) 0 pl).length := ⟨_, rfl⟩
    refine aS (aR ?_)
    (refine nx (a_lss (gN rfl) rfl rfl rfl rfl rfl rfl) rfl ?_)
    show AWp _ _ _ _ _ _ _
    refine aS (aC rfl (fun hlt => ?_) (fun hlt => ?_))
    · have hkl : k < l.length := by simpa using hlt
      obtain ⟨x, hx⟩ : ∃ x, l[k]? = some x := ⟨l[k], List.getElem?_eq_getElem hkl⟩
      have hx' := Tm.map_at hx
      have hxm := List.mem_of_getElem? hx
      have hszs := sy_sizes hf hx
      have hstep : syL (l.take (k + 1)) 0 pl = syL (l.take k) 0 pl ++ sy x (pl ++ [(k : Int)]) := by rw [syL_take 0 pl hx, Nat.zero_add]
      have hJ2 : j + 1 + (syL (l.take (k + 1)) 0 pl).length = J + (sy x (pl ++ [(k : Int)])).length := by rw [hstep, List.length_append, hJ]; omega
      have hcall := (ih x hxm J (pl ++ [(k : Int)]) (by rw [List.length_append]; simp only [List.length_cons, List.length_nil]; omega) (fun i y hy X hX => by
        have h2 := hY (1 + (syL (l.take k) 0 pl).length + i) y (syL_at hx pl hy) X hX
        have e1 : j + (1 + (syL (l.take k) 0 pl).length + i) = J + i := by omega
        rw [e1] at h2
        exact h2)).2
      have hpe : (pl ++ [(k : Int)]).length = (pl.map CV.i).length + [CV.i (k : Int)].length := by simp
      unfold obX at hcall
      rw [hpe, List.map_append] at hcall
      have hlm : (pl.map CV.i).length = pl.length := List.length_map ..
      rw [← hJ]
      refine aK ?_
      show AWp _ _ _ _ _ _ _
      refine aS (aB (aS (aR ?_)))
      (refine nx (aM (gN rfl) rfl rfl rfl rfl rfl) rfl ?_)
      (refine nx (a_index (j := k) (gN rfl) rfl rfl rfl rfl rfl rfl rfl rfl rfl (hx') rfl (hsz)) rfl ?_)
      (refine nx (a_load_ad (gN rfl) rfl rfl rfl rfl rfl rfl rfl rfl rfl) rfl ?_)
      (refine nx (a_alloc (gN rfl) rfl rfl rfl rfl rfl rfl rfl rfl rfl rfl) (by kernel_rfl) ?_)
      (refine nx (aA (gN rfl) rfl rfl rfl rfl rfl) rfl ?_)
      (refine nx (aSt (gN rfl) rfl rfl rfl rfl rfl rfl rfl rfl rfl rfl) rfl ?_)
      show AWp _ _ _ _ _ _ _
      refine AWp.wk (wk_sub (s' := (7, AV.val (.i (k : Int))) :: (8, .bp 8 0 []) :: (100008, .bx x.cw) :: ((0, AV.sl 400002 0 pl.length 1) :: (2, .val (yldV l0)) :: (18, .val (.lst (l.map Tm.cv))) :: (19, .val (.i (l.map Tm.cv).length)) :: (20, .val (.i (k))) :: (obX (Ls (J)) 400002 pl))) ⟨rfl, rfl, rfl, rfl, rfl, rfl, rfl, rfl, rfl, rfl, rfl, rfl, trivial⟩) ?_
      refine AWp.handle 3 400002 rfl rfl rfl rfl fun ao cap hcap hao => ?_
      rcases Nat.lt_or_ge (pl.map CV.i).length cap with hroom | hroom
      · refine aS (aD (by kernel_rfl) (by kernel_rfl) ?_)
        (refine nx (aM (gN rfl) rfl rfl rfl rfl rfl) rfl ?_)
        (refine nx (aM (gN rfl) rfl rfl rfl rfl rfl) rfl ?_)
        (refine nx (a_bslice (gN rfl) rfl rfl rfl rfl rfl rfl rfl rfl rfl rfl rfl rfl rfl) rfl ?_)
        (refine nx (a_appR 400003 3 5 (gN rfl) rfl rfl rfl rfl rfl rfl rfl rfl rfl rfl rfl rfl rfl (hfY) (by first | rfl | omega | (simp only [List.length_set, List.length_map, List.length_append, List.length_cons, List.length_nil] <;> omega) | (simp <;> omega)) (by first | assumption | exact sZ rfl | exact Tm.size_all _ | exact Bd.size_all _ | exact ints_size _ | exact bys_size _ | exact Lt.size_all _) (by simp) (hroom)) (by kernel_rfl) ?_)
        (refine nx (aL (gN rfl) rfl rfl rfl rfl rfl rfl rfl rfl rfl rfl rfl rfl) rfl ?_)
        (refine nx (aM (gN rfl) rfl rfl rfl rfl rfl) rfl ?_)
        (refine nx (a_callY hon (gN rfl) rfl rfl rfl rfl rfl (hcall) (by repeat (first | exact trivial | refine ⟨rfl, ?_⟩)) (by first | rfl | kernel_rfl) (by first | rfl | kernel_rfl) (by first | rfl | kernel_rfl) (by first | rfl | kernel_rfl) (hnb_of (by first | rfl | kernel_rfl)) rfl) rfl ?_)
        (refine nx (a_not (gN rfl) rfl rfl rfl rfl rfl) rfl ?_)
        refine ⟨by kernel_rfl, ?_⟩
        show AWp _ _ _ _ _ _ _
        refine aC rfl (fun hc => by cases hc) (fun hc => aK ?_)
        show AWp _ _ _ _ _ _ _
        refine AWp.wk (wk_again 400002 400003 3 5 (pl.map CV.i).length rfl rfl rfl rfl rfl rfl rfl (by simp)) ?_
        refine aR ?_
        (refine nx (a_add (gN rfl) rfl rfl rfl rfl rfl rfl (by first | omega | (simp only [List.length_map, List.length_append, List.length_cons, List.length_nil] <;> omega) | (simp <;> omega))) rfl ?_)
        (refine nx (aM (gN rfl) rfl rfl rfl rfl rfl) rfl ?_)
        refine ⟨hkl, ?_⟩
        show Wk _ _ _ _ ((0, AV.sl 400002 0 pl.length 1) :: (2, .val (yldV l0)) :: (18, .val (.lst (l.map Tm.cv))) :: (19, .val (.i (l.map Tm.cv).length)) :: (20, .val (.i (((k + 1 : Nat) : Int)))) :: (obX (Ls (j + 1 + (syL (l.take (k + 1)) 0 pl).length)) 400002 pl))
        rw [hJ2]
        refine wk_sub ⟨rfl, rfl, rfl, rfl, rfl, rfl, rfl, rfl, ?_, trivial⟩
        show some (AV.mrow 3 1 ((pl.map CV.i ++ [CV.i (k : Int)]).take (pl.map CV.i).length)) = _
        rw [List.take_left' rfl]
      · have hce : cap = (pl.map CV.i).length := by omega
        subst hce
        refine aS (aD (by kernel_rfl) (by kernel_rfl) ?_)
        (refine nx (aM (gN rfl) rfl rfl rfl rfl rfl) rfl ?_)
        (refine nx (aM (gN rfl) rfl rfl rfl rfl rfl) rfl ?_)
        (refine nx (a_bslice (gN rfl) rfl rfl rfl rfl rfl rfl rfl rfl rfl rfl rfl rfl rfl) rfl ?_)
        (refine nx (a_appX 400003 3 (gN rfl) rfl rfl rfl rfl rfl rfl rfl rfl rfl rfl rfl rfl rfl rfl (hfY) (by first | rfl | omega | (simp only [List.length_set, List.length_map, List.length_append, List.length_cons, List.length_nil] <;> omega) | (simp <;> omega)) (by first | assumption | exact sZ rfl | exact Tm.size_all _ | exact Bd.size_all _ | exact ints_size _ | exact bys_size _ | exact Lt.size_all _) (by simp) (by first | omega | (simp only [List.length_map, List.length_append, List.length_cons, List.length_nil] <;> omega) | (simp <;> omega))) (by kernel_rfl) ?_)
        (refine nx (aL (gN rfl) rfl rfl rfl rfl rfl rfl rfl rfl rfl rfl rfl rfl) rfl ?_)
        (refine nx (aM (gN rfl) rfl rfl rfl rfl rfl) rfl ?_)
        (refine nx (a_callY hon (gN rfl) rfl rfl rfl rfl rfl (hcall) (by repeat (first | exact trivial | refine ⟨rfl, ?_⟩)) (by first | rfl | kernel_rfl) (by first | rfl | kernel_rfl) (by first | rfl | kernel_rfl) (by first | rfl | kernel_rfl) (hnb_of (by first | rfl | kernel_rfl)) rfl) rfl ?_)
        (refine nx (a_not (gN rfl) rfl rfl rfl rfl rfl) rfl ?_)
        refine ⟨by kernel_rfl, ?_⟩
        show AWp _ _ _ _ _ _ _
        refine aC rfl (fun hc => by cases hc) (fun hc => aK ?_)
        show AWp _ _ _ _ _ _ _
        refine aR ?_
        (refine nx (a_add (gN rfl) rfl rfl rfl rfl rfl rfl (by first | omega | (simp only [List.length_map, List.length_append, List.length_cons, List.length_nil] <;> omega) | (simp <;> omega))) rfl ?_)
        (refine nx (aM (gN rfl) rfl rfl rfl rfl rfl) rfl ?_)
        refine ⟨hkl, ?_⟩
        show Wk _ _ _ _ ((0, AV.sl 400002 0 pl.length 1) :: (2, .val (yldV l0)) :: (18, .val (.lst (l.map Tm.cv))) :: (19, .val (.i (l.map Tm.cv).length)) :: (20, .val (.i (((k + 1 : Nat) : Int)))) :: (obX (Ls (j + 1 + (syL (l.take (k + 1)) 0 pl).length)) 400002 pl))
        rw [hJ2]
        exact wk_sub ⟨rfl, rfl, rfl, rfl, rfl, rfl, rfl, rfl, rfl, trivial⟩
    · have hkl : k = l.length := by
        have : ¬ k < l.length := by simpa using hlt
        omega
      subst hkl
      have hJ3 : j + ((pl, (⟨f, l⟩ : Tm)) :: syL l 0 pl).length = J := by rw [List.take_length] at hJ; rw [hJ, List.length_cons]; omega
      rw [hJ3, ← hJ]
      refine aE ?_
      show AWp _ _ _ _ _ _ _
      refine aS (aR ?_)
      (refine nx (aA (gN rfl) rfl rfl rfl rfl rfl) rfl ?_)
      show AWp _ _ _ _ _ _ _
      exact aT ⟨.inr rfl, _, Wk.refl _, rfl, rfl, rfl, rfl, rfl, trivial⟩
  · refine afunY_of Tryz.func120 Tryz.ntmps120 rfl rfl rfl rfl (by kernel_rfl) (by kernel_rfl) ?_
    intro w U hon hU
    have hfY : U.f 400002 = none := hUno9 hU (by kernel_rfl)
    refine aS (aR ?_)
    (refine nx (a_box (gN rfl) rfl rfl rfl rfl rfl) (by kernel_rfl) ?_)
    (refine nx (aA (gN rfl) rfl rfl rfl rfl rfl) rfl ?_)
    show AWp _ _ _ _ _ _ _
    refine aS (aS (aR ?_))
    (refine nx (aF (gN rfl) rfl rfl rfl rfl rfl rfl rfl rfl rfl) rfl ?_)
    (refine nx (aLb (gN rfl) rfl rfl rfl rfl rfl rfl rfl rfl rfl rfl rfl rfl) rfl ?_)
    (refine nx (a_lss (gN rfl) rfl rfl rfl rfl rfl rfl) rfl ?_)
    show AWp _ _ _ _ _ _ _
    refine aC rfl (fun hc => ?_) (fun hc => ?_)
    · have hf : f < 0 := by simpa using hc
      have e : (sy ⟨f, l⟩ pl).length = 0 := by rw [sy_eq, if_pos hf]; rfl
      rw [e, Nat.add_zero]
      refine aS (aR ?_)
      (refine nx (aA (gN rfl) rfl rfl rfl rfl rfl) rfl ?_)
      show AWp _ _ _ _ _ _ _
      exact aT ⟨.inr rfl, _, Wk.refl _, rfl, rfl, rfl, rfl, rfl, trivial⟩
    have hf : ¬ f < 0 := by simpa using hc
    have hsy := sy_eq ⟨f, l⟩ pl
    rw [if_neg hf] at hsy
    rw [hsy] at hY ⊢
    refine aK ?_
    show AWp _ _ _ _ _ _ _
    refine AWp.wk (wk_sub (s' := (0, AV.sl 400003 0 pl.length 1) :: (2, .val (yldV l0)) :: (4, .bp 4 0 []) :: (100004, .bx (Tm.cw ⟨f, l⟩)) :: (obX (Ls (j)) 400003 pl)) ⟨rfl, rfl, rfl, rfl, rfl, rfl, rfl, rfl, trivial⟩) ?_
    have hY0 := hY 0 (pl, ⟨f, l⟩) rfl 400003 (by simp)
    refine aS (aS (awp_regionY ?_))
    (refine nxY (AOp.y (aM (gN rfl) rfl rfl rfl rfl rfl)) rfl ?_)
    (refine nxY (AOp.y (aM (gN rfl) rfl rfl rfl rfl rfl)) rfl ?_)
    (refine nxY (AOp.y (aL (gN rfl) rfl rfl rfl rfl rfl rfl rfl rfl rfl rfl rfl rfl)) rfl ?_)
    (refine nxY (a_yield (u := .slice none 0 0) 0 (hY0) hon (gN rfl) rfl rfl rfl rfl rfl rfl (.inr fun _ _ => rfl) (by repeat (first | exact trivial | refine ⟨rfl, ?_⟩)) (by first | rfl | kernel_rfl) (by first | rfl | kernel_rfl) (by first | rfl | kernel_rfl) (hnb_of (by first | rfl | kernel_rfl)) rfl) rfl ?_)
    (refine nxY (AOp.y (a_not (gN rfl) rfl rfl rfl rfl rfl)) rfl ?_)
    show AWp _ _ _ _ _ _ _
    refine aC rfl (fun hc => by cases hc) (fun hc => aK ?_)
    show AWp _ _ _ _ _ _ _
    refine AWp.wk (wk_sub (s' := (0, AV.sl 400003 0 pl.length 1) :: (2, .val (yldV l0)) :: (4, .bp 4 0 []) :: (100004, .bx (Tm.cw ⟨f, l⟩)) :: (obX (Ls (j + 1)) 400003 pl)) ⟨rfl, rfl, rfl, rfl, rfl, rfl, rfl, rfl, trivial⟩) ?_
    refine aS (aS (aR ?_))
    (refine nx (aF (gN rfl) rfl rfl rfl rfl rfl rfl rfl rfl rfl) rfl ?_)
    (refine nx (aLb (gN rfl) rfl rfl rfl rfl rfl rfl rfl rfl rfl rfl rfl rfl) rfl ?_)
    (refine nx (a_len (gN rfl) rfl rfl rfl rfl rfl rfl rfl) rfl ?_)
    (refine nx (aM (gN rfl) rfl rfl rfl rfl rfl) rfl ?_)
    show AWp _ _ _ _ _ _ _
    refine aB (awp_count l.length (fun k => (0, AV.sl 400003 0 pl.length 1) :: (2, .val (yldV l0)) :: (18, .val (.lst (l.map Tm.cv))) :: (19, .val (.i (l.map Tm.cv).length)) :: (20, .val (.i (k))) :: (obX (Ls (j + 1 + (syL (l.take k) 0 pl).length)) 400003 pl)) (wk_sub ⟨rfl, rfl, rfl, rfl, rfl, ?_, ?_, ?_, rfl, trivial⟩) ?_)
    · rfl
    · rfl
    · rfl
    intro k hk
    obtain ⟨J, hJ⟩ : ∃ J, J = j + 1 + (syL (l.take k) 0 pl).length := ⟨_, rfl⟩
    refine aS (aR ?_)
    (refine nx (a_lss (gN rfl) rfl rfl rfl rfl rfl rfl) rfl ?_)
    show AWp _ _ _ _ _ _ _
    refine aS (aC rfl (fun hlt => ?_) (fun hlt => ?_))
    · have hkl : k < l.length := by simpa using hlt
      obtain ⟨x, hx⟩ : ∃ x, l[k]? = some x := ⟨l[k], List.getElem?_eq_getElem hkl⟩
      have hx' := Tm.map_at hx
      have hxm := List.mem_of_getElem? hx
      have hszs := sy_sizes hf hx
      have hstep : syL (l.take (k + 1)) 0 pl = syL (l.take k) 0 pl ++ sy x (pl ++ [(k : Int)]) := by rw [syL_take 0 pl hx, Nat.zero_add]
      have hJ2 : j + 1 + (syL (l.take (k + 1)) 0 pl).length = J + (sy x (pl ++ [(k : Int)])).length := by rw [hstep, List.length_append, hJ]; omega
      have hcall := (ih x hxm J (pl ++ [(k : Int)]) (by rw [List.length_append]; simp only [List.length_cons, List.length_nil]; omega) (fun i y hy X hX => by
        have h2 := hY (1 + (syL (l.take k) 0 pl).length + i) y (syL_at hx pl hy) X hX
        have e1 : j + (1 + (syL (l.take k) 0 pl).length + i) = J + i := by omega
        rw [e1] at h2
        exact h2)).1
      have hpe : (pl ++ [(k : Int)]).length = (pl.map CV.i).length + [CV.i (k : Int)].length := by simp
      unfold obX at hcall
      rw [hpe, List.map_append] at hcall
      have hlm : (pl.map CV.i).length = pl.length := List.length_map ..
      rw [← hJ]
      refine aK ?_
      show AWp _ _ _ _ _ _ _
      refine aS (aB (aS (aR ?_)))
      (refine nx (aM (gN rfl) rfl rfl rfl rfl rfl) rfl ?_)
      (refine nx (a_index (j := k) (gN rfl) rfl rfl rfl rfl rfl rfl rfl rfl rfl (hx') rfl (hsz)) rfl ?_)
      (refine nx (a_load_ad (gN rfl) rfl rfl rfl rfl rfl rfl rfl rfl rfl) rfl ?_)
      (refine nx (a_alloc (gN rfl) rfl rfl rfl rfl rfl rfl rfl rfl rfl rfl) (by kernel_rfl) ?_)
      (refine nx (aA (gN rfl) rfl rfl rfl rfl rfl) rfl ?_)
      (refine nx (aSt (gN rfl) rfl rfl rfl rfl rfl rfl rfl rfl rfl rfl) rfl ?_)
      show AWp _ _ _ _ _ _ _
      refine AWp.wk (wk_sub (s' := (7, AV.val (.i (k : Int))) :: (8, .bp 8 0 []) :: (100008, .bx x.cw) :: ((0, AV.sl 400003 0 pl.length 1) :: (2, .val (yldV l0)) :: (18, .val (.lst (l.map Tm.cv))) :: (19, .val (.i (l.map Tm.cv).length)) :: (20, .val (.i (k))) :: (obX (Ls (J)) 400003 pl))) ⟨rfl, rfl, rfl, rfl, rfl, rfl, rfl, rfl, rfl, rfl, rfl, rfl, trivial⟩) ?_
      refine AWp.handle 3 400003 rfl rfl rfl rfl fun ao cap hcap hao => ?_
      rcases Nat.lt_or_ge (pl.map CV.i).length cap with hroom | hroom
      · refine aS (aD (by kernel_rfl) (by kernel_rfl) ?_)
        (refine nx (aM (gN rfl) rfl rfl rfl rfl rfl) rfl ?_)
        (refine nx (aM (gN rfl) rfl rfl rfl rfl rfl) rfl ?_)
        (refine nx (a_bslice (gN rfl) rfl rfl rfl rfl rfl rfl rfl rfl rfl rfl rfl rfl rfl) rfl ?_)
        (refine nx (a_appR 400002 3 5 (gN rfl) rfl rfl rfl rfl rfl rfl rfl rfl rfl rfl rfl rfl rfl (hfY) (by first | rfl | omega | (simp only [List.length_set, List.length_map, List.length_append, List.length_cons, List.length_nil] <;> omega) | (simp <;> omega)) (by first | assumption | exact sZ rfl | exact Tm.size_all _ | exact Bd.size_all _ | exact ints_size _ | exact bys_size _ | exact Lt.size_all _) (by simp) (hroom)) (by kernel_rfl) ?_)
        (refine nx (aL (gN rfl) rfl rfl rfl rfl rfl rfl rfl rfl rfl rfl rfl rfl) rfl ?_)
        (refine nx (aM (gN rfl) rfl rfl rfl rfl rfl) rfl ?_)
        (refine nx (a_callY hon (gN rfl) rfl rfl rfl rfl rfl (hcall) (by repeat (first | exact trivial | refine ⟨rfl, ?_⟩)) (by first | rfl | kernel_rfl) (by first | rfl | kernel_rfl) (by first | rfl | kernel_rfl) (by first | rfl | kernel_rfl) (hnb_of (by first | rfl | kernel_rfl)) rfl) rfl ?_)
        (refine nx (a_not (gN rfl) rfl rfl rfl rfl rfl) rfl ?_)
        refine ⟨by kernel_rfl, ?_⟩
        show AWp _ _ _ _ _ _ _
        refine aC rfl (fun hc => by cases hc) (fun hc => aK ?_)
        show AWp _ _ _ _ _ _ _
        refine AWp.wk (wk_again 400003 400002 3 5 (pl.map CV.i).length rfl rfl rfl rfl rfl rfl rfl (by simp)) ?_
        refine aR ?_
        (refine nx (a_add (gN rfl) rfl rfl rfl rfl rfl rfl (by first | omega | (simp only [List.length_map, List.length_append, List.length_cons, List.length_nil] <;> omega) | (simp <;> omega))) rfl ?_)
        (refine nx (aM (gN rfl) rfl rfl rfl rfl rfl) rfl ?_)
        refine ⟨hkl, ?_⟩
        show Wk _ _ _ _ ((0, AV.sl 400003 0 pl.length 1) :: (2, .val (yldV l0)) :: (18, .val (.lst (l.map Tm.cv))) :: (19, .val (.i (l.map Tm.cv).length)) :: (20, .val (.i (((k + 1 : Nat) : Int)))) :: (obX (Ls (j + 1 + (syL (l.take (k + 1)) 0 pl).length)) 400003 pl))
        rw [hJ2]
        refine wk_sub ⟨rfl, rfl, rfl, rfl, rfl, rfl, rfl, rfl, ?_, trivial⟩
        show some (AV.mrow 3 1 ((pl.map CV.i ++ [CV.i (k : Int)]).take (pl.map CV.i).length)) = _
        rw [List.take_left' rfl]
      · have hce : cap = (pl.map CV.i).length := by omega
        subst hce
        refine aS (aD (by kernel_rfl) (by kernel_rfl) ?_)
        (refine nx (aM (gN rfl) rfl rfl rfl rfl rfl) rfl ?_)
        (refine nx (aM (gN rfl) rfl rfl rfl rfl rfl) rfl ?_)
        (refine nx (a_bslice (gN rfl) rfl rfl rfl rfl rfl rfl rfl rfl rfl rfl rfl rfl rfl) rfl ?_)
        (refine nx (a_appX 400002 3 (gN rfl) rfl rfl rfl rfl rfl rfl rfl rfl rfl rfl rfl rfl rfl rfl (hfY) (by first | rfl | omega | (simp only [List.length_set, List.length_map, List.length_append, List.length_cons, List.length_nil] <;> omega) | (simp <;> omega)) (by first | assumption | exact sZ rfl | exact Tm.size_all _ | exact Bd.size_all _ | exact ints_size _ | exact bys_size _ | exact Lt.size_all _) (by simp) (by first | omega | (simp only [List.length_map, List.length_append, List.length_cons, List.length_nil] <;> omega) | (simp <;> omega))) (by kernel_rfl) ?_)
        (refine nx (aL (gN rfl) rfl rfl rfl rfl rfl rfl rfl rfl rfl rfl rfl rfl) rfl ?_)
        (refine nx (aM (gN rfl) rfl rfl rfl rfl rfl) rfl ?_)
        (refine nx (a_callY hon (gN rfl) rfl rfl rfl rfl rfl (hcall) (by repeat (first | exact trivial | refine ⟨rfl, ?_⟩)) (by first | rfl | kernel_rfl) (by first | rfl | kernel_rfl) (by first | rfl | kernel_rfl) (by first | rfl | kernel_rfl) (hnb_of (by first | rfl | kernel_rfl)) rfl) rfl ?_)
        (refine nx (a_not (gN rfl) rfl rfl rfl rfl rfl) rfl ?_)
        refine ⟨by kernel_rfl, ?_⟩
        show AWp _ _ _ _ _ _ _
        refine aC rfl (fun hc => by cases hc) (fun hc => aK ?_)
        show AWp _ _ _ _ _ _ _
        refine aR ?_
        (refine nx (a_add (gN rfl) rfl rfl rfl rfl rfl rfl (by first | omega | (simp only [List.length_map, List.length_append, List.length_cons, List.length_nil] <;> omega) | (simp <;> omega))) rfl ?_)
        (refine nx (aM (gN rfl) rfl rfl rfl rfl rfl) rfl ?_)
        refine ⟨hkl, ?_⟩
        show Wk _ _ _ _ ((0, AV.sl 400003 0 pl.length 1) :: (2, .val (yldV l0)) :: (18, .val (.lst (l.map Tm.cv))) :: (19, .val (.i (l.map Tm.cv).length)) :: (20, .val (.i (((k + 1 : Nat) : Int)))) :: (obX (Ls (j + 1 + (syL (l.take (k + 1)) 0 pl).length)) 400003 pl))
        rw [hJ2]
        exact wk_sub ⟨rfl, rfl, rfl, rfl, rfl, rfl, rfl, rfl, rfl, trivial⟩
    · have hkl : k = l.length := by
        have : ¬ k < l.length := by simpa using hlt
        omega
      subst hkl
      have hJ3 : j + ((pl, (⟨f, l⟩ : Tm)) :: syL l 0 pl).length = J := by rw [List.take_length] at hJ; rw [hJ, List.length_cons]; omega
      rw [hJ3, ← hJ]
      refine aE ?_
      show AWp _ _ _ _ _ _ _
      refine aS (aR ?_)
      (refine nx (aA (gN rfl) rfl rfl rfl rfl rfl) rfl ?_)
      show AWp _ _ _ _ _ _ _
      exact aT ⟨.inr rfl, _, Wk.refl _, rfl, rfl, rfl, rfl, rfl, trivial⟩
-- 
theorem suSymbols_abs (W : World) (t : Tm) : AFun Tryz.prog W 91 [t.cw] (.val (.fn 119 0 [.ptr t.cw])) := by
  refine afun_of (rs := [.fn 119 0 [.ptr t.cw]]) Tryz.func91 Tryz.ntmps91 rfl rfl rfl rfl ?_
  intro w U hW
  refine aS (aR ?_)
  (refine nx (a_box (gN rfl) rfl rfl rfl rfl rfl) rfl ?_)
  (refine nx (aA (gN rfl) rfl rfl rfl rfl rfl) rfl ?_)
  show AWp _ _ _ _ _ _ _
  refine AWp.wk (wk_freeze 1 rfl rfl rfl (s' := []) trivial rfl rfl rfl) ?_
  refine aS (aR ?_)
  (refine nx (a_mkfunc (gN rfl) rfl rfl rfl rfl rfl rfl) rfl ?_)
  (refine nx (aA (gN rfl) rfl rfl rfl rfl rfl) rfl ?_)
  show AWp _ _ _ _ _ _ _
  exact aT ⟨.inr rfl, rfl⟩
-- 
set_option maxHeartbeats 2000000 in
theorem suSym_hands (t : Tm) (hsz : t.size ≤ 1000000) (Ls : Nat → List (List Lt)) : HandsY Tryz.prog 119 [.ptr t.cw] [400002, 400003] (fun X x => rowI X x.1) (fun X x _ => [.sl X 0 x.1.length 1, .val x.2.cw]) (sy t []) (fun k => obE (Ls k)) := by
  intro Wb Ub l0 hY
  have hw := (suWalk_abs Wb Ub l0 Ls t 0 [] (by simpa using hsz) (fun i x hx X hX => by
    have := hY i x hx X hX
    rw [show 0 + i = i by omega]
    exact this)).1
  rw [Nat.zero_add] at hw
  have hcall : AFunY Tryz.prog Wb Ub 120 (obE (Ls 0)) [.own (.lst []) 1, .val t.cw, .val (yldV l0)] (.val (.b true)) (obE (Ls (sy t []).length)) := afunY_nil 400002 3 1 (cs := [t.cw, yldV l0]) rfl rfl (by kernel_rfl) rfl hw
  refine afunY_of Tryz.func119 Tryz.ntmps119 rfl rfl rfl rfl (by kernel_rfl) (by kernel_rfl) ?_
  intro w U hon hU
  show AWp _ _ _ _ _ _ ((0, AV.val (yldV l0)) :: (1, .val (.ptr t.cw)) :: obE (Ls 0))
  refine aR ?_
  (refine nx (a_load_ptr (gN rfl) rfl rfl rfl rfl rfl rfl rfl rfl rfl) rfl ?_)
  (refine nx (aM (gN rfl) rfl rfl rfl rfl rfl) rfl ?_)
  (refine nx (a_callY hon (gN rfl) rfl rfl rfl rfl rfl (hcall) (by repeat (first | exact trivial | refine ⟨rfl, ?_⟩)) (by first | rfl | kernel_rfl) (by first | rfl | kernel_rfl) (by first | rfl | kernel_rfl) (by first | rfl | kernel_rfl) (hnb_of (by first | rfl | kernel_rfl)) rfl) rfl ?_)
  exact ⟨.inl rfl, _, Wk.refl _, rfl, rfl, rfl, rfl, trivial⟩
-- 
theorem suLeads_abs (W : World) (a b : Tm) (ha : a.rng ∧ a.ok ∧ a.size ≤ 1000000) (hb : b.rng ∧ b.ok ∧ b.size ≤ 1000000) : AFun Tryz.prog W 38 [a.cw, b.cw] (.val (.b (leadB a b))) := by
  have hk := fun w => kCmp_abs w a b ha.1 ha.2.1 (by omega) hb.1 hb.2.1 (by omega)
  obtain ⟨k, hkk⟩ : ∃ k, k = kb a b := ⟨_, rfl⟩
  have he : leadB a b = decide (k = 1 ∨ k = 2) := by rw [hkk]; rfl
  rw [← hkk] at hk
  rw [he]
  refine afun_of (rs := [.b (decide (k = 1 ∨ k = 2))]) Tryz.func38 Tryz.ntmps38 rfl rfl rfl rfl ?_
  intro w U hW
  refine aS (aR ?_)
  (refine nx (a_box (gN rfl) rfl rfl rfl rfl rfl) rfl ?_)
  (refine nx (a_box (gN rfl) rfl rfl rfl rfl rfl) rfl ?_)
  (refine nx (aA (gN rfl) rfl rfl rfl rfl rfl) rfl ?_)
  show AWp _ _ _ _ _ _ _
  refine aS (aR ?_)
  (refine nx (aL (gN rfl) rfl rfl rfl rfl rfl rfl rfl rfl rfl rfl rfl rfl) rfl ?_)
  (refine nx (aL (gN rfl) rfl rfl rfl rfl rfl rfl rfl rfl rfl rfl rfl rfl) rfl ?_)
  (refine nx (a_call (gN rfl) rfl rfl rfl rfl rfl (hk w)) rfl ?_)
  (refine nx (aA (gN rfl) rfl rfl rfl rfl rfl) rfl ?_)
  show AWp _ _ _ _ _ _ _
  by_cases h1 : k = 1
  · have g : decide (k = 1) = true := decide_eq_true h1
    rw [decide_eq_true (Or.inl h1)]
    refine aS (aR ?_)
    (refine nx (aM (gN rfl) rfl rfl rfl rfl rfl) rfl ?_)
    (refine nx (a_eql (gN rfl) rfl rfl rfl rfl rfl rfl) rfl ?_)
    (refine nx (aM (gN rfl) rfl rfl rfl rfl rfl) rfl ?_)
    (refine ⟨_, _, _, a_off (go_off rfl rfl rfl rfl (by first | rfl | assumption | (simp; done) | (simp [*]; done))) rfl rfl rfl, rfl, ?_⟩)
    (refine ⟨_, _, _, a_off (go_off rfl rfl rfl rfl (by first | rfl | assumption | (simp; done) | (simp [*]; done))) rfl rfl rfl, rfl, ?_⟩)
    (refine ⟨_, _, _, aPt (gN rfl) rfl rfl rfl rfl rfl ?hb rfl, rfl, ?_⟩; case hb => (first | rfl | assumption | (simp; done)))
    (refine nx (aA (gN rfl) rfl rfl rfl rfl rfl) rfl ?_)
    show AWp _ _ _ _ _ _ _
    exact aT (And.intro (.inr rfl) rfl)
  · have g : decide (k = 1) = false := decide_eq_false h1
    have e : decide (k = 1 ∨ k = 2) = decide (k = 2) := by simp [h1]
    rw [e]
    refine aS (aR ?_)
    (refine nx (aM (gN rfl) rfl rfl rfl rfl rfl) rfl ?_)
    (refine nx (a_eql (gN rfl) rfl rfl rfl rfl rfl rfl) rfl ?_)
    (refine nx (aM (gN rfl) rfl rfl rfl rfl rfl) rfl ?_)
    (refine nx (aM (gd_on rfl rfl rfl rfl (by first | rfl | assumption | (simp; done))) rfl rfl rfl rfl rfl) rfl ?_)
    (refine nx (a_eql (gd_on rfl rfl rfl rfl (by first | rfl | assumption | (simp; done))) rfl rfl rfl rfl rfl rfl) rfl ?_)
    (refine ⟨_, _, _, aPf (gN rfl) rfl rfl rfl rfl rfl ?hb rfl, rfl, ?_⟩; case hb => (first | rfl | assumption | (simp; done)))
    (refine nx (aA (gN rfl) rfl rfl rfl rfl rfl) rfl ?_)
    show AWp _ _ _ _ _ _ _
    exact aT (And.intro (.inr rfl) rfl)
-- 
theorem suAlways_abs (W : World) (a b : Tm) : AFun Tryz.prog W 42 [a.cw, b.cw] (.val (.b true)) := by
  refine afun_of (rs := [.b true]) Tryz.func42 Tryz.ntmps42 rfl rfl rfl rfl ?_
  intro w U hW
  refine aS (aR ?_)
  (refine nx (a_box (gN rfl) rfl rfl rfl rfl rfl) rfl ?_)
  (refine nx (a_box (gN rfl) rfl rfl rfl rfl rfl) rfl ?_)
  (refine nx (aA (gN rfl) rfl rfl rfl rfl rfl) rfl ?_)
  show AWp _ _ _ _ _ _ _
  refine aS (aR ?_)
  (refine nx (aA (gN rfl) rfl rfl rfl rfl rfl) rfl ?_)
  show AWp _ _ _ _ _ _ _
  exact aT (And.intro (.inr rfl) rfl)
def upL (n : Nat) : List Int := (List.range n).map fun (k : Nat) => (k : Int)
theorem upL_succ (n : Nat) : upL (n + 1) = upL n ++ [(n : Int)] := by
  unfold upL
  rw [List.range_succ, List.map_append]; rfl
theorem upL_len (n : Nat) : (upL n).length = n := by unfold upL; simp
structure Wy where
  n : Int
  a : Tm
  b : Tm
noncomputable def Wy.cv (w : Wy) : CV := .row [.i w.n, .row [.i w.a.f, .lst (w.a.l.map Tm.cv)], .row [.i w.b.f, .lst (w.b.l.map Tm.cv)]]
def wy2 (n : Int) (l : Lt) : List Wy := [⟨n, l.a, l.b⟩, ⟨n, l.b, l.a⟩]
noncomputable def wysN (ld : Tm → Tm → Bool) (c : List Lt) (n : Int) : List Wy := match c[n.toNat]? with
  | some l => (wy2 n l).filter fun w => ld w.a w.b
  | none => []
noncomputable def wysL (ld : Tm → Tm → Bool) (c : List Lt) (L : List Int) : List Wy := L.flatMap (wysN ld c)
theorem wysL_take {ld : Tm → Tm → Bool} {c : List Lt} {L : List Int} {k : Nat} {n : Int} (h : L[k]? = some n) : wysL ld c (L.take (k + 1)) = wysL ld c (L.take k) ++ wysN ld c n := by
  unfold wysL
  rw [List.take_add_one, h, List.flatMap_append]
  simp
theorem wy2_size (n : Int) (l : Lt) : ∀ x ∈ (wy2 n l).map Wy.cv, x.size = 5 := by
  intro x hx
  obtain ⟨w, _, rfl⟩ := List.mem_map.1 hx
  rfl
theorem wys_at {ld : Tm → Tm → Bool} {c : List Lt} {L : List Int} {k : Nat} {n : Int} {l : Lt} (h : L[k]? = some n) (hl : c[n.toNat]? = some l) {j : Nat} {w : Wy} (hj : (wy2 n l)[j]? = some w) (hld : ld w.a w.b = true) : (wysL ld c L)[(wysL ld c (L.take k)).length + (((wy2 n l).take j).filter fun w => ld w.a w.b).length]? = some w := by
  have h1 : wysL ld c L = wysL ld c (L.take (k + 1)) ++ wysL ld c (L.drop (k + 1)) := by
    conv => lhs; rw [← List.take_append_drop (k + 1) L]
    unfold wysL; rw [List.flatMap_append]
  have h2 : wysN ld c n = (wy2 n l).filter fun w => ld w.a w.b := by unfold wysN; rw [hl]
  have h3 : (wy2 n l).filter (fun w => ld w.a w.b) = ((wy2 n l).take j).filter (fun w => ld w.a w.b) ++ (w :: ((wy2 n l).drop (j + 1)).filter fun w => ld w.a w.b) := by
    conv => lhs; rw [← List.take_append_drop j (wy2 n l), drop_at hj]
    rw [List.filter_append, List.filter_cons, if_pos hld]
  rw [h1, wysL_take h, h2, h3, List.append_assoc, List.getElem?_append_right (by omega), Nat.add_sub_cancel_left, List.append_assoc, List.getElem?_append_right (by omega), Nat.sub_self]
  rfl
section
variable {P : Program} {w0 : World} {U0 : UX} {nt : Nat} {s : AS}
variable {ops : Array Oper} {o : Oper} {S : Nat → Option AV} {gs : List Nat} {d : Nat}
theorem a_alloc1V (hg : Gd w0 U0 nt ops o gs S) (hd : o.dst = some d) (hn : Nat.blt d nt = true) (h5 : Nat.blt d 100000 = true) {ty : TypeId} {v : Value} {c : CV} (ho : o.op = .alloc ty) (hi : (P.info? ty).map (·.zero) = some (some v)) (hc : (v = .slice none 0 0 ∧ c = .lst []) ∨ (v.oneCell' = true ∧ c = .sc v)) : AOp P w0 U0 nt ops o gs [(d, [])] S [(d, .bp d 0 []), (100000 + d, .bx c)] := by
  intro s hs hN a w ⟨D, hv, h⟩ Q K hK
  rw [if_pos (hg s hs a w D hv h)]
  obtain ⟨it, hi1, hi2⟩ : ∃ it, P.info? ty = some it ∧ it.zero = some v := by
    cases e : P.info? ty with
    | none => rw [e] at hi; cases hi
    | some it => rw [e] at hi; exact ⟨it, rfl, by simpa using hi⟩
  have hrep : Rep (Us w0 U0 D) w c [v] ∧ v.cells = #[v] := by
    rcases hc with ⟨rfl, rfl⟩ | ⟨h1, rfl⟩
    · exact ⟨rep_lst.2 ⟨none, 0, 0, rfl, rfl, by omega, (by unfold maxLen; omega), (fun _ => ⟨rfl, rfl⟩), [], .inl rfl, rfl⟩, rfl⟩
    · exact ⟨rep_sc.2 ⟨rfl, h1⟩, by cases v <;> first | rfl | simp [Value.oneCell'] at h1⟩
  have he : (execOp a.eval o).run P w = .ok (.value (.pointer (some ⟨w.heap.size, 0, none⟩))) (w.alloc (.cells #[v] ty)) := by
    simp [execOp, ho, Instr.alloc, zeroValue, typeInfo, hi1, hi2, run_newVar, hrep.2]
  unfold Oper.wp
  rw [he, Oper.upon_value, hd]
  exact hK _ _ ⟨_, _, h.newbox (d := d) (av := .bx c) (xs := [v]) (hN (d, []) (by simp)).nr (bL hn) (bL h5) (.inl rfl) ty (fun _ => hrep.1) (fun _ hl => absurd hl not_live0)⟩
theorem wk_ptrad (d : Nat) {c : CV} (h1 : look s d = some (.val (.ptr c))) (hd : Nat.blt d 100000 = true) : Wk w0 U0 nt s ((d, .ad c) :: s) := by
  rintro a w ⟨D, hv, h⟩
  obtain ⟨v, g1, g2⟩ := h.slot d _ h1 (bL hd)
  obtain ⟨b, off, xs, e1, e2, e3⟩ := vrep_ptr.1 g2.1
  exact ⟨D, hv, h.know (bL hd) g1 ⟨b, off, xs, e1, e2, e3⟩⟩
end
noncomputable abbrev ruC (fl fd : Nat) : CV := .row [.fn fl 0 [], .fn fd 0 []]
-- 
theorem suWays_abs (W : World) (fl fd : Nat) (c : List Lt) (L : List Int) (hlk : ∀ w, AFun Tryz.prog w fl [.lst (c.map Lt.cv)] (.val (.lst (L.map CV.i)))) : AFun Tryz.prog W 89 [ruC fl fd, .lst (c.map Lt.cv)] (.val (.fn 118 0 [.ptr (.lst (L.map CV.i)), .ptr (.lst (c.map Lt.cv)), .ptr (ruC fl fd)])) := by
  refine afun_of (rs := [.fn 118 0 [.ptr (.lst (L.map CV.i)), .ptr (.lst (c.map Lt.cv)), .ptr (ruC fl fd)]]) Tryz.func89 Tryz.ntmps89 rfl rfl rfl rfl ?_
  intro w U hW
  have hv : AFunV Tryz.prog w (.fn fl 0 []) [.lst (c.map Lt.cv)] (.val (.lst (L.map CV.i))) := ⟨fl, 0, [], rfl, by simpa using hlk w⟩
  refine aS (aR ?_)
  (refine nx (a_box (gN rfl) rfl rfl rfl rfl rfl) rfl ?_)
  (refine nx (a_box (gN rfl) rfl rfl rfl rfl rfl) rfl ?_)
  (refine nx (aA (gN rfl) rfl rfl rfl rfl rfl) rfl ?_)
  show AWp _ _ _ _ _ _ _
  refine aS (aR ?_)
  (refine nx (aF (gN rfl) rfl rfl rfl rfl rfl rfl rfl rfl rfl) rfl ?_)
  (refine nx (aLb (gN rfl) rfl rfl rfl rfl rfl rfl rfl rfl rfl rfl rfl rfl) rfl ?_)
  (refine nx (aL (gN rfl) rfl rfl rfl rfl rfl rfl rfl rfl rfl rfl rfl rfl) rfl ?_)
  (refine nx (a_callv (gN rfl) rfl rfl rfl rfl rfl rfl (hv)) rfl ?_)
  (refine nx (a_alloc1V (gN rfl) rfl rfl rfl rfl rfl (by first | exact .inl ⟨rfl, rfl⟩ | exact .inr ⟨rfl, rfl⟩)) rfl ?_)
  (refine nx (aSt (gN rfl) rfl rfl rfl rfl rfl rfl rfl rfl rfl rfl) rfl ?_)
  show AWp _ _ _ _ _ _ _
  refine AWp.wk ((wk_freeze 5 rfl rfl rfl (s' := [(2, AV.bp 2 0 []), (100002, .bx (ruC fl fd)), (3, .bp 3 0 []), (100003, .bx (.lst (c.map Lt.cv)))]) ⟨rfl, rfl, rfl, rfl, trivial⟩ rfl rfl rfl).trans ((wk_freeze 3 rfl rfl rfl (s' := [(5, AV.val (.ptr (.lst (L.map CV.i)))), (2, AV.bp 2 0 []), (100002, .bx (ruC fl fd))]) ⟨rfl, rfl, rfl, trivial⟩ rfl rfl rfl).trans (wk_freeze 2 rfl rfl rfl (s' := [(5, AV.val (.ptr (.lst (L.map CV.i)))), (3, .val (.ptr (.lst (c.map Lt.cv))))]) ⟨rfl, rfl, trivial⟩ rfl rfl rfl))) ?_
  refine aS (aR ?_)
  (refine nx (a_mkfunc (gN rfl) rfl rfl rfl rfl rfl rfl) rfl ?_)
  (refine nx (aA (gN rfl) rfl rfl rfl rfl rfl) rfl ?_)
  show AWp _ _ _ _ _ _ _
  exact aT ⟨.inr rfl, rfl⟩
-- 
set_option maxHeartbeats 8000000 in
theorem suWays_hands (fl fd : Nat) (ld : Tm → Tm → Bool) (c : List Lt) (hc : c.length ≤ 1000000) (L : List Int) (hL : ∀ n ∈ L, 0 ≤ n ∧ n < c.length) (hLl : L.length ≤ 1000000) (hd : ∀ w, ∀ l ∈ c, AFun Tryz.prog w fd [l.a.cw, l.b.cw] (.val (.b (ld l.a l.b))) ∧ AFun Tryz.prog w fd [l.b.cw, l.a.cw] (.val (.b (ld l.b l.a)))) (Ls : Nat → List (List Lt)) : HandsY Tryz.prog 118 [.ptr (.lst (L.map CV.i)), .ptr (.lst (c.map Lt.cv)), .ptr (ruC fl fd)] [0] (fun _ _ => []) (fun _ x _ => [.val x.cv]) (wysL ld c L) (fun k => obE (Ls k)) := by
  intro Wb Ub l0 hY
  refine afunY_of Tryz.func118 Tryz.ntmps118 rfl rfl rfl rfl (by kernel_rfl) (by kernel_rfl) ?_
  intro w U hon hU
  show AWp _ _ _ _ _ _ ((0, AV.val (yldV l0)) :: (1, .val (.ptr (.lst (L.map CV.i)))) :: (2, .val (.ptr (.lst (c.map Lt.cv)))) :: (3, .val (.ptr (ruC fl fd))) :: obE (Ls 0))
  have hsc := Lt.size_all c
  refine aS (aR ?_)
  (refine nx (a_load_ptr (gN rfl) rfl rfl rfl rfl rfl rfl rfl rfl rfl) rfl ?_)
  (refine nx (a_len (gN rfl) rfl rfl rfl rfl rfl rfl rfl) rfl ?_)
  (refine nx (aM (gN rfl) rfl rfl rfl rfl rfl) rfl ?_)
  show AWp _ _ _ _ _ _ _
  refine AWp.wk (wk_ptrad 3 rfl rfl) ?_
  refine aB (awp_count L.length (fun k => (0, AV.val (yldV l0)) :: (2, .val (.ptr (.lst (c.map Lt.cv)))) :: (3, .ad (ruC fl fd)) :: (9, .val (.lst (L.map CV.i))) :: (10, .val (.i (L.map CV.i).length)) :: (11, .val (.i (k : Int))) :: obE (Ls (wysL ld c (L.take k)).length)) (wk_sub ⟨rfl, rfl, rfl, rfl, rfl, rfl, rfl, rfl, rfl, trivial⟩) ?_)
  intro k hk
  obtain ⟨J, hJ⟩ : ∃ J, J = (wysL ld c (L.take k)).length := ⟨_, rfl⟩
  refine aS (aR ?_)
  (refine nx (a_lss (gN rfl) rfl rfl rfl rfl rfl rfl) rfl ?_)
  show AWp _ _ _ _ _ _ _
  refine aS (aC rfl (fun hlt => ?_) (fun hlt => ?_))
  · have hkl : k < L.length := by simpa using hlt
    obtain ⟨n, hn⟩ : ∃ n, L[k]? = some n := ⟨L[k], List.getElem?_eq_getElem hkl⟩
    obtain ⟨m, hm⟩ : ∃ m : Nat, n = (m : Int) := ⟨n.toNat, by have := (hL n (List.mem_of_getElem? hn)).1; omega⟩
    subst hm
    have hmc : m < c.length := by have := (hL _ (List.mem_of_getElem? hn)).2; omega
    obtain ⟨l, hl⟩ : ∃ l, c[m]? = some l := ⟨c[m], List.getElem?_eq_getElem hmc⟩
    have hlm := List.mem_of_getElem? hl
    have hl' := Lt.map_at hl
    have hn' : (L.map CV.i)[k]? = some (.i (m : Int)) := by rw [List.getElem?_map, hn]; rfl
    have hsi := ints_size L
    have hwN : wysN ld c (m : Int) = (wy2 m l).filter fun w => ld w.a w.b := by unfold wysN; rw [Int.toNat_natCast, hl]
    have hstep := wysL_take (ld := ld) (c := c) hn
    rw [← hJ]
    refine aK ?_
    show AWp _ _ _ _ _ _ _
    refine aS (aB (aS (aR ?_)))
    (refine nx (a_index (j := k) (gN rfl) rfl rfl rfl rfl rfl rfl rfl rfl rfl (hn') rfl (hsi)) rfl ?_)
    (refine nx (a_load_ad (gN rfl) rfl rfl rfl rfl rfl rfl rfl rfl rfl) rfl ?_)
    (refine nx (aA (gN rfl) rfl rfl rfl rfl rfl) rfl ?_)
    show AWp _ _ _ _ _ _ _
    refine aS (aD (by kernel_rfl) (by kernel_rfl) ?_)
    (refine nx (aM (gN rfl) rfl rfl rfl rfl rfl) rfl ?_)
    (refine nx (a_load_ptr (gN rfl) rfl rfl rfl rfl rfl rfl rfl rfl rfl) rfl ?_)
    (refine nx (aM (gN rfl) rfl rfl rfl rfl rfl) rfl ?_)
    (refine nx (a_index (j := m) (gN rfl) rfl rfl rfl rfl rfl rfl rfl rfl rfl (hl') rfl (hsc)) rfl ?_)
    (refine nx (a_field_ad (gN rfl) rfl rfl rfl rfl rfl rfl rfl rfl rfl rfl rfl) rfl ?_)
    (refine nx (a_load_ad (gN rfl) rfl rfl rfl rfl rfl rfl rfl rfl rfl) rfl ?_)
    (refine nx (a_load_ptr (gN rfl) rfl rfl rfl rfl rfl rfl rfl rfl rfl) rfl ?_)
    (refine nx (aM (gN rfl) rfl rfl rfl rfl rfl) rfl ?_)
    (refine nx (a_index (j := m) (gN rfl) rfl rfl rfl rfl rfl rfl rfl rfl rfl (hl') rfl (hsc)) rfl ?_)
    (refine nx (a_field_ad (gN rfl) rfl rfl rfl rfl rfl rfl rfl rfl rfl rfl rfl) rfl ?_)
    (refine nx (a_load_ad (gN rfl) rfl rfl rfl rfl rfl rfl rfl rfl rfl) rfl ?_)
    (refine nx (a_build (gN rfl) rfl rfl rfl rfl rfl rfl rfl rfl rfl rfl rfl) rfl ?_)
    (refine nx (aM (gN rfl) rfl rfl rfl rfl rfl) rfl ?_)
    (refine nx (a_load_ptr (gN rfl) rfl rfl rfl rfl rfl rfl rfl rfl rfl) rfl ?_)
    (refine nx (aM (gN rfl) rfl rfl rfl rfl rfl) rfl ?_)
    (refine nx (a_index (j := m) (gN rfl) rfl rfl rfl rfl rfl rfl rfl rfl rfl (hl') rfl (hsc)) rfl ?_)
    (refine nx (a_field_ad (gN rfl) rfl rfl rfl rfl rfl rfl rfl rfl rfl rfl rfl) rfl ?_)
    (refine nx (a_load_ad (gN rfl) rfl rfl rfl rfl rfl rfl rfl rfl rfl) rfl ?_)
    (refine nx (a_load_ptr (gN rfl) rfl rfl rfl rfl rfl rfl rfl rfl rfl) rfl ?_)
    (refine nx (aM (gN rfl) rfl rfl rfl rfl rfl) rfl ?_)
    (refine nx (a_index (j := m) (gN rfl) rfl rfl rfl rfl rfl rfl rfl rfl rfl (hl') rfl (hsc)) rfl ?_)
    (refine nx (a_field_ad (gN rfl) rfl rfl rfl rfl rfl rfl rfl rfl rfl rfl rfl) rfl ?_)
    (refine nx (a_load_ad (gN rfl) rfl rfl rfl rfl rfl rfl rfl rfl rfl) rfl ?_)
    (refine nx (a_build (gN rfl) rfl rfl rfl rfl rfl rfl rfl rfl rfl rfl rfl) rfl ?_)
    (refine nx (a_bslice (gN rfl) rfl rfl rfl rfl rfl rfl rfl rfl rfl rfl rfl rfl rfl) rfl ?_)
    (refine nx (a_len (gN rfl) rfl rfl rfl rfl rfl rfl rfl) rfl ?_)
    (refine nx (aM (gN rfl) rfl rfl rfl rfl rfl) rfl ?_)
    refine ⟨by kernel_rfl, ?_⟩
    show AWp _ _ _ _ _ _ _
    have hws := wy2_size m l
    refine aB (awp_count 2 (fun j => (0, AV.val (yldV l0)) :: (3, .ad (ruC fl fd)) :: (2, .val (.ptr (.lst (c.map Lt.cv)))) :: (9, .val (.lst (L.map CV.i))) :: (10, .val (.i (L.map CV.i).length)) :: (11, .val (.i (k : Int))) :: (39, .val (.lst ((wy2 m l).map Wy.cv))) :: (40, .val (.i 2)) :: (41, .val (.i (j : Int))) :: obE (Ls (J + (((wy2 m l).take j).filter fun w => ld w.a w.b).length))) (wk_sub ⟨rfl, rfl, rfl, rfl, rfl, rfl, rfl, rfl, rfl, rfl, rfl, rfl, trivial⟩) ?_)
    intro j hj
    obtain ⟨J2, hJ2⟩ : ∃ J2, J2 = J + (((wy2 m l).take j).filter fun w => ld w.a w.b).length := ⟨_, rfl⟩
    refine aS (aR ?_)
    (refine nx (a_lss (gN rfl) rfl rfl rfl rfl rfl rfl) rfl ?_)
    show AWp _ _ _ _ _ _ _
    refine aS (aC rfl (fun hlt => ?_) (fun hlt => ?_))
    · have hj2 : j < 2 := by have := of_decide_eq_true hlt; omega
      obtain ⟨x, hx⟩ : ∃ x, (wy2 m l)[j]? = some x := ⟨(wy2 m l)[j]'hj2, List.getElem?_eq_getElem hj2⟩
      have hx' : ((wy2 m l).map Wy.cv)[j]? = some x.cv := by rw [List.getElem?_map, hx]; rfl
      have hcv : x.cv = .row [.i x.n, x.a.cw, x.b.cw] := rfl
      rw [hcv] at hx'
      have hd1 : ∀ w, AFunV Tryz.prog w (.fn fd 0 []) [x.a.cw, x.b.cw] (.val (.b (ld x.a x.b))) := fun w => ⟨fd, 0, [], rfl, by
        have h1 := hd w l hlm
        show AFun _ _ _ ([] ++ ([x.a.cw, x.b.cw] ++ [])) _
        match j, hj2, hx with
        | 0, _, hx => cases hx; exact h1.1
        | 1, _, hx => cases hx; exact h1.2⟩
      have hnx : ((wy2 m l).take (j + 1)).filter (fun w => ld w.a w.b) = ((wy2 m l).take j).filter (fun w => ld w.a w.b) ++ (if ld x.a x.b = true then [x] else []) := by
        rw [List.take_add_one, hx, Option.toList_some, List.filter_append, List.filter_cons, List.filter_nil]
      rw [← hJ2]
      refine aK ?_
      show AWp _ _ _ _ _ _ _
      refine aS (aB (aS (aR ?_)))
      (refine nx (a_index (j := j) (gN rfl) rfl rfl rfl rfl rfl rfl rfl rfl rfl (hx') rfl (hws)) rfl ?_)
      (refine nx (a_load_ad (gN rfl) rfl rfl rfl rfl rfl rfl rfl rfl rfl) rfl ?_)
      (refine nx (a_alloc (gN rfl) rfl rfl rfl rfl rfl rfl rfl rfl rfl rfl) (by kernel_rfl) ?_)
      (refine nx (aSt (gN rfl) rfl rfl rfl rfl rfl rfl rfl rfl rfl rfl) rfl ?_)
      show AWp _ _ _ _ _ _ _
      obtain ⟨b, hb⟩ : ∃ b, b = ld x.a x.b := ⟨_, rfl⟩
      have hd2 := hd1 w
      rw [← hb] at hd2 hnx
      cases b with
      | false =>
        refine aS (aR ?_)
        (refine nx (a_field_ad (gN rfl) rfl rfl rfl rfl rfl rfl rfl rfl rfl rfl rfl) rfl ?_)
        (refine nx (a_load_ad (gN rfl) rfl rfl rfl rfl rfl rfl rfl rfl rfl) rfl ?_)
        (refine nx (aF (gN rfl) rfl rfl rfl rfl rfl rfl rfl rfl rfl) rfl ?_)
        (refine nx (aLb (gN rfl) rfl rfl rfl rfl rfl rfl rfl rfl rfl rfl rfl rfl) rfl ?_)
        (refine nx (aF (gN rfl) rfl rfl rfl rfl rfl rfl rfl rfl rfl) rfl ?_)
        (refine nx (aLb (gN rfl) rfl rfl rfl rfl rfl rfl rfl rfl rfl rfl rfl rfl) rfl ?_)
        (refine nx (a_callv (gN rfl) rfl rfl rfl rfl rfl rfl (hd2)) rfl ?_)
        (refine nx (aM (gN rfl) rfl rfl rfl rfl rfl) rfl ?_)
        (refine ⟨_, _, _, a_off (go_off rfl rfl rfl rfl (by first | rfl | assumption | (simp; done) | (simp [*]; done))) rfl rfl rfl, rfl, ?_⟩)
        (refine ⟨_, _, _, a_off (go_off rfl rfl rfl rfl (by first | rfl | assumption | (simp; done) | (simp [*]; done))) rfl rfl rfl, rfl, ?_⟩)
        (refine ⟨_, _, _, a_off (go_off rfl rfl rfl rfl (by first | rfl | assumption | (simp; done) | (simp [*]; done))) rfl rfl rfl, rfl, ?_⟩)
        (refine ⟨_, _, _, a_off (go_off rfl rfl rfl rfl (by first | rfl | assumption | (simp; done) | (simp [*]; done))) rfl rfl rfl, rfl, ?_⟩)
        (refine ⟨_, _, _, aPf (gN rfl) rfl rfl rfl rfl rfl ?hb rfl, rfl, ?_⟩; case hb => (first | rfl | assumption | (simp; done)))
        show AWp _ _ _ _ _ _ _
        refine aC rfl (fun hc => by cases hc) (fun hc => aK ?_)
        show AWp _ _ _ _ _ _ _
        refine aR ?_
        (refine nx (a_add (gN rfl) rfl rfl rfl rfl rfl rfl (by first | omega | (simp only [List.length_map, List.length_append, List.length_cons, List.length_nil] <;> omega) | (simp <;> omega))) rfl ?_)
        (refine nx (aM (gN rfl) rfl rfl rfl rfl rfl) rfl ?_)
        refine ⟨hj2, ?_⟩
        have e : J + (((wy2 m l).take (j + 1)).filter fun w => ld w.a w.b).length = J2 := by rw [hnx, if_neg (by simp), List.append_nil, hJ2]
        show Wk _ _ _ _ ((0, AV.val (yldV l0)) :: (3, .ad (ruC fl fd)) :: (2, .val (.ptr (.lst (c.map Lt.cv)))) :: (9, .val (.lst (L.map CV.i))) :: (10, .val (.i (L.map CV.i).length)) :: (11, .val (.i (k : Int))) :: (39, .val (.lst ((wy2 m l).map Wy.cv))) :: (40, .val (.i 2)) :: (41, .val (.i ((j + 1 : Nat) : Int))) :: obE (Ls (J + (((wy2 m l).take (j + 1)).filter fun w => ld w.a w.b).length)))
        rw [e]
        exact wk_sub ⟨rfl, rfl, rfl, rfl, rfl, rfl, rfl, rfl, rfl, rfl, rfl, rfl, trivial⟩
      | true =>
        have hY0 := hY J2 x (by rw [hJ2, hJ]; exact wys_at hn (by rw [Int.toNat_natCast]; exact hl) hx hb.symm) 0 (by simp)
        have hY0 : YldC Tryz.prog Wb Ub l0 0 (obE (Ls J2)) (fun _ => [.val (.row [.i x.n, x.a.cw, x.b.cw])]) (obE (Ls (J2 + 1))) := hY0
        refine aS (awp_regionY ?_)
        (refine nxY (AOp.y (a_field_ad (gN rfl) rfl rfl rfl rfl rfl rfl rfl rfl rfl rfl rfl)) rfl ?_)
        (refine nxY (AOp.y (a_load_ad (gN rfl) rfl rfl rfl rfl rfl rfl rfl rfl rfl)) rfl ?_)
        (refine nxY (AOp.y (aF (gN rfl) rfl rfl rfl rfl rfl rfl rfl rfl rfl)) rfl ?_)
        (refine nxY (AOp.y (aLb (gN rfl) rfl rfl rfl rfl rfl rfl rfl rfl rfl rfl rfl rfl)) rfl ?_)
        (refine nxY (AOp.y (aF (gN rfl) rfl rfl rfl rfl rfl rfl rfl rfl rfl)) rfl ?_)
        (refine nxY (AOp.y (aLb (gN rfl) rfl rfl rfl rfl rfl rfl rfl rfl rfl rfl rfl rfl)) rfl ?_)
        (refine nxY (AOp.y (a_callv (gN rfl) rfl rfl rfl rfl rfl rfl (hd2))) rfl ?_)
        (refine nxY (AOp.y (aM (gN rfl) rfl rfl rfl rfl rfl)) rfl ?_)
        (refine nxY (AOp.y (aM (gd_on rfl rfl rfl rfl (by first | rfl | assumption | (simp; done))) rfl rfl rfl rfl rfl)) rfl ?_)
        (refine nxY (AOp.y (aL (gd_on rfl rfl rfl rfl (by first | rfl | assumption | (simp; done))) rfl rfl rfl rfl rfl rfl rfl rfl rfl rfl rfl rfl)) rfl ?_)
        (refine nxY (a_yield (u := .slice none 0 0) 0 (hY0) hon (gd_on rfl rfl rfl rfl (by first | rfl | assumption | (simp; done))) rfl rfl rfl rfl rfl rfl (.inr fun _ _ => rfl) (by repeat (first | exact trivial | refine ⟨rfl, ?_⟩)) (by first | rfl | kernel_rfl) (by first | rfl | kernel_rfl) (by first | rfl | kernel_rfl) (hnb_of (by first | rfl | kernel_rfl)) rfl) rfl ?_)
        (refine nxY (AOp.y (a_not (gd_on rfl rfl rfl rfl (by first | rfl | assumption | (simp; done))) rfl rfl rfl rfl rfl)) rfl ?_)
        (refine ⟨_, _, _, AOp.y (aPt (gN rfl) rfl rfl rfl rfl rfl ?hb rfl), rfl, ?_⟩; case hb => (first | rfl | assumption | (simp; done)))
        show AWp _ _ _ _ _ _ _
        refine aC rfl (fun hc => by cases hc) (fun hc => aK ?_)
        show AWp _ _ _ _ _ _ _
        refine aR ?_
        (refine nx (a_add (gN rfl) rfl rfl rfl rfl rfl rfl (by first | omega | (simp only [List.length_map, List.length_append, List.length_cons, List.length_nil] <;> omega) | (simp <;> omega))) rfl ?_)
        (refine nx (aM (gN rfl) rfl rfl rfl rfl rfl) rfl ?_)
        refine ⟨hj2, ?_⟩
        have e : J + (((wy2 m l).take (j + 1)).filter fun w => ld w.a w.b).length = J2 + 1 := by rw [hnx, if_pos rfl, List.length_append, hJ2]; rfl
        show Wk _ _ _ _ ((0, AV.val (yldV l0)) :: (3, .ad (ruC fl fd)) :: (2, .val (.ptr (.lst (c.map Lt.cv)))) :: (9, .val (.lst (L.map CV.i))) :: (10, .val (.i (L.map CV.i).length)) :: (11, .val (.i (k : Int))) :: (39, .val (.lst ((wy2 m l).map Wy.cv))) :: (40, .val (.i 2)) :: (41, .val (.i ((j + 1 : Nat) : Int))) :: obE (Ls (J + (((wy2 m l).take (j + 1)).filter fun w => ld w.a w.b).length)))
        rw [e]
        exact wk_sub ⟨rfl, rfl, rfl, rfl, rfl, rfl, rfl, rfl, rfl, rfl, rfl, rfl, trivial⟩
    · have hj2 : j = 2 := by
        have : ¬ j < 2 := by have := of_decide_eq_false hlt; omega
        omega
      subst hj2
      rw [← hJ2]
      refine aE ?_
      show AWp _ _ _ _ _ _ _
      refine aR ?_
      (refine nx (a_add (gN rfl) rfl rfl rfl rfl rfl rfl (by first | omega | (simp only [List.length_map, List.length_append, List.length_cons, List.length_nil] <;> omega) | (simp <;> omega))) rfl ?_)
      (refine nx (aM (gN rfl) rfl rfl rfl rfl rfl) rfl ?_)
      refine ⟨hkl, ?_⟩
      have e : (wysL ld c (L.take (k + 1))).length = J2 := by
        rw [hstep, hwN, List.length_append, hJ2, hJ]; rfl
      show Wk _ _ _ _ ((0, AV.val (yldV l0)) :: (2, .val (.ptr (.lst (c.map Lt.cv)))) :: (3, .ad (ruC fl fd)) :: (9, .val (.lst (L.map CV.i))) :: (10, .val (.i (L.map CV.i).length)) :: (11, .val (.i ((k + 1 : Nat) : Int))) :: obE (Ls (wysL ld c (L.take (k + 1))).length))
      rw [e]
      exact wk_sub ⟨rfl, rfl, rfl, rfl, rfl, rfl, rfl, rfl, rfl, trivial⟩
  · have hkl : k = L.length := by
      have : ¬ k < L.length := by simpa using hlt
      omega
    subst hkl
    rw [List.take_length]
    refine aE ?_
    exact ⟨.inl rfl, _, Wk.refl _, rfl, rfl, rfl, rfl, trivial⟩
-- 
theorem suPlaces_abs (W : World) (c : List Lt) (hc : c.length ≤ 1000000) : AFun Tryz.prog W 41 [.lst (c.map Lt.cv)] (.val (.lst ((upL c.length).map CV.i))) := by
  refine afun_of (rs := [.lst ((upL c.length).map CV.i)]) Tryz.func41 Tryz.ntmps41 rfl rfl rfl rfl ?_
  intro w U hW
  refine aS (aR ?_)
  (refine nx (aA (gN rfl) rfl rfl rfl rfl rfl) rfl ?_)
  show AWp _ _ _ _ _ _ _
  refine aS (aR ?_)
  (refine nx (aA (gN rfl) rfl rfl rfl rfl rfl) rfl ?_)
  show AWp _ _ _ _ _ _ _
  refine aS (aS (aR ?_))
  (refine nx (aM (gN rfl) rfl rfl rfl rfl rfl) rfl ?_)
  (refine nx (a_len (gN rfl) rfl rfl rfl rfl rfl rfl rfl) rfl ?_)
  (refine nx (aM (gN rfl) rfl rfl rfl rfl rfl) rfl ?_)
  show AWp _ _ _ _ _ _ _
  refine aB (awp_count c.length (fun k => [(6, AV.val (.i (c.map Lt.cv).length)), (7, .val (.i (k : Int))), (3, .own (.lst ((upL k).map CV.i)) 200013), (200013, .tok 3 1)]) ((wk_nil 3 200013 3 1 rfl rfl rfl rfl rfl rfl rfl).trans (wk_sub ⟨rfl, rfl, rfl, rfl, trivial⟩)) ?_)
  intro k hk
  have hul := upL_len k
  have hlu : ((upL k).map CV.i).length = k := by rw [List.length_map, upL_len]
  have hsi := ints_size (upL k)
  refine aS (aR ?_)
  (refine nx (a_lss (gN rfl) rfl rfl rfl rfl rfl rfl) rfl ?_)
  show AWp _ _ _ _ _ _ _
  refine aS (aC rfl (fun hlt => ?_) (fun hlt => ?_))
  · have hkl : k < c.length := by simpa using hlt
    refine aK ?_
    show AWp _ _ _ _ _ _ _
    refine aS (aB (aS (aR ?_)))
    (refine nx (aM (gN rfl) rfl rfl rfl rfl rfl) rfl ?_)
    (refine nx (aA (gN rfl) rfl rfl rfl rfl rfl) rfl ?_)
    show AWp _ _ _ _ _ _ _
    refine aR ?_
    (refine nx (aM (gN rfl) rfl rfl rfl rfl rfl) rfl ?_)
    (refine nx (aM (gN rfl) rfl rfl rfl rfl rfl) rfl ?_)
    (refine nx (a_bslice (gN rfl) rfl rfl rfl rfl rfl rfl rfl rfl rfl rfl rfl rfl rfl) rfl ?_)
    (refine nx (a_app (gN rfl) rfl rfl rfl rfl rfl rfl rfl rfl rfl rfl rfl rfl rfl rfl rfl (by first | assumption | exact sZ rfl | exact Tm.size_all _ | exact Bd.size_all _ | exact ints_size _ | exact bys_size _ | exact Lt.size_all _) (by first | assumption | exact sZ rfl | exact Tm.size_all _ | exact Bd.size_all _ | exact ints_size _ | exact bys_size _ | exact Lt.size_all _) (by first | omega | (simp only [List.length_map, List.length_append, List.length_cons, List.length_nil] <;> omega) | (simp <;> omega))) rfl ?_)
    (refine nx (aA (gN rfl) rfl rfl rfl rfl rfl) rfl ?_)
    show AWp _ _ _ _ _ _ _
    refine aR ?_
    (refine nx (a_add (gN rfl) rfl rfl rfl rfl rfl rfl (by first | omega | (simp only [List.length_map, List.length_append, List.length_cons, List.length_nil] <;> omega) | (simp <;> omega))) rfl ?_)
    (refine nx (aM (gN rfl) rfl rfl rfl rfl rfl) rfl ?_)
    refine ⟨hkl, ?_⟩
    show Wk _ _ _ _ [(6, AV.val (.i (c.map Lt.cv).length)), (7, .val (.i ((k + 1 : Nat) : Int))), (3, .own (.lst ((upL (k + 1)).map CV.i)) 200013), (200013, .tok 3 1)]
    rw [upL_succ, List.map_append]
    exact (wk_sub (s' := [(6, AV.val (.i (c.map Lt.cv).length)), (7, .val (.i ((k + 1 : Nat) : Int))), (3, .own (.lst ((upL k).map CV.i ++ [CV.i (k : Int)])) 300013), (300013, .tok 3 1)]) ⟨rfl, rfl, rfl, rfl, trivial⟩).trans ((wk_ren 300013 200013 rfl rfl rfl rfl).trans (wk_sub ⟨rfl, rfl, rfl, rfl, trivial⟩))
  · have hkl : k = c.length := by
      have : ¬ k < c.length := by simpa using hlt
      omega
    subst hkl
    refine aE ?_
    show AWp _ _ _ _ _ _ _
    refine aS (aR ?_)
    (refine nx (aM (gN rfl) rfl rfl rfl rfl rfl) rfl ?_)
    (refine nx (aA (gN rfl) rfl rfl rfl rfl rfl) rfl ?_)
    show AWp _ _ _ _ _ _ _
    exact aT (And.intro (.inr rfl) rfl)
structure Mt where
  fr : Wy
  ti : Wy
  pl : List Int
  pt : Tm
noncomputable def Mt.cvH (m : Mt) (v : Value) : CV := .row [m.fr.cv, m.ti.cv, .sc (cutV v m.pl.length), .row [.i m.pt.f, .lst (m.pt.l.map Tm.cv)]]
noncomputable def mtI (f i : Wy) : List Mt := (sy i.a []).map fun q => ⟨f, i, q.1, q.2⟩
noncomputable def mtF (tgt : List Wy) (f : Wy) : List Mt := tgt.flatMap (mtI f)
noncomputable def mtN (neg : Int → Bool) (tgt : List Wy) (f : Wy) : List Mt := if neg f.n = true then [] else mtF tgt f
noncomputable def mtsL (neg : Int → Bool) (src tgt : List Wy) : List Mt := src.flatMap (mtN neg tgt)
theorem flat_take {α β : Type} {g : α → List β} {L : List α} {k : Nat} {x : α} (h : L[k]? = some x) : (L.take (k + 1)).flatMap g = (L.take k).flatMap g ++ g x := by
  rw [List.take_add_one, h, List.flatMap_append]
  simp
theorem flatM_at {α β : Type} {g : α → List β} {L : List α} {k : Nat} {x : α} (h : L[k]? = some x) {i : Nat} {y : β} (hy : (g x)[i]? = some y) : (L.flatMap g)[((L.take k).flatMap g).length + i]? = some y := by
  have h1 : L.flatMap g = (L.take (k + 1)).flatMap g ++ (L.drop (k + 1)).flatMap g := by
    conv => lhs; rw [← List.take_append_drop (k + 1) L]
    rw [List.flatMap_append]
  have hi : i < (g x).length := by
    rcases Nat.lt_or_ge i (g x).length with h2 | h2
    · exact h2
    · rw [List.getElem?_eq_none h2] at hy; cases hy
  rw [h1, flat_take h, List.append_assoc, List.getElem?_append_right (by omega), Nat.add_sub_cancel_left, List.getElem?_append_left hi, hy]
def negAt (c : List Lt) (n : Int) : Bool := match c[n.toNat]? with
  | some l => l.neg
  | none => false
noncomputable abbrev wyZ : CV := .row [.i 0, .row [.i 0, .lst []], .row [.i 0, .lst []]]
noncomputable abbrev mtZ4 : List CV := [wyZ, wyZ, .lst [], .row [.i 0, .lst []]]
-- 
theorem suMeet_abs (W : World) (fl fd : Nat) (c d : List Lt) (L M : List Int) (hlc : ∀ w, AFun Tryz.prog w fl [.lst (c.map Lt.cv)] (.val (.lst (L.map CV.i)))) (hld : ∀ w, AFun Tryz.prog w fl [.lst (d.map Lt.cv)] (.val (.lst (M.map CV.i)))) : AFun Tryz.prog W 64 [ruC fl fd, .lst (c.map Lt.cv), .lst (d.map Lt.cv)] (.val (.fn 90 0 [.ptr (.fn 118 0 [.ptr (.lst (L.map CV.i)), .ptr (.lst (c.map Lt.cv)), .ptr (ruC fl fd)]), .ptr (.lst (c.map Lt.cv)), .ptr (.fn 118 0 [.ptr (.lst (M.map CV.i)), .ptr (.lst (d.map Lt.cv)), .ptr (ruC fl fd)])])) := by
  obtain ⟨S, hS⟩ : ∃ S, S = CV.fn 118 0 [.ptr (.lst (L.map CV.i)), .ptr (.lst (c.map Lt.cv)), .ptr (ruC fl fd)] := ⟨_, rfl⟩
  obtain ⟨T, hT⟩ : ∃ T, T = CV.fn 118 0 [.ptr (.lst (M.map CV.i)), .ptr (.lst (d.map Lt.cv)), .ptr (ruC fl fd)] := ⟨_, rfl⟩
  refine afun_of (rs := [.fn 90 0 [.ptr (.fn 118 0 [.ptr (.lst (L.map CV.i)), .ptr (.lst (c.map Lt.cv)), .ptr (ruC fl fd)]), .ptr (.lst (c.map Lt.cv)), .ptr (.fn 118 0 [.ptr (.lst (M.map CV.i)), .ptr (.lst (d.map Lt.cv)), .ptr (ruC fl fd)])]]) Tryz.func64 Tryz.ntmps64 rfl rfl rfl rfl ?_
  intro w U hW
  have h1 := suWays_abs w fl fd c L hlc
  have h2 := suWays_abs w fl fd d M hld
  refine aS (aR ?_)
  (refine nx (a_box (gN rfl) rfl rfl rfl rfl rfl) rfl ?_)
  (refine nx (a_box (gN rfl) rfl rfl rfl rfl rfl) rfl ?_)
  (refine nx (aA (gN rfl) rfl rfl rfl rfl rfl) rfl ?_)
  show AWp _ _ _ _ _ _ _
  refine aS (aD (by kernel_rfl) (by kernel_rfl) ?_)
  (refine nx (aL (gN rfl) rfl rfl rfl rfl rfl rfl rfl rfl rfl rfl rfl rfl) rfl ?_)
  (refine nx (aL (gN rfl) rfl rfl rfl rfl rfl rfl rfl rfl rfl rfl rfl rfl) rfl ?_)
  (refine nx (a_call (gN rfl) rfl rfl rfl rfl rfl (h1)) rfl ?_)
  (refine nx (aL (gN rfl) rfl rfl rfl rfl rfl rfl rfl rfl rfl rfl rfl rfl) rfl ?_)
  (refine nx (aM (gN rfl) rfl rfl rfl rfl rfl) rfl ?_)
  (refine nx (a_call (gN rfl) rfl rfl rfl rfl rfl (h2)) rfl ?_)
  (refine nx (a_alloc1V (gN rfl) rfl rfl rfl rfl rfl (by first | exact .inl ⟨rfl, rfl⟩ | exact .inr ⟨rfl, rfl⟩)) rfl ?_)
  (refine nx (a_alloc1V (gN rfl) rfl rfl rfl rfl rfl (by first | exact .inl ⟨rfl, rfl⟩ | exact .inr ⟨rfl, rfl⟩)) rfl ?_)
  (refine nx (aSt (gN rfl) rfl rfl rfl rfl rfl rfl rfl rfl rfl rfl) rfl ?_)
  (refine nx (aSt (gN rfl) rfl rfl rfl rfl rfl rfl rfl rfl rfl rfl) rfl ?_)
  refine ⟨by kernel_rfl, ?_⟩
  show AWp _ _ _ _ _ _ _
  refine AWp.wk ((wk_freeze 7 rfl rfl rfl (s' := [(4, AV.bp 4 0 []), (100004, .bx (.lst (c.map Lt.cv))), (8, AV.bp 8 0 []), (100008, .bx (.fn 118 0 [.ptr (.lst (M.map CV.i)), .ptr (.lst (d.map Lt.cv)), .ptr (ruC fl fd)]))]) ⟨rfl, rfl, rfl, rfl, trivial⟩ rfl rfl rfl).trans ((wk_freeze 8 rfl rfl rfl (s' := [(7, AV.val (.ptr (.fn 118 0 [.ptr (.lst (L.map CV.i)), .ptr (.lst (c.map Lt.cv)), .ptr (ruC fl fd)]))), (4, AV.bp 4 0 []), (100004, .bx (.lst (c.map Lt.cv)))]) ⟨rfl, rfl, rfl, trivial⟩ rfl rfl rfl).trans (wk_freeze 4 rfl rfl rfl (s' := [(7, AV.val (.ptr (.fn 118 0 [.ptr (.lst (L.map CV.i)), .ptr (.lst (c.map Lt.cv)), .ptr (ruC fl fd)]))), (8, AV.val (.ptr (.fn 118 0 [.ptr (.lst (M.map CV.i)), .ptr (.lst (d.map Lt.cv)), .ptr (ruC fl fd)])))]) ⟨rfl, rfl, trivial⟩ rfl rfl rfl))) ?_
  refine aS (aR ?_)
  (refine nx (a_mkfunc (gN rfl) rfl rfl rfl rfl rfl rfl) rfl ?_)
  (refine nx (aA (gN rfl) rfl rfl rfl rfl rfl) rfl ?_)
  show AWp _ _ _ _ _ _ _
  exact aT ⟨.inr rfl, rfl⟩
-- 
set_option maxHeartbeats 8000000 in
theorem suMeet_hands (c : List Lt) (gs gt : Nat) (cs ct : List CV) (src tgt : List Wy) (hes : EntF Tryz.prog gs) (het : EntF Tryz.prog gt) (hsrc : ∀ w ∈ src, 0 ≤ w.n ∧ w.n < c.length) (htgt : ∀ w ∈ tgt, w.a.size ≤ 1000000)
    (hs : ∀ Ls : Nat → List (List Lt), HandsY Tryz.prog gs cs [0] (fun _ _ => []) (fun _ x _ => [.val x.cv]) src (fun k => obE (Ls k)))
    (ht : ∀ Ls : Nat → List (List Lt), HandsY Tryz.prog gt ct [0] (fun _ _ => []) (fun _ x _ => [.val x.cv]) tgt (fun k => obE (Ls k)))
    (Ls : Nat → List (List Lt)) : HandsY Tryz.prog 90 [.ptr (.fn gs 0 cs), .ptr (.lst (c.map Lt.cv)), .ptr (.fn gt 0 ct)] [400002, 400003] (fun X x => rowI X x.pl) (fun X x v => [.val (x.cvH v)]) (mtsL (negAt c) src tgt) (fun k => obE (Ls k)) := by
  intro Wb Ub l0 hY
  have hsy : EntF Tryz.prog 119 := ent_of Tryz.func119 rfl rfl
  have hsc := Lt.size_all c
  refine afunYM_of Tryz.func90 Tryz.ntmps90 rfl rfl rfl rfl (by kernel_rfl) (by kernel_rfl) ?_
  intro w U hon hU
  show AWpM _ _ _ _ _ _ ((0, AV.val (yldV l0)) :: (1, .val (.ptr (.fn gs 0 cs))) :: (2, .val (.ptr (.lst (c.map Lt.cv)))) :: (3, .val (.ptr (.fn gt 0 ct))) :: obE (Ls 0))
  refine awpM_pre (aR ?_)
  (refine nx (a_box (gN rfl) rfl rfl rfl rfl rfl) (by kernel_rfl) ?_)
  refine ⟨rfl, ?_⟩
  refine awpM_wk (wk_freeze 4 rfl rfl rfl (s' := (1, AV.val (.ptr (.fn gs 0 cs))) :: (2, .val (.ptr (.lst (c.map Lt.cv)))) :: (3, .val (.ptr (.fn gt 0 ct))) :: obE (Ls 0)) ⟨rfl, rfl, rfl, rfl, rfl, rfl, trivial⟩ rfl rfl (by kernel_rfl)) ?_
  refine awpM_pre (aR ?_)
  (refine nx (a_load_ptr (gN rfl) rfl rfl rfl rfl rfl rfl rfl rfl rfl) rfl ?_)
  refine ⟨rfl, ?_⟩
  refine awpM_block ?_
  refine awpM_wk (wk_sub (s' := (9, AV.val (.fn gs 0 cs)) :: (2, .val (.ptr (.lst (c.map Lt.cv)))) :: (3, .val (.ptr (.fn gt 0 ct))) :: (4, .val (.ptr (yldV l0))) :: obE (Ls 0)) ⟨rfl, rfl, rfl, rfl, rfl, rfl, rfl, trivial⟩) ?_
  refine awpM_mono (awpM_rangeY (ps := [10]) (fun k => obE (Ls (mtsL (negAt c) (src.take k) tgt).length)) [(2, .val (.ptr (.lst (c.map Lt.cv)))), (3, .val (.ptr (.fn gt 0 ct))), (4, .val (.ptr (yldV l0)))] (fun _ _ => []) rfl hes (hs fun k => Ls (mtsL (negAt c) (src.take k) tgt).length) rfl (fun _ _ _ => rfl) ⟨rfl, rfl, rfl, trivial⟩ rfl ⟨.inl ⟨_, rfl⟩, .inl ⟨_, rfl⟩, .inl ⟨_, rfl⟩, trivial⟩ ⟨rfl, rfl, rfl, trivial⟩ ⟨by kernel_rfl, by kernel_rfl, fun k => rfl, rfl, rfl, rfl⟩ (fun k X hX x => rfl) (fun X hX => .inl fun _ => rfl) (by kernel_rfl) ?_) ?_
  · intro k f hf X hX v w U hU hon1
    obtain ⟨n, hn⟩ : ∃ n : Nat, f.n = (n : Int) := ⟨f.n.toNat, by have := (hsrc f (List.mem_of_getElem? hf)).1; omega⟩
    have hnc : n < c.length := by have := (hsrc f (List.mem_of_getElem? hf)).2; omega
    obtain ⟨l, hl⟩ : ∃ l, c[n]? = some l := ⟨c[n], List.getElem?_eq_getElem hnc⟩
    have hl' := Lt.map_at hl
    have hng : negAt c f.n = l.neg := by unfold negAt; rw [hn, Int.toNat_natCast, hl]
    have hcvf : f.cv = .row [.i n, f.a.cw, f.b.cw] := by unfold Wy.cv; rw [hn]
    obtain ⟨o1, ho1⟩ : ∃ o1, o1 = (mtsL (negAt c) (src.take k) tgt).length := ⟨_, rfl⟩
    have hstep : (mtsL (negAt c) (src.take (k + 1)) tgt).length = o1 + (mtN (negAt c) tgt f).length := by
      unfold mtsL at ho1 ⊢
      rw [flat_take hf, List.length_append, ho1]
    have hat1 : ∀ i y, (mtN (negAt c) tgt f)[i]? = some y → (mtsL (negAt c) src tgt)[o1 + i]? = some y := fun i y hy => by rw [ho1]; exact flatM_at hf hy
    show AWp _ _ _ _ _ _ ((10, AV.val f.cv) :: (2, .val (.ptr (.lst (c.map Lt.cv)))) :: (3, .val (.ptr (.fn gt 0 ct))) :: (4, .val (.ptr (yldV l0))) :: obE (Ls (mtsL (negAt c) (src.take k) tgt).length))
    rw [← ho1, hstep, hcvf]
    refine aR ?_
    (refine nx (a_alloc (gN rfl) rfl rfl rfl rfl rfl rfl rfl rfl rfl rfl) (by kernel_rfl) ?_)
    (refine nx (aSt (gN rfl) rfl rfl rfl rfl rfl rfl rfl rfl rfl rfl) rfl ?_)
    refine ⟨rfl, fun w1 hon2 => ?_⟩
    obtain ⟨b, hb⟩ : ∃ b, b = l.neg := ⟨_, rfl⟩
    have hl2 : (c.map Lt.cv)[n]? = some (.row [.b b, l.a.cw, l.b.cw]) := by rw [hl', hb]
    rw [← hb] at hng
    cases b with
    | true =>
      have e : mtN (negAt c) tgt f = [] := by unfold mtN; rw [if_pos hng]
      rw [e]
      refine awpN_of (aB (aS (aS (aR ?_))))
      (refine nx (a_load_ptr (gN rfl) rfl rfl rfl rfl rfl rfl rfl rfl rfl) rfl ?_)
      (refine nx (aF (gN rfl) rfl rfl rfl rfl rfl rfl rfl rfl rfl) rfl ?_)
      (refine nx (aLb (gN rfl) rfl rfl rfl rfl rfl rfl rfl rfl rfl rfl rfl rfl) rfl ?_)
      (refine nx (a_index (j := n) (gN rfl) rfl rfl rfl rfl rfl rfl rfl rfl rfl (hl2) rfl (hsc)) rfl ?_)
      (refine nx (a_field_ad (gN rfl) rfl rfl rfl rfl rfl rfl rfl rfl rfl rfl rfl) rfl ?_)
      (refine nx (a_load_ad (gN rfl) rfl rfl rfl rfl rfl rfl rfl rfl rfl) rfl ?_)
      show AWp _ _ _ _ _ _ _
      refine aC rfl (fun _ => ?_) (fun h => by cases h)
      refine aE ?_
      exact ⟨rfl, wk_sub ⟨rfl, rfl, rfl, trivial⟩⟩
    | false =>
      have e : mtN (negAt c) tgt f = mtF tgt f := by unfold mtN; rw [if_neg (by rw [hng]; simp)]
      rw [e] at hat1 ⊢
      refine awpN_block (awpN_pre (aS (aR ?_)))
      (refine nx (a_load_ptr (gN rfl) rfl rfl rfl rfl rfl rfl rfl rfl rfl) rfl ?_)
      (refine nx (aF (gN rfl) rfl rfl rfl rfl rfl rfl rfl rfl rfl) rfl ?_)
      (refine nx (aLb (gN rfl) rfl rfl rfl rfl rfl rfl rfl rfl rfl rfl rfl rfl) rfl ?_)
      (refine nx (a_index (j := n) (gN rfl) rfl rfl rfl rfl rfl rfl rfl rfl rfl (hl2) rfl (hsc)) rfl ?_)
      (refine nx (a_field_ad (gN rfl) rfl rfl rfl rfl rfl rfl rfl rfl rfl rfl rfl) rfl ?_)
      (refine nx (a_load_ad (gN rfl) rfl rfl rfl rfl rfl rfl rfl rfl rfl) rfl ?_)
      show AWp _ _ _ _ _ _ _
      refine aC rfl (fun h => by cases h) (fun _ => aK ?_)
      refine ⟨rfl, ?_⟩
      refine awpN_wk (wk_freeze 5 rfl rfl rfl (s' := (3, AV.val (.ptr (.fn gt 0 ct))) :: (4, .val (.ptr (yldV l0))) :: obE (Ls o1)) ⟨rfl, rfl, rfl, rfl, rfl, trivial⟩ rfl rfl (by kernel_rfl)) ?_
      refine awpN_pre (aR ?_)
      (refine nx (a_load_ptr (gN rfl) rfl rfl rfl rfl rfl rfl rfl rfl rfl) rfl ?_)
      refine ⟨rfl, ?_⟩
      refine awpN_block ?_
      refine awpN_wk (wk_sub (s' := (17, AV.val (.fn gt 0 ct)) :: (4, .val (.ptr (yldV l0))) :: (5, .val (.ptr (.row [.i n, f.a.cw, f.b.cw]))) :: obE (Ls o1)) ⟨rfl, rfl, rfl, rfl, rfl, rfl, trivial⟩) ?_
      refine awpN_mono (awpN_rangeY (ps := [18]) (fun j => obE (Ls (o1 + ((tgt.take j).flatMap (mtI f)).length))) [(4, .val (.ptr (yldV l0))), (5, .val (.ptr (.row [.i n, f.a.cw, f.b.cw])))] (fun _ _ => []) rfl het (ht fun j => Ls (o1 + ((tgt.take j).flatMap (mtI f)).length)) rfl (fun _ _ _ => rfl) ⟨rfl, rfl, trivial⟩ rfl ⟨.inl ⟨_, rfl⟩, .inl ⟨_, rfl⟩, trivial⟩ ⟨rfl, rfl, rfl, trivial⟩ ⟨by kernel_rfl, by kernel_rfl, fun k => rfl, rfl, rfl, rfl⟩ (fun k X hX x => rfl) (fun X hX => .inl fun _ => rfl) (by kernel_rfl) ?_) ?_
      · intro j i hi X hX v w U hU hon3
        have his := htgt i (List.mem_of_getElem? hi)
        obtain ⟨o2, ho2⟩ : ∃ o2, o2 = o1 + ((tgt.take j).flatMap (mtI f)).length := ⟨_, rfl⟩
        have hstep2 : o1 + ((tgt.take (j + 1)).flatMap (mtI f)).length = o2 + (sy i.a []).length := by
          rw [flat_take hi, List.length_append, ho2]
          unfold mtI
          rw [List.length_map]; omega
        have hat2 : ∀ q y, (sy i.a [])[q]? = some y → (mtsL (negAt c) src tgt)[o2 + q]? = some ⟨f, i, y.1, y.2⟩ := fun q y hy => by
          have := hat1 (((tgt.take j).flatMap (mtI f)).length + q) ⟨f, i, y.1, y.2⟩ (flatM_at hi (by unfold mtI; rw [List.getElem?_map, hy]; rfl))
          rw [ho2, Nat.add_assoc]
          exact this
        show AWp _ _ _ _ _ _ ((18, AV.val (.row [.i i.n, i.a.cw, i.b.cw])) :: (4, .val (.ptr (yldV l0))) :: (5, .val (.ptr (.row [.i n, f.a.cw, f.b.cw]))) :: obE (Ls (o1 + ((tgt.take j).flatMap (mtI f)).length)))
        rw [← ho2, hstep2]
        refine aR ?_
        (refine nx (a_alloc (gN rfl) rfl rfl rfl rfl rfl rfl rfl rfl rfl rfl) (by kernel_rfl) ?_)
        (refine nx (aSt (gN rfl) rfl rfl rfl rfl rfl rfl rfl rfl rfl rfl) rfl ?_)
        refine ⟨rfl, fun w2 hon4 => ?_⟩
        refine awpN_block (awpN_pre (aR ?_))
        (refine nx (aF (gN rfl) rfl rfl rfl rfl rfl rfl rfl rfl rfl) rfl ?_)
        (refine nx (aLb (gN rfl) rfl rfl rfl rfl rfl rfl rfl rfl rfl rfl rfl rfl) rfl ?_)
        (refine nx (a_call (gN rfl) rfl rfl rfl rfl rfl (suSymbols_abs w2 i.a)) rfl ?_)
        refine ⟨rfl, ?_⟩
        refine awpN_wk (wk_freeze 6 rfl rfl rfl (s' := (21, AV.val (.fn 119 0 [.ptr i.a.cw])) :: (4, .val (.ptr (yldV l0))) :: (5, .val (.ptr (.row [.i n, f.a.cw, f.b.cw]))) :: obE (Ls o2)) ⟨rfl, rfl, rfl, rfl, rfl, rfl, trivial⟩ rfl rfl (by kernel_rfl)) ?_
        refine awpN_block ?_
        refine awpN_mono (awpN_rangeY (ps := [22, 23]) (fun q => obE (Ls (o2 + q))) [(4, .val (.ptr (yldV l0))), (5, .val (.ptr (.row [.i n, f.a.cw, f.b.cw]))), (6, .val (.ptr (.row [.i i.n, i.a.cw, i.b.cw])))] (fun X v => [(11, .hdl v X)]) rfl hsy (suSym_hands i.a his fun q => Ls (o2 + q)) rfl (fun _ _ _ => rfl) ⟨rfl, rfl, rfl, trivial⟩ rfl ⟨.inl ⟨_, rfl⟩, .inl ⟨_, rfl⟩, .inl ⟨_, rfl⟩, trivial⟩ ⟨rfl, rfl, rfl, trivial⟩ ⟨by kernel_rfl, by kernel_rfl, fun k => rfl, rfl, rfl, rfl⟩ (fun k X hX x => by
            simp only [List.mem_cons, List.not_mem_nil, or_false] at hX
            rcases hX with rfl | rfl <;> rfl) (fun X hX => .inr ⟨11, fun _ => rfl, by decide, by decide, by
            simp only [List.mem_cons, List.not_mem_nil, or_false] at hX
            unfold RN; omega⟩) (by kernel_rfl) ?_) ?_
        · intro q y hy X hX v w U hU hon5
          have hY0 : YldC Tryz.prog Wb Ub l0 X (obE (Ls (o2 + q)) ++ rowI X y.1) (fun v => [.val (.row [.row [.i (n : Int), f.a.cw, f.b.cw], .row [.i i.n, i.a.cw, i.b.cw], .sc (cutV v y.1.length), y.2.cw])]) (obE (Ls (o2 + q + 1)) ++ rowI X y.1) := by
            rw [← hn]
            exact hY (o2 + q) ⟨f, i, y.1, y.2⟩ (hat2 q y hy) X hX
          simp only [List.mem_cons, List.not_mem_nil, or_false] at hX
          rcases hX with rfl | rfl
          · refine aS (aR ?_)
            (refine nx (aA (gN rfl) rfl rfl rfl rfl rfl) rfl ?_)
            show AWp _ _ _ _ _ _ _
            refine aR ?_
            (refine nx (a_alloc (gN rfl) rfl rfl rfl rfl rfl rfl rfl rfl rfl rfl) (by kernel_rfl) ?_)
            (refine nx (aSt (gN rfl) rfl rfl rfl rfl rfl rfl rfl rfl rfl rfl) rfl ?_)
            refine ⟨rfl, fun w3 hon6 => awpN_of ?_⟩
            have hon := (hon.trans hon2).trans (hon4.trans hon6)
            refine AWp.wk ((wk_sub (s' := (7, AV.sl 400002 0 y.1.length 1) :: (11, .hdl v 400002) :: (8, .bp 8 0 []) :: (100008, .bx y.2.cw) :: (4, .val (.ptr (yldV l0))) :: (5, .val (.ptr (.row [.i n, f.a.cw, f.b.cw]))) :: (6, .val (.ptr (.row [.i i.n, i.a.cw, i.b.cw]))) :: obX (Ls (o2 + q)) 400002 y.1) ⟨rfl, rfl, rfl, rfl, rfl, rfl, rfl, rfl, rfl, rfl, rfl, trivial⟩).trans (wk_slsc 7 400002 11 rfl rfl rfl)) ?_
            refine aB (aS (awp_regionY ?_))
            (refine nxY (AOp.y (a_load_ptr (gN rfl) rfl rfl rfl rfl rfl rfl rfl rfl rfl)) rfl ?_)
            (refine nxY (AOp.y (a_load_ptr (gN rfl) rfl rfl rfl rfl rfl rfl rfl rfl rfl)) rfl ?_)
            (refine nxY (AOp.y (a_load_ptr (gN rfl) rfl rfl rfl rfl rfl rfl rfl rfl rfl)) rfl ?_)
            (refine nxY (AOp.y (aM (gN rfl) rfl rfl rfl rfl rfl)) rfl ?_)
            (refine nxY (AOp.y (aL (gN rfl) rfl rfl rfl rfl rfl rfl rfl rfl rfl rfl rfl rfl)) rfl ?_)
            (refine nxY (AOp.y (a_buildT mtZ4 (gN rfl) rfl rfl rfl rfl rfl rfl rfl rfl rfl rfl rfl)) rfl ?_)
            (refine nxY (a_yield 11 (hY0) hon (gN rfl) rfl rfl rfl rfl rfl rfl (.inl ⟨rfl, rfl⟩) (by repeat (first | exact trivial | refine ⟨rfl, ?_⟩)) (by first | rfl | kernel_rfl) (by first | rfl | kernel_rfl) (by first | rfl | kernel_rfl) (hnb_of (by first | rfl | kernel_rfl)) rfl) rfl ?_)
            (refine nxY (AOp.y (a_not (gN rfl) rfl rfl rfl rfl rfl)) rfl ?_)
            show AWp _ _ _ _ _ _ _
            refine aC rfl (fun hc => by cases hc) (fun hc => aK ?_)
            exact ⟨rfl, wk_sub ⟨rfl, rfl, rfl, rfl, trivial⟩⟩
          · refine aS (aR ?_)
            (refine nx (aA (gN rfl) rfl rfl rfl rfl rfl) rfl ?_)
            show AWp _ _ _ _ _ _ _
            refine aR ?_
            (refine nx (a_alloc (gN rfl) rfl rfl rfl rfl rfl rfl rfl rfl rfl rfl) (by kernel_rfl) ?_)
            (refine nx (aSt (gN rfl) rfl rfl rfl rfl rfl rfl rfl rfl rfl rfl) rfl ?_)
            refine ⟨rfl, fun w3 hon6 => awpN_of ?_⟩
            have hon := (hon.trans hon2).trans (hon4.trans hon6)
            refine AWp.wk ((wk_sub (s' := (7, AV.sl 400003 0 y.1.length 1) :: (11, .hdl v 400003) :: (8, .bp 8 0 []) :: (100008, .bx y.2.cw) :: (4, .val (.ptr (yldV l0))) :: (5, .val (.ptr (.row [.i n, f.a.cw, f.b.cw]))) :: (6, .val (.ptr (.row [.i i.n, i.a.cw, i.b.cw]))) :: obX (Ls (o2 + q)) 400003 y.1) ⟨rfl, rfl, rfl, rfl, rfl, rfl, rfl, rfl, rfl, rfl, rfl, trivial⟩).trans (wk_slsc 7 400003 11 rfl rfl rfl)) ?_
            refine aB (aS (awp_regionY ?_))
            (refine nxY (AOp.y (a_load_ptr (gN rfl) rfl rfl rfl rfl rfl rfl rfl rfl rfl)) rfl ?_)
            (refine nxY (AOp.y (a_load_ptr (gN rfl) rfl rfl rfl rfl rfl rfl rfl rfl rfl)) rfl ?_)
            (refine nxY (AOp.y (a_load_ptr (gN rfl) rfl rfl rfl rfl rfl rfl rfl rfl rfl)) rfl ?_)
            (refine nxY (AOp.y (aM (gN rfl) rfl rfl rfl rfl rfl)) rfl ?_)
            (refine nxY (AOp.y (aL (gN rfl) rfl rfl rfl rfl rfl rfl rfl rfl rfl rfl rfl rfl)) rfl ?_)
            (refine nxY (AOp.y (a_buildT mtZ4 (gN rfl) rfl rfl rfl rfl rfl rfl rfl rfl rfl rfl rfl)) rfl ?_)
            (refine nxY (a_yield 11 (hY0) hon (gN rfl) rfl rfl rfl rfl rfl rfl (.inl ⟨rfl, rfl⟩) (by repeat (first | exact trivial | refine ⟨rfl, ?_⟩)) (by first | rfl | kernel_rfl) (by first | rfl | kernel_rfl) (by first | rfl | kernel_rfl) (hnb_of (by first | rfl | kernel_rfl)) rfl) rfl ?_)
            (refine nxY (AOp.y (a_not (gN rfl) rfl rfl rfl rfl rfl)) rfl ?_)
            show AWp _ _ _ _ _ _ _
            refine aC rfl (fun hc => by cases hc) (fun hc => aK ?_)
            exact ⟨rfl, wk_sub ⟨rfl, rfl, rfl, rfl, trivial⟩⟩
        · rintro e s' ⟨rfl, m, rfl⟩
          refine ⟨rfl, rfl, rfl, ?_⟩
          exact wk_sub ⟨rfl, rfl, rfl, trivial⟩
      · rintro e s' ⟨rfl, m, rfl⟩
        refine ⟨rfl, rfl, rfl, ?_⟩
        rw [List.take_length]
        exact wk_sub ⟨rfl, rfl, rfl, trivial⟩
  · rintro e s' g ⟨rfl, rfl⟩
    refine ⟨rfl, .inl rfl, obE (Ls (mtsL (negAt c) src tgt).length), ?_, rfl, ⟨rfl, rfl, rfl, trivial⟩, rfl⟩
    rw [List.take_length]
    exact wk_sub ⟨rfl, rfl, rfl, rfl, trivial⟩
-- 
set_option maxHeartbeats 2000000 in
theorem put400002_abs (F : List Int) (u : Tm) (hu : u.rng) (hus : u.size ≤ 90000000000) : ∀ (p : List Int) (lo : Nat) (t : Tm), F.drop lo = p → lo + p.length = F.length → F.length ≤ 1000000 → t.rng → t.size ≤ 100000 → AFunO Tryz.prog 94 [(400002, AV.mrow 3 1 (F.map CV.i))] [.val t.cw, .sl 400002 lo p.length 1, .val u.cw] (.tup [((putP u p t).getD ⟨0, []⟩).cw, .b (putP u p t).isSome]) [(400002, AV.mrow 3 1 (F.map CV.i))] := by
  intro p
  induction p with
  | nil =>
    intro lo t hF hFl _ _ _
    refine afunO_of Tryz.func94 Tryz.ntmps94 rfl rfl rfl rfl rfl rfl ?_
    intro w U hU
    refine aS (aR ?_)
    (refine nx (a_box (gN rfl) rfl rfl rfl rfl rfl) rfl ?_)
    (refine nx (a_box (gN rfl) rfl rfl rfl rfl rfl) rfl ?_)
    (refine nx (a_alloc (gN rfl) rfl rfl rfl rfl rfl rfl rfl rfl rfl rfl) rfl ?_)
    (refine nx (aA (gN rfl) rfl rfl rfl rfl rfl) rfl ?_)
    show AWp _ _ _ _ _ _ _
    refine aS (aS (aR ?_))
    (refine nx (aM (gN rfl) rfl rfl rfl rfl rfl) rfl ?_)
    (refine nx (a_lenM (gN rfl) rfl rfl rfl rfl rfl rfl rfl) rfl ?_)
    (refine nx (a_eql (gN rfl) rfl rfl rfl rfl rfl rfl) rfl ?_)
    show AWp _ _ _ _ _ _ _
    refine aC rfl (fun hc => ?_) (fun hc => by cases hc)
    refine aS (aR ?_)
    (refine nx (aL (gN rfl) rfl rfl rfl rfl rfl rfl rfl rfl rfl rfl rfl rfl) rfl ?_)
    (refine nx (a_call (gN rfl) rfl rfl rfl rfl rfl (clone_abs w hu hus)) rfl ?_)
    (refine nx (aSt (gN rfl) rfl rfl rfl rfl rfl rfl rfl rfl rfl rfl) rfl ?_)
    (refine nx (aA (gN rfl) rfl rfl rfl rfl rfl) rfl ?_)
    show AWp _ _ _ _ _ _ _
    exact aT ⟨.inr rfl, _, Wk.refl _, rfl, rfl, trivial⟩
  | cons n p ih =>
    intro lo t hF hFl hp hr hts
    rw [List.length_cons] at hFl
    have hx0 : (F.map CV.i)[lo]? = some (.i n) := by
      rw [List.getElem?_map]
      have : F[lo]? = (F.drop lo)[0]? := by rw [List.getElem?_drop, Nat.add_zero]
      rw [this, hF]; rfl
    have hFm : (F.map CV.i).length = F.length := List.length_map ..
    have hF1 : F.drop (lo + 1) = p := by rw [show lo + 1 = 1 + lo by omega, Nat.add_comm, ← List.drop_drop, hF]; rfl
    have hsp := ints_size (n :: p)
    refine afunO_of Tryz.func94 Tryz.ntmps94 rfl rfl rfl rfl rfl rfl ?_
    intro w U hU
    refine aS (aR ?_)
    (refine nx (a_box (gN rfl) rfl rfl rfl rfl rfl) rfl ?_)
    (refine nx (a_box (gN rfl) rfl rfl rfl rfl rfl) rfl ?_)
    (refine nx (a_alloc (gN rfl) rfl rfl rfl rfl rfl rfl rfl rfl rfl rfl) rfl ?_)
    (refine nx (aA (gN rfl) rfl rfl rfl rfl rfl) rfl ?_)
    show AWp _ _ _ _ _ _ _
    refine aS (aS (aR ?_))
    (refine nx (aM (gN rfl) rfl rfl rfl rfl rfl) rfl ?_)
    (refine nx (a_lenM (gN rfl) rfl rfl rfl rfl rfl rfl rfl) rfl ?_)
    (refine nx (a_eql (gN rfl) rfl rfl rfl rfl rfl rfl) rfl ?_)
    show AWp _ _ _ _ _ _ _
    refine aC rfl (fun hc => ?_) (fun hc => aK ?_)
    · simp at hc
      omega
    clear hc
    show AWp _ _ _ _ _ _ _
    refine aS (aR ?_)
    (refine nx (aM (gN rfl) rfl rfl rfl rfl rfl) rfl ?_)
    (refine nx (aIm (k := lo) (gN rfl) rfl rfl rfl rfl rfl rfl rfl rfl rfl (by first | rfl | omega | (simp only [List.length_set, List.length_map, List.length_append, List.length_cons, List.length_nil] <;> omega) | (simp <;> omega))) rfl ?_)
    (refine nx (a_loadM (gN rfl) rfl rfl rfl rfl rfl rfl rfl rfl (hx0) rfl (by first | rfl | omega | (simp only [List.length_set, List.length_map, List.length_append, List.length_cons, List.length_nil] <;> omega) | (simp <;> omega)) rfl rfl) rfl ?_)
    (refine nx (aA (gN rfl) rfl rfl rfl rfl rfl) rfl ?_)
    show AWp _ _ _ _ _ _ _
    refine aS (aS (aR ?_))
    (refine nx (aL (gN rfl) rfl rfl rfl rfl rfl rfl rfl rfl rfl rfl rfl rfl) rfl ?_)
    (refine nx (aM (gN rfl) rfl rfl rfl rfl rfl) rfl ?_)
    (refine nx (a_call (gN rfl) rfl rfl rfl rfl rfl (hasPart_abs w t n)) rfl ?_)
    (refine nx (a_not (gN rfl) rfl rfl rfl rfl rfl) rfl ?_)
    show AWp _ _ _ _ _ _ _
    refine aC rfl (fun hc => ?_) (fun hc => aK ?_)
    · have hno : t.pa n = none := by simpa using hc
      have e : putP u (n :: p) t = none := by rw [putP, hno]; rfl
      rw [e]
      refine aS (aR ?_)
      (refine nx (a_build (gN rfl) rfl rfl rfl rfl rfl rfl rfl rfl rfl rfl rfl) rfl ?_)
      (refine nx (aSt (gN rfl) rfl rfl rfl rfl rfl rfl rfl rfl rfl rfl) rfl ?_)
      (refine nx (aA (gN rfl) rfl rfl rfl rfl rfl) rfl ?_)
      show AWp _ _ _ _ _ _ _
      exact aT ⟨.inr rfl, _, Wk.refl _, rfl, rfl, trivial⟩
    obtain ⟨s, hs⟩ : ∃ s, t.pa n = some s := Option.isSome_iff_exists.1 (by simpa using hc)
    clear hc
    have hn0 : 0 ≤ n := by
      unfold Tm.pa at hs
      split at hs
      · assumption
      · cases hs
    have hsym := pa_sym hs
    have hl : t.l[n.toNat]? = some s := by
      have hs := hs
      unfold Tm.pa at hs
      rw [if_pos hn0, Tm.ps_of_sym (by omega)] at hs
      exact hs
    have hl' := Tm.map_at hl
    have hsz := Tm.size_all t.l
    obtain ⟨m, hm⟩ : ∃ m : Nat, n = m := ⟨n.toNat, by omega⟩
    subst hm
    rw [Int.toNat_natCast] at hl hl'
    have hml : m < t.l.length := by
      rcases Nat.lt_or_ge m t.l.length with h | h
      · exact h
      · rw [List.getElem?_eq_none h] at hl; cases hl
    have hml' : m < (t.l.map Tm.cv).length := by rw [List.length_map]; exact hml
    have hrs := ((Tm.rng_iff _).1 hr).2
    have hparts : ∀ x ∈ t.l, x.rng ∧ x.size ≤ 100000 := fun x hx => ⟨hrs x hx, by
      have h1 := Tm.size_eq t
      rw [Tm.ps_of_sym (by omega)] at h1
      have := flatMap_len_mem Tm.flat hx
      have h2 : x.size = x.flat.length := rfl
      omega⟩
    have hlen : t.l.length ≤ 100000 := by
      have h1 := Tm.size_eq t
      rw [Tm.ps_of_sym (by omega)] at h1
      have : ∀ l : List Tm, l.length ≤ (l.flatMap Tm.flat).length := by
        intro l
        induction l with
        | nil => exact Nat.le_refl _
        | cons x l ih =>
          rw [List.flatMap_cons, List.length_append, List.length_cons]
          have : 0 < x.flat.length := by rw [Tm.flat_eq]; simp
          omega
      have := this t.l
      omega
    have hsb := hparts s (List.mem_of_getElem? hl)
    have h1l : 1 ≤ (List.map CV.i ((m : Int) :: p)).length := by simp
    show AWp _ _ _ _ _ _ _
    have hP := ih (lo + 1) s hF1 (by omega) hp hsb.1 hsb.2
    refine aS (aD (by kernel_rfl) (by kernel_rfl) ?_)
    (refine nx (aF (gN rfl) rfl rfl rfl rfl rfl rfl rfl rfl rfl) rfl ?_)
    (refine nx (aLb (gN rfl) rfl rfl rfl rfl rfl rfl rfl rfl rfl rfl rfl rfl) rfl ?_)
    (refine nx (aM (gN rfl) rfl rfl rfl rfl rfl) rfl ?_)
    (refine nx (a_index (gN rfl) rfl rfl rfl rfl rfl rfl rfl rfl rfl (by assumption) rfl (by first | assumption | exact sZ rfl | exact Tm.size_all _ | exact Bd.size_all _ | exact ints_size _ | exact bys_size _ | exact Lt.size_all _)) rfl ?_)
    (refine nx (a_load_ad (gN rfl) rfl rfl rfl rfl rfl rfl rfl rfl rfl) rfl ?_)
    (refine nx (aM (gN rfl) rfl rfl rfl rfl rfl) rfl ?_)
    (refine nx (a_fromM (j := 1) (gN rfl) rfl rfl rfl rfl rfl rfl rfl rfl (by first | rfl | omega | (simp only [List.length_set, List.length_map, List.length_append, List.length_cons, List.length_nil] <;> omega) | (simp <;> omega)) (by first | rfl | omega | (simp only [List.length_set, List.length_map, List.length_append, List.length_cons, List.length_nil] <;> omega) | (simp <;> omega))) rfl ?_)
    (refine nx (aL (gN rfl) rfl rfl rfl rfl rfl rfl rfl rfl rfl rfl rfl rfl) rfl ?_)
    (refine nx (a_callO (gN rfl) rfl rfl rfl rfl rfl (hP) (by repeat (first | exact trivial | refine ⟨rfl, ?_⟩)) (by first | rfl | kernel_rfl) (by first | rfl | kernel_rfl) (by first | rfl | kernel_rfl) (by first | rfl | kernel_rfl) (hnb_of (by first | rfl | kernel_rfl))) rfl ?_)
    (refine nx (aM (gN rfl) rfl rfl rfl rfl rfl) rfl ?_)
    (refine nx (aX (gN rfl) rfl rfl rfl rfl rfl rfl) rfl ?_)
    (refine nx (aX (gN rfl) rfl rfl rfl rfl rfl rfl) rfl ?_)
    (refine nx (a_alloc (gN rfl) rfl rfl rfl rfl rfl rfl rfl rfl rfl rfl) rfl ?_)
    (refine nx (aSt (gN rfl) rfl rfl rfl rfl rfl rfl rfl rfl rfl rfl) rfl ?_)
    (refine nx (aA (gN rfl) rfl rfl rfl rfl rfl) rfl ?_)
    refine ⟨by kernel_rfl, ?_⟩
    show AWp _ _ _ _ _ _ _
    refine aS (aS (aR ?_))
    (refine nx (aM (gN rfl) rfl rfl rfl rfl rfl) rfl ?_)
    (refine nx (a_not (gN rfl) rfl rfl rfl rfl rfl) rfl ?_)
    show AWp _ _ _ _ _ _ _
    refine aC rfl (fun hc => ?_) (fun hc => aK ?_)
    · have hno : putP u p s = none := by simpa using hc
      have e : putP u ((m : Int) :: p) t = none := by rw [putP, hs, Option.bind_some, hno]; rfl
      rw [e]
      refine aS (aR ?_)
      (refine nx (a_build (gN rfl) rfl rfl rfl rfl rfl rfl rfl rfl rfl rfl rfl) rfl ?_)
      (refine nx (aSt (gN rfl) rfl rfl rfl rfl rfl rfl rfl rfl rfl rfl) rfl ?_)
      (refine nx (aA (gN rfl) rfl rfl rfl rfl rfl) rfl ?_)
      show AWp _ _ _ _ _ _ _
      exact aT ⟨.inr rfl, _, Wk.refl _, rfl, rfl, trivial⟩
    obtain ⟨v, hv⟩ : ∃ v, putP u p s = some v := Option.isSome_iff_exists.1 (by simpa using hc)
    clear hc
    have e : putP u ((m : Int) :: p) t = some ⟨t.f, (t.l.take m).map Tm.strip ++ v :: (t.l.drop (m + 1)).map Tm.strip⟩ := by rw [putP, hs, Option.bind_some, hv]; rfl
    rw [e, hv]
    have c1 := cloneAll_abs w (t.l.take m) (by rw [List.length_take]; omega) (fun x hx => ⟨(hparts x (List.mem_of_mem_take hx)).1, by have := (hparts x (List.mem_of_mem_take hx)).2; omega⟩)
    have c2 := cloneAll_abs w (t.l.drop (m + 1)) (by rw [List.length_drop]; omega) (fun x hx => ⟨(hparts x (List.mem_of_mem_drop hx)).1, by have := (hparts x (List.mem_of_mem_drop hx)).2; omega⟩)
    rw [show (t.l.take m).map Tm.cv = (t.l.map Tm.cv).take m from List.map_take] at c1
    rw [show (t.l.drop (m + 1)).map Tm.cv = (t.l.map Tm.cv).drop (m + 1) from List.map_drop] at c2
    obtain ⟨A, hA⟩ : ∃ A, A = (t.l.take m).map Tm.strip := ⟨_, rfl⟩
    obtain ⟨B, hB⟩ : ∃ B, B = (t.l.drop (m + 1)).map Tm.strip := ⟨_, rfl⟩
    have hAl : A.length ≤ 100000 := by rw [hA, List.length_map, List.length_take]; omega
    have hBl : B.length ≤ 100000 := by rw [hB, List.length_map, List.length_drop]; omega
    rw [← hA] at c1 ⊢
    rw [← hB] at c2 ⊢
    have c3 : AFun Tryz.prog w 130 [.lst [.lst (A.map Tm.cv), .lst [v.cw], .lst (B.map Tm.cv)]] (.val (.lst ((A ++ v :: B).map Tm.cv))) := by
      have := concat_abs w [A, [v], B] (by simp) (by simp; omega)
      simpa only [List.map_cons, List.map_nil, Tm.cv_eq, List.flatten_cons, List.flatten_nil, List.append_nil, List.cons_append, List.nil_append, List.singleton_append] using this
    show AWp _ _ _ _ _ _ _
    refine AWp.wk (wk_sub (s' := [(3, .bp 3 0 []), (100003, .bx t.cw), (6, .bp 6 0 []), (100006, ⟨5, .row [.i 0, .lst []], 1, 0, [1]⟩), (8, .val (.i m)), (9, .bp 9 0 []), (100009, .bx v.cw), (400002, AV.mrow 3 1 (F.map CV.i))]) ⟨rfl, rfl, rfl, rfl, rfl, rfl, rfl, rfl, trivial⟩) ?_
    refine aS (aD (by kernel_rfl) (by kernel_rfl) ?_)
    (refine nx (aF (gN rfl) rfl rfl rfl rfl rfl rfl rfl rfl rfl) rfl ?_)
    (refine nx (aLb (gN rfl) rfl rfl rfl rfl rfl rfl rfl rfl rfl rfl rfl rfl) rfl ?_)
    (refine nx (aM (gN rfl) rfl rfl rfl rfl rfl) rfl ?_)
    (refine nx (a_upto (gN rfl) rfl rfl rfl rfl rfl rfl rfl rfl rfl (by omega) (by first | assumption | exact sZ rfl | exact Tm.size_all _ | exact Bd.size_all _ | exact ints_size _ | exact bys_size _ | exact Lt.size_all _)) rfl ?_)
    (refine nx (a_call (gN rfl) rfl rfl rfl rfl rfl (c1)) rfl ?_)
    (refine nx (aL (gN rfl) rfl rfl rfl rfl rfl rfl rfl rfl rfl rfl rfl rfl) rfl ?_)
    (refine nx (a_bslice (gN rfl) rfl rfl rfl rfl rfl rfl rfl rfl rfl rfl rfl rfl rfl) rfl ?_)
    (refine nx (aF (gN rfl) rfl rfl rfl rfl rfl rfl rfl rfl rfl) rfl ?_)
    (refine nx (aLb (gN rfl) rfl rfl rfl rfl rfl rfl rfl rfl rfl rfl rfl rfl) rfl ?_)
    (refine nx (aM (gN rfl) rfl rfl rfl rfl rfl) rfl ?_)
    (refine nx (a_add (gN rfl) rfl rfl rfl rfl rfl rfl (by first | omega | (simp only [List.length_map, List.length_append, List.length_cons, List.length_nil] <;> omega) | (simp <;> omega))) rfl ?_)
    (refine nx (a_from (lo := m + 1) (gN rfl) rfl rfl rfl rfl rfl rfl rfl rfl rfl (by omega) (by first | assumption | exact sZ rfl | exact Tm.size_all _ | exact Bd.size_all _ | exact ints_size _ | exact bys_size _ | exact Lt.size_all _)) rfl ?_)
    (refine nx (a_call (gN rfl) rfl rfl rfl rfl rfl (c2)) rfl ?_)
    (refine nx (a_bslice (gN rfl) rfl rfl rfl rfl rfl rfl rfl rfl rfl rfl rfl rfl rfl) rfl ?_)
    (refine nx (a_call (gN rfl) rfl rfl rfl rfl rfl (c3)) rfl ?_)
    (refine nx (aA (gN rfl) rfl rfl rfl rfl rfl) rfl ?_)
    refine ⟨by kernel_rfl, ?_⟩
    show AWp _ _ _ _ _ _ _
    refine aS (aR ?_)
    (refine nx (aF (gN rfl) rfl rfl rfl rfl rfl rfl rfl rfl rfl) rfl ?_)
    (refine nx (aLb (gN rfl) rfl rfl rfl rfl rfl rfl rfl rfl rfl rfl rfl rfl) rfl ?_)
    (refine nx (aM (gN rfl) rfl rfl rfl rfl rfl) rfl ?_)
    (refine nx (a_build (gN rfl) rfl rfl rfl rfl rfl rfl rfl rfl rfl rfl rfl) rfl ?_)
    (refine nx (aSt (gN rfl) rfl rfl rfl rfl rfl rfl rfl rfl rfl rfl) rfl ?_)
    (refine nx (aA (gN rfl) rfl rfl rfl rfl rfl) rfl ?_)
    show AWp _ _ _ _ _ _ _
    exact aT ⟨.inr rfl, _, Wk.refl _, rfl, rfl, trivial⟩
-- 
set_option maxHeartbeats 2000000 in
theorem put400003_abs (F : List Int) (u : Tm) (hu : u.rng) (hus : u.size ≤ 90000000000) : ∀ (p : List Int) (lo : Nat) (t : Tm), F.drop lo = p → lo + p.length = F.length → F.length ≤ 1000000 → t.rng → t.size ≤ 100000 → AFunO Tryz.prog 94 [(400003, AV.mrow 3 1 (F.map CV.i))] [.val t.cw, .sl 400003 lo p.length 1, .val u.cw] (.tup [((putP u p t).getD ⟨0, []⟩).cw, .b (putP u p t).isSome]) [(400003, AV.mrow 3 1 (F.map CV.i))] := by
  intro p
  induction p with
  | nil =>
    intro lo t hF hFl _ _ _
    refine afunO_of Tryz.func94 Tryz.ntmps94 rfl rfl rfl rfl rfl rfl ?_
    intro w U hU
    refine aS (aR ?_)
    (refine nx (a_box (gN rfl) rfl rfl rfl rfl rfl) rfl ?_)
    (refine nx (a_box (gN rfl) rfl rfl rfl rfl rfl) rfl ?_)
    (refine nx (a_alloc (gN rfl) rfl rfl rfl rfl rfl rfl rfl rfl rfl rfl) rfl ?_)
    (refine nx (aA (gN rfl) rfl rfl rfl rfl rfl) rfl ?_)
    show AWp _ _ _ _ _ _ _
    refine aS (aS (aR ?_))
    (refine nx (aM (gN rfl) rfl rfl rfl rfl rfl) rfl ?_)
    (refine nx (a_lenM (gN rfl) rfl rfl rfl rfl rfl rfl rfl) rfl ?_)
    (refine nx (a_eql (gN rfl) rfl rfl rfl rfl rfl rfl) rfl ?_)
    show AWp _ _ _ _ _ _ _
    refine aC rfl (fun hc => ?_) (fun hc => by cases hc)
    refine aS (aR ?_)
    (refine nx (aL (gN rfl) rfl rfl rfl rfl rfl rfl rfl rfl rfl rfl rfl rfl) rfl ?_)
    (refine nx (a_call (gN rfl) rfl rfl rfl rfl rfl (clone_abs w hu hus)) rfl ?_)
    (refine nx (aSt (gN rfl) rfl rfl rfl rfl rfl rfl rfl rfl rfl rfl) rfl ?_)
    (refine nx (aA (gN rfl) rfl rfl rfl rfl rfl) rfl ?_)
    show AWp _ _ _ _ _ _ _
    exact aT ⟨.inr rfl, _, Wk.refl _, rfl, rfl, trivial⟩
  | cons n p ih =>
    intro lo t hF hFl hp hr hts
    rw [List.length_cons] at hFl
    have hx0 : (F.map CV.i)[lo]? = some (.i n) := by
      rw [List.getElem?_map]
      have : F[lo]? = (F.drop lo)[0]? := by rw [List.getElem?_drop, Nat.add_zero]
      rw [this, hF]; rfl
    have hFm : (F.map CV.i).length = F.length := List.length_map ..
    have hF1 : F.drop (lo + 1) = p := by rw [show lo + 1 = 1 + lo by omega, Nat.add_comm, ← List.drop_drop, hF]; rfl
    have hsp := ints_size (n :: p)
    refine afunO_of Tryz.func94 Tryz.ntmps94 rfl rfl rfl rfl rfl rfl ?_
    intro w U hU
    refine aS (aR ?_)
    (refine nx (a_box (gN rfl) rfl rfl rfl rfl rfl) rfl ?_)
    (refine nx (a_box (gN rfl) rfl rfl rfl rfl rfl) rfl ?_)
    (refine nx (a_alloc (gN rfl) rfl rfl rfl rfl rfl rfl rfl rfl rfl rfl) rfl ?_)
    (refine nx (aA (gN rfl) rfl rfl rfl rfl rfl) rfl ?_)
    show AWp _ _ _ _ _ _ _
    refine aS (aS (aR ?_))
    (refine nx (aM (gN rfl) rfl rfl rfl rfl rfl) rfl ?_)
    (refine nx (a_lenM (gN rfl) rfl rfl rfl rfl rfl rfl rfl) rfl ?_)
    (refine nx (a_eql (gN rfl) rfl rfl rfl rfl rfl rfl) rfl ?_)
    show AWp _ _ _ _ _ _ _
    refine aC rfl (fun hc => ?_) (fun hc => aK ?_)
    · simp at hc
      omega
    clear hc
    show AWp _ _ _ _ _ _ _
    refine aS (aR ?_)
    (refine nx (aM (gN rfl) rfl rfl rfl rfl rfl) rfl ?_)
    (refine nx (aIm (k := lo) (gN rfl) rfl rfl rfl rfl rfl rfl rfl rfl rfl (by first | rfl | omega | (simp only [List.length_set, List.length_map, List.length_append, List.length_cons, List.length_nil] <;> omega) | (simp <;> omega))) rfl ?_)
    (refine nx (a_loadM (gN rfl) rfl rfl rfl rfl rfl rfl rfl rfl (hx0) rfl (by first | rfl | omega | (simp only [List.length_set, List.length_map, List.length_append, List.length_cons, List.length_nil] <;> omega) | (simp <;> omega)) rfl rfl) rfl ?_)
    (refine nx (aA (gN rfl) rfl rfl rfl rfl rfl) rfl ?_)
    show AWp _ _ _ _ _ _ _
    refine aS (aS (aR ?_))
    (refine nx (aL (gN rfl) rfl rfl rfl rfl rfl rfl rfl rfl rfl rfl rfl rfl) rfl ?_)
    (refine nx (aM (gN rfl) rfl rfl rfl rfl rfl) rfl ?_)
    (refine nx (a_call (gN rfl) rfl rfl rfl rfl rfl (hasPart_abs w t n)) rfl ?_)
    (refine nx (a_not (gN rfl) rfl rfl rfl rfl rfl) rfl ?_)
    show AWp _ _ _ _ _ _ _
    refine aC rfl (fun hc => ?_) (fun hc => aK ?_)
    · have hno : t.pa n = none := by simpa using hc
      have e : putP u (n :: p) t = none := by rw [putP, hno]; rfl
      rw [e]
      refine aS (aR ?_)
      (refine nx (a_build (gN rfl) rfl rfl rfl rfl rfl rfl rfl rfl rfl rfl rfl) rfl ?_)
      (refine nx (aSt (gN rfl) rfl rfl rfl rfl rfl rfl rfl rfl rfl rfl) rfl ?_)
      (refine nx (aA (gN rfl) rfl rfl rfl rfl rfl) rfl ?_)
      show AWp _ _ _ _ _ _ _
      exact aT ⟨.inr rfl, _, Wk.refl _, rfl, rfl, trivial⟩
    obtain ⟨s, hs⟩ : ∃ s, t.pa n = some s := Option.isSome_iff_exists.1 (by simpa using hc)
    clear hc
    have hn0 : 0 ≤ n := by
      unfold Tm.pa at hs
      split at hs
      · assumption
      · cases hs
    have hsym := pa_sym hs
    have hl : t.l[n.toNat]? = some s := by
      have hs := hs
      unfold Tm.pa at hs
      rw [if_pos hn0, Tm.ps_of_sym (by omega)] at hs
      exact hs
    have hl' := Tm.map_at hl
    have hsz := Tm.size_all t.l
    obtain ⟨m, hm⟩ : ∃ m : Nat, n = m := ⟨n.toNat, by omega⟩
    subst hm
    rw [Int.toNat_natCast] at hl hl'
    have hml : m < t.l.length := by
      rcases Nat.lt_or_ge m t.l.length with h | h
      · exact h
      · rw [List.getElem?_eq_none h] at hl; cases hl
    have hml' : m < (t.l.map Tm.cv).length := by rw [List.length_map]; exact hml
    have hrs := ((Tm.rng_iff _).1 hr).2
    have hparts : ∀ x ∈ t.l, x.rng ∧ x.size ≤ 100000 := fun x hx => ⟨hrs x hx, by
      have h1 := Tm.size_eq t
      rw [Tm.ps_of_sym (by omega)] at h1
      have := flatMap_len_mem Tm.flat hx
      have h2 : x.size = x.flat.length := rfl
      omega⟩
    have hlen : t.l.length ≤ 100000 := by
      have h1 := Tm.size_eq t
      rw [Tm.ps_of_sym (by omega)] at h1
      have : ∀ l : List Tm, l.length ≤ (l.flatMap Tm.flat).length := by
        intro l
        induction l with
        | nil => exact Nat.le_refl _
        | cons x l ih =>
          rw [List.flatMap_cons, List.length_append, List.length_cons]
          have : 0 < x.flat.length := by rw [Tm.flat_eq]; simp
          omega
      have := this t.l
      omega
    have hsb := hparts s (List.mem_of_getElem? hl)
    have h1l : 1 ≤ (List.map CV.i ((m : Int) :: p)).length := by simp
    show AWp _ _ _ _ _ _ _
    have hP := ih (lo + 1) s hF1 (by omega) hp hsb.1 hsb.2
    refine aS (aD (by kernel_rfl) (by kernel_rfl) ?_)
    (refine nx (aF (gN rfl) rfl rfl rfl rfl rfl rfl rfl rfl rfl) rfl ?_)
    (refine nx (aLb (gN rfl) rfl rfl rfl rfl rfl rfl rfl rfl rfl rfl rfl rfl) rfl ?_)
    (refine nx (aM (gN rfl) rfl rfl rfl rfl rfl) rfl ?_)
    (refine nx (a_index (gN rfl) rfl rfl rfl rfl rfl rfl rfl rfl rfl (by assumption) rfl (by first | assumption | exact sZ rfl | exact Tm.size_all _ | exact Bd.size_all _ | exact ints_size _ | exact bys_size _ | exact Lt.size_all _)) rfl ?_)
    (refine nx (a_load_ad (gN rfl) rfl rfl rfl rfl rfl rfl rfl rfl rfl) rfl ?_)
    (refine nx (aM (gN rfl) rfl rfl rfl rfl rfl) rfl ?_)
    (refine nx (a_fromM (j := 1) (gN rfl) rfl rfl rfl rfl rfl rfl rfl rfl (by first | rfl | omega | (simp only [List.length_set, List.length_map, List.length_append, List.length_cons, List.length_nil] <;> omega) | (simp <;> omega)) (by first | rfl | omega | (simp only [List.length_set, List.length_map, List.length_append, List.length_cons, List.length_nil] <;> omega) | (simp <;> omega))) rfl ?_)
    (refine nx (aL (gN rfl) rfl rfl rfl rfl rfl rfl rfl rfl rfl rfl rfl rfl) rfl ?_)
    (refine nx (a_callO (gN rfl) rfl rfl rfl rfl rfl (hP) (by repeat (first | exact trivial | refine ⟨rfl, ?_⟩)) (by first | rfl | kernel_rfl) (by first | rfl | kernel_rfl) (by first | rfl | kernel_rfl) (by first | rfl | kernel_rfl) (hnb_of (by first | rfl | kernel_rfl))) rfl ?_)
    (refine nx (aM (gN rfl) rfl rfl rfl rfl rfl) rfl ?_)
    (refine nx (aX (gN rfl) rfl rfl rfl rfl rfl rfl) rfl ?_)
    (refine nx (aX (gN rfl) rfl rfl rfl rfl rfl rfl) rfl ?_)
    (refine nx (a_alloc (gN rfl) rfl rfl rfl rfl rfl rfl rfl rfl rfl rfl) rfl ?_)
    (refine nx (aSt (gN rfl) rfl rfl rfl rfl rfl rfl rfl rfl rfl rfl) rfl ?_)
    (refine nx (aA (gN rfl) rfl rfl rfl rfl rfl) rfl ?_)
    refine ⟨by kernel_rfl, ?_⟩
    show AWp _ _ _ _ _ _ _
    refine aS (aS (aR ?_))
    (refine nx (aM (gN rfl) rfl rfl rfl rfl rfl) rfl ?_)
    (refine nx (a_not (gN rfl) rfl rfl rfl rfl rfl) rfl ?_)
    show AWp _ _ _ _ _ _ _
    refine aC rfl (fun hc => ?_) (fun hc => aK ?_)
    · have hno : putP u p s = none := by simpa using hc
      have e : putP u ((m : Int) :: p) t = none := by rw [putP, hs, Option.bind_some, hno]; rfl
      rw [e]
      refine aS (aR ?_)
      (refine nx (a_build (gN rfl) rfl rfl rfl rfl rfl rfl rfl rfl rfl rfl rfl) rfl ?_)
      (refine nx (aSt (gN rfl) rfl rfl rfl rfl rfl rfl rfl rfl rfl rfl) rfl ?_)
      (refine nx (aA (gN rfl) rfl rfl rfl rfl rfl) rfl ?_)
      show AWp _ _ _ _ _ _ _
      exact aT ⟨.inr rfl, _, Wk.refl _, rfl, rfl, trivial⟩
    obtain ⟨v, hv⟩ : ∃ v, putP u p s = some v := Option.isSome_iff_exists.1 (by simpa using hc)
    clear hc
    have e : putP u ((m : Int) :: p) t = some ⟨t.f, (t.l.take m).map Tm.strip ++ v :: (t.l.drop (m + 1)).map Tm.strip⟩ := by rw [putP, hs, Option.bind_some, hv]; rfl
    rw [e, hv]
    have c1 := cloneAll_abs w (t.l.take m) (by rw [List.length_take]; omega) (fun x hx => ⟨(hparts x (List.mem_of_mem_take hx)).1, by have := (hparts x (List.mem_of_mem_take hx)).2; omega⟩)
    have c2 := cloneAll_abs w (t.l.drop (m + 1)) (by rw [List.length_drop]; omega) (fun x hx => ⟨(hparts x (List.mem_of_mem_drop hx)).1, by have := (hparts x (List.mem_of_mem_drop hx)).2; omega⟩)
    rw [show (t.l.take m).map Tm.cv = (t.l.map Tm.cv).take m from List.map_take] at c1
    rw [show (t.l.drop (m + 1)).map Tm.cv = (t.l.map Tm.cv).drop (m + 1) from List.map_drop] at c2
    obtain ⟨A, hA⟩ : ∃ A, A = (t.l.take m).map Tm.strip := ⟨_, rfl⟩
    obtain ⟨B, hB⟩ : ∃ B, B = (t.l.drop (m + 1)).map Tm.strip := ⟨_, rfl⟩
    have hAl : A.length ≤ 100000 := by rw [hA, List.length_map, List.length_take]; omega
    have hBl : B.length ≤ 100000 := by rw [hB, List.length_map, List.length_drop]; omega
    rw [← hA] at c1 ⊢
    rw [← hB] at c2 ⊢
    have c3 : AFun Tryz.prog w 130 [.lst [.lst (A.map Tm.cv), .lst [v.cw], .lst (B.map Tm.cv)]] (.val (.lst ((A ++ v :: B).map Tm.cv))) := by
      have := concat_abs w [A, [v], B] (by simp) (by simp; omega)
      simpa only [List.map_cons, List.map_nil, Tm.cv_eq, List.flatten_cons, List.flatten_nil, List.append_nil, List.cons_append, List.nil_append, List.singleton_append] using this
    show AWp _ _ _ _ _ _ _
    refine AWp.wk (wk_sub (s' := [(3, .bp 3 0 []), (100003, .bx t.cw), (6, .bp 6 0 []), (100006, ⟨5, .row [.i 0, .lst []], 1, 0, [1]⟩), (8, .val (.i m)), (9, .bp 9 0 []), (100009, .bx v.cw), (400003, AV.mrow 3 1 (F.map CV.i))]) ⟨rfl, rfl, rfl, rfl, rfl, rfl, rfl, rfl, trivial⟩) ?_
    refine aS (aD (by kernel_rfl) (by kernel_rfl) ?_)
    (refine nx (aF (gN rfl) rfl rfl rfl rfl rfl rfl rfl rfl rfl) rfl ?_)
    (refine nx (aLb (gN rfl) rfl rfl rfl rfl rfl rfl rfl rfl rfl rfl rfl rfl) rfl ?_)
    (refine nx (aM (gN rfl) rfl rfl rfl rfl rfl) rfl ?_)
    (refine nx (a_upto (gN rfl) rfl rfl rfl rfl rfl rfl rfl rfl rfl (by omega) (by first | assumption | exact sZ rfl | exact Tm.size_all _ | exact Bd.size_all _ | exact ints_size _ | exact bys_size _ | exact Lt.size_all _)) rfl ?_)
    (refine nx (a_call (gN rfl) rfl rfl rfl rfl rfl (c1)) rfl ?_)
    (refine nx (aL (gN rfl) rfl rfl rfl rfl rfl rfl rfl rfl rfl rfl rfl rfl) rfl ?_)
    (refine nx (a_bslice (gN rfl) rfl rfl rfl rfl rfl rfl rfl rfl rfl rfl rfl rfl rfl) rfl ?_)
    (refine nx (aF (gN rfl) rfl rfl rfl rfl rfl rfl rfl rfl rfl) rfl ?_)
    (refine nx (aLb (gN rfl) rfl rfl rfl rfl rfl rfl rfl rfl rfl rfl rfl rfl) rfl ?_)
    (refine nx (aM (gN rfl) rfl rfl rfl rfl rfl) rfl ?_)
    (refine nx (a_add (gN rfl) rfl rfl rfl rfl rfl rfl (by first | omega | (simp only [List.length_map, List.length_append, List.length_cons, List.length_nil] <;> omega) | (simp <;> omega))) rfl ?_)
    (refine nx (a_from (lo := m + 1) (gN rfl) rfl rfl rfl rfl rfl rfl rfl rfl rfl (by omega) (by first | assumption | exact sZ rfl | exact Tm.size_all _ | exact Bd.size_all _ | exact ints_size _ | exact bys_size _ | exact Lt.size_all _)) rfl ?_)
    (refine nx (a_call (gN rfl) rfl rfl rfl rfl rfl (c2)) rfl ?_)
    (refine nx (a_bslice (gN rfl) rfl rfl rfl rfl rfl rfl rfl rfl rfl rfl rfl rfl rfl) rfl ?_)
    (refine nx (a_call (gN rfl) rfl rfl rfl rfl rfl (c3)) rfl ?_)
    (refine nx (aA (gN rfl) rfl rfl rfl rfl rfl) rfl ?_)
    refine ⟨by kernel_rfl, ?_⟩
    show AWp _ _ _ _ _ _ _
    refine aS (aR ?_)
    (refine nx (aF (gN rfl) rfl rfl rfl rfl rfl rfl rfl rfl rfl) rfl ?_)
    (refine nx (aLb (gN rfl) rfl rfl rfl rfl rfl rfl rfl rfl rfl rfl rfl rfl) rfl ?_)
    (refine nx (aM (gN rfl) rfl rfl rfl rfl rfl) rfl ?_)
    (refine nx (a_build (gN rfl) rfl rfl rfl rfl rfl rfl rfl rfl rfl rfl rfl) rfl ?_)
    (refine nx (aSt (gN rfl) rfl rfl rfl rfl rfl rfl rfl rfl rfl rfl) rfl ?_)
    (refine nx (aA (gN rfl) rfl rfl rfl rfl rfl) rfl ?_)
    show AWp _ _ _ _ _ _ _
    exact aT ⟨.inr rfl, _, Wk.refl _, rfl, rfl, trivial⟩
end Go.Proofs.YteegmcfobgpemaaGreat
