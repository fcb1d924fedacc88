/-
  PrintWhole.
-/
import Derived.Test.YtebhbnhijnpmcaaDoorMg5
import Derived.Test.YtebhbnhijnpmcaaDoorMg6
import Derived.Test.YtebhbnhijnpmcaaDoorPrShelf
import Derived.Test.YtebhbnhijnpmcaaDoorAbShp
-- @STR@
namespace Go.Proofs.YtebhbnhijnpmcaaDoor
open Go.RowKit
set_option linter.unusedVariables false
set_option linter.unusedSimpArgs false
set_option maxRecDepth 100000

theorem itoaS : ItoaN none 100 := fun z hz => by
  refine ⟨ent_of Tryd.func66 rfl rfl, .inl rfl, rfl, fun U w vs _ hv => ?_⟩
  obtain ⟨u, us, rfl, hu, hus⟩ := hv
  have hus : us = [] := hus
  subst hus
  obtain ⟨rfl, _⟩ := vrep_sc.1 hu
  refine (Tryd.strconv_Itoa_small z hz w).mono ?_
  rintro e w' ⟨rfl, rfl⟩
  exact ⟨_, rfl, vrep_sc.2 ⟨rfl, rfl⟩, Below.refl _ _⟩
def ex13S : Sg := ⟨[[36, 116, 114, 117, 101], [99], [102]], [0, 0, 1], [true, false, false]⟩
def ex13C : List Lt := [⟨true, ⟨2, [⟨-1, []⟩]⟩, ⟨1, []⟩⟩]
theorem ex13_tx : txC ex13S.nm ex13C = [102, 40, 88, 48, 41, 32, 33, 61, 32, 99] := by
  have h0 : Lib.decDigits 0 = [48] := by rw [Lib.decDigits_one (by omega)]; rfl
  have h1 : txT ex13S.nm ⟨-1, []⟩ = [88, 48] := by
    rw [txT_eq, if_pos (by decide)]
    show 88 :: Lib.decDigits 0 = _
    rw [h0]
  have h2 : txT ex13S.nm ⟨1, []⟩ = [99] := by
    rw [txT_eq, if_neg (by decide)]; rfl
  have h3 : txT ex13S.nm ⟨2, [⟨-1, []⟩]⟩ = [102, 40, 88, 48, 41] := by
    rw [txT_eq, if_neg (by decide)]
    show symX ex13S.nm 2 ++ parX [txT ex13S.nm ⟨-1, []⟩] = _
    rw [h1]; rfl
  unfold txC
  rw [if_neg (by simp [ex13C])]
  show joinW _ [txL ex13S.nm ⟨true, ⟨2, [⟨-1, []⟩]⟩, ⟨1, []⟩⟩] = _
  unfold txL
  rw [if_neg (by decide)]
  show joinW _ [txT ex13S.nm ⟨2, [⟨-1, []⟩]⟩ ++ ([32, 33, 61, 32] ++ txT ex13S.nm ⟨1, []⟩)] = _
  rw [h3, h2]; rfl
theorem ex13_nk : ∀ l ∈ ex13C, l.nk 100 3 := by
  have v : Tm.nk 100 3 ⟨-1, []⟩ := (Tm.nk_iff _ _ _).2 ⟨by decide, fun s hs => by cases hs⟩
  have c : Tm.nk 100 3 ⟨1, []⟩ := (Tm.nk_iff _ _ _).2 ⟨by decide, fun s hs => by cases hs⟩
  have f : Tm.nk 100 3 ⟨2, [⟨-1, []⟩]⟩ := (Tm.nk_iff _ _ _).2 ⟨by decide, fun s hs => by rw [List.mem_singleton.1 hs]; exact v⟩
  intro l hl
  rw [List.mem_singleton.1 hl]
  exact ⟨f, c⟩
-- 
set_option maxHeartbeats 1000000 in
theorem alive13_abs (W : World) : AFun Tryd.prog W 17 [] (.val (.b true)) := by
  refine afun_of (rs := [.b true]) Tryd.func17 Tryd.ntmps17 rfl rfl rfl rfl ?_
  intro w U hW
  have h1 : AFun Tryd.prog w 27 [sgv ex13S, lcv ex13C] (.val (sv [102, 40, 88, 48, 41, 32, 33, 61, 32, 99])) := by
    rw [← ex13_tx]
    exact (prCls_abs none 100 itoaS ex13S (by decide) ex13C (by decide) ex13_nk (by rw [ex13_tx]; decide)).plain
  have h2 : AFun Tryd.prog w 27 [sgv ex13S, lcv []] (.val (sv [36, 102, 97, 108, 115, 101])) := (prCls_abs none 100 itoaS ex13S (by decide) [] (by decide) (fun l hl => by cases hl) (by decide)).plain
  refine aS (aR ?_)
  (refine nx (aA (gN rfl) rfl rfl rfl rfl rfl) rfl ?_)
  show AWp _ _ _ _ _ _ _
  refine aS (aR ?_)
  (refine nx (a_bslice (gN rfl) rfl rfl rfl rfl rfl rfl rfl rfl rfl rfl rfl rfl rfl) rfl ?_)
  (refine nx (a_bslice (gN rfl) rfl rfl rfl rfl rfl rfl rfl rfl rfl rfl rfl rfl rfl) rfl ?_)
  (refine nx (a_bslice (gN rfl) rfl rfl rfl rfl rfl rfl rfl rfl rfl rfl rfl rfl rfl) rfl ?_)
  (refine nx (a_build (gN rfl) rfl rfl rfl rfl rfl rfl rfl rfl rfl rfl rfl) rfl ?_)
  (refine nx (a_allocT [.lst [], .lst [], .lst []] (gN rfl) rfl rfl rfl rfl rfl rfl rfl) rfl ?_)
  (refine nx (aSt (gN rfl) rfl rfl rfl rfl rfl rfl rfl rfl rfl rfl) rfl ?_)
  show AWp _ _ _ _ _ _ _
  refine AWp.wk (wk_sub (s' := [(1, .bp 1 0 []), (100001, .bx (sgv ex13S))]) ⟨rfl, rfl, trivial⟩) ?_
  refine aS (aR ?_)
  (refine nx (aL (gN rfl) rfl rfl rfl rfl rfl rfl rfl rfl rfl rfl rfl rfl) rfl ?_)
  (refine nx (a_buildP (gN rfl) rfl rfl rfl rfl rfl rfl rfl rfl rfl rfl rfl) rfl ?_)
  (refine nx (a_bslice (gN rfl) rfl rfl rfl rfl rfl rfl rfl rfl rfl rfl rfl rfl rfl) rfl ?_)
  (refine nx (a_buildP (gN rfl) rfl rfl rfl rfl rfl rfl rfl rfl rfl rfl rfl) rfl ?_)
  (refine nx (a_buildP (gN rfl) rfl rfl rfl rfl rfl rfl rfl rfl rfl rfl rfl) rfl ?_)
  (refine nx (a_buildT [.b false, .row [.i 0, .lst []], .row [.i 0, .lst []]] (gN rfl) rfl rfl rfl rfl rfl rfl rfl rfl rfl rfl rfl) rfl ?_)
  (refine nx (a_bslice (gN rfl) rfl rfl rfl rfl rfl rfl rfl rfl rfl rfl rfl rfl rfl) rfl ?_)
  (refine nx (a_call (gN rfl) rfl rfl rfl rfl rfl (h1)) rfl ?_)
  (refine nx (a_seql (gN rfl) rfl rfl rfl rfl rfl rfl rfl) rfl ?_)
  (refine nx (aM (gN rfl) rfl rfl rfl rfl rfl) rfl ?_)
  (refine nx (aL (gd_on rfl rfl rfl rfl (by first | rfl | assumption | (simp; done))) rfl rfl rfl rfl rfl rfl rfl rfl rfl rfl rfl rfl) rfl ?_)
  (refine nx (a_call (gd_on rfl rfl rfl rfl (by first | rfl | assumption | (simp; done))) rfl rfl rfl rfl rfl (h2)) rfl ?_)
  (refine nx (a_seql (gd_on rfl rfl rfl rfl (by first | rfl | assumption | (simp; done))) rfl rfl rfl rfl rfl rfl rfl) rfl ?_)
  (refine ⟨_, _, _, aPt (gN rfl) rfl rfl rfl rfl rfl ?hb rfl, rfl, ?_⟩; case hb => (first | rfl | assumption | (simp; done)))
  (refine nx (aA (gN rfl) rfl rfl rfl rfl rfl) rfl ?_)
  show AWp _ _ _ _ _ _ _
  exact aT (And.intro (.inr rfl) rfl)
theorem wt_mem {x : Lt} : ∀ {c : List Lt}, x ∈ c → x.a.size + x.b.size ≤ wtL c
  | y :: c, h => by
    have e : wtL (y :: c) = (y.a.size + y.b.size) + wtL c := by unfold wtL; simp
    rw [e]
    rcases List.mem_cons.1 h with rfl | h
    · omega
    · have := wt_mem h; omega
theorem prs_nk {B n : Nat} {s : Sg} {l : List (List Lt)} (h : Prs B n s l) : ∀ c ∈ l, c.length ≤ 1000000 ∧ ∀ x ∈ c, x.nk 100 s.nm.length := fun c hc => by
  obtain ⟨h1, h2⟩ := h.lits c hc
  have hl := (txC_len (B := B) h.nms h1 h2).2
  refine ⟨by omega, fun x hx => ?_⟩
  have hw : x.a.size + x.b.size ≤ 60 := by
    have := wt_mem hx
    omega
  have hb := h2 x hx
  refine ⟨bd_nk (by omega) _ hb.a (by omega), ?_⟩
  cases ht : trB x.b with
  | true =>
    rw [(hb.t ht).1]
    exact (Tm.nk_iff _ _ _).2 ⟨⟨by decide, fun e => absurd e (by decide), fun e => by show (0 : Int) < _; omega, by decide⟩, fun s hs => by cases hs⟩
  | false => exact bd_nk (by omega) _ (hb.b ht) (by omega)
theorem prs_all {B n : Nat} {s : Sg} {l : List (List Lt)} (h : Prs B n s l) (hB : B ≤ 2000) (W : World) {m : List (List Lt)} (hm : ∀ c ∈ m, c ∈ l) (hml : m.length ≤ 64) : AFun Tryd.prog W 28 [sgv s, .lst (m.map lcv)] (.val (sv (txA s.nm m))) := by
  have hlen := txA_len (B := B) h.nms fun c hc => h.lits c (hm c hc)
  have : m.length * (60 * (B + 72) + 8) ≤ 64 * (60 * (B + 72) + 8) := Nat.mul_le_mul_right _ hml
  have := h.few
  exact (prAll_abs none 100 itoaS s (by omega) m (by omega) (fun c hc => prs_nk h c (hm c hc)) (by omega)).plain
-- 
set_option maxHeartbeats 4000000 in
theorem printWhole_abs (W : World) (src : By) (hl : src.length ≤ 9223372036854775807) (a : Int) (ha : 0 ≤ a ∧ a ≤ 255) : AFun Tryd.prog W 7 [sv src, .sc (.int .u8 a)] (.val (.b true)) := by
  obtain ⟨r, hr⟩ := prF_some src
  have hp := fun w => parse_abs w 65600 src r hl hr
  refine afun_of (rs := [.b true]) Tryd.func7 Tryd.ntmps7 rfl rfl rfl rfl ?_
  intro w U hW
  have h0 := alive13_abs w
  refine aS (aR ?_)
  (refine nx (aA (gN rfl) rfl rfl rfl rfl rfl) rfl ?_)
  show AWp _ _ _ _ _ _ _
  refine aS (aS (aR ?_))
  (refine nx (a_call (gN rfl) rfl rfl rfl rfl rfl (h0)) rfl ?_)
  (refine nx (a_not (gN rfl) rfl rfl rfl rfl rfl) rfl ?_)
  show AWp _ _ _ _ _ _ _
  refine aC rfl (fun hc => by cases hc) (fun hc => aK ?_)
  show AWp _ _ _ _ _ _ _
  refine aS (aS (aR ?_))
  (refine nx (aM (gN rfl) rfl rfl rfl rfl rfl) rfl ?_)
  (refine nx (a_slen (gN rfl) rfl rfl rfl rfl rfl rfl rfl) rfl ?_)
  (refine nx (a_gtr (gN rfl) rfl rfl rfl rfl rfl rfl) rfl ?_)
  show AWp _ _ _ _ _ _ _
  refine aC rfl (fun hc => ?_) (fun hc => ?_)
  · refine aS (aR ?_)
    (refine nx (aA (gN rfl) rfl rfl rfl rfl rfl) rfl ?_)
    show AWp _ _ _ _ _ _ _
    exact aT (And.intro (.inr rfl) rfl)
  have hs : src.length ≤ 1000 := by
    have hc : decide ((src.length : Int) > 1000) = false := hc
    have := of_decide_eq_false hc
    omega
  refine aK ?_
  show AWp _ _ _ _ _ _ _
  refine aS (aR ?_)
  (refine nx (aM (gN rfl) rfl rfl rfl rfl rfl) rfl ?_)
  (refine nx (a_call (gN rfl) rfl rfl rfl rfl rfl (hp w)) rfl ?_)
  (refine nx (aM (gN rfl) rfl rfl rfl rfl rfl) rfl ?_)
  (refine nx (aX (gN rfl) rfl rfl rfl rfl rfl rfl) rfl ?_)
  (refine nx (aX (gN rfl) rfl rfl rfl rfl rfl rfl) rfl ?_)
  (refine nx (aX (gN rfl) rfl rfl rfl rfl rfl rfl) rfl ?_)
  (refine nx (a_alloc (gN rfl) rfl rfl rfl rfl rfl rfl rfl rfl rfl rfl) rfl ?_)
  (refine nx (aSt (gN rfl) rfl rfl rfl rfl rfl rfl rfl rfl rfl rfl) rfl ?_)
  (refine nx (aA (gN rfl) rfl rfl rfl rfl rfl) rfl ?_)
  (refine nx (aA (gN rfl) rfl rfl rfl rfl rfl) rfl ?_)
  show AWp _ _ _ _ _ _ _
  refine AWp.wk (wk_sub (s' := [(1, .val (.sc (.int .u8 a))), (5, .bp 5 0 []), (100005, .bx (sgv r.1)), (6, .val (.lst (r.2.1.map lcv))), (7, .val (.sc (.int .u8 r.2.2)))]) ⟨rfl, rfl, rfl, rfl, rfl, trivial⟩) ?_
  have xr := prF_err3 hr
  by_cases he : r.2.2 = 0
  · have hP := prF_prs hr he
    have hL := hP.len
    have hln : (r.2.1.map lcv).length = r.2.1.length := List.length_map ..
    have hsz := lcvs_size r.2.1
    obtain ⟨s, l, e⟩ := r
    simp only at he hP hL hln hsz ⊢
    subst he
    clear xr
    obtain ⟨T, hT⟩ : ∃ T, T = txA s.nm l := ⟨_, rfl⟩
    have hTl : T.length ≤ 1000000000 := by
      have h1 := txA_len (B := src.length) hP.nms hP.lits
      have : l.length * (60 * (src.length + 72) + 8) ≤ 64 * (60 * (src.length + 72) + 8) := Nat.mul_le_mul_right _ hL
      rw [hT]; omega
    have hc46 : T.count 46 = l.length := by rw [hT]; exact cnt_txA hP.nms hP.lits
    have q1 := prs_all hP (by omega) w (m := l) (fun c hc => hc) hL
    rw [← hT] at q1
    refine aS (aS (aR ?_))
    (refine nx (aM (gN rfl) rfl rfl rfl rfl rfl) rfl ?_)
    (refine nx (a_conv (gN rfl) rfl rfl rfl rfl rfl rfl rfl (by first | rfl | (rw [IntKind.wrap_i64]; omega) | assumption)) rfl ?_)
    (refine nx (a_neq (gN rfl) rfl rfl rfl rfl rfl rfl) rfl ?_)
    show AWp _ _ _ _ _ _ _
    refine aC rfl (fun hc => by cases hc) (fun hc => aK ?_)
    show AWp _ _ _ _ _ _ _
    refine aS (aR ?_)
    (refine nx (aL (gN rfl) rfl rfl rfl rfl rfl rfl rfl rfl rfl rfl rfl rfl) rfl ?_)
    (refine nx (aM (gN rfl) rfl rfl rfl rfl rfl) rfl ?_)
    (refine nx (a_call (gN rfl) rfl rfl rfl rfl rfl (q1)) rfl ?_)
    (refine nx (aA (gN rfl) rfl rfl rfl rfl rfl) rfl ?_)
    show AWp _ _ _ _ _ _ _
    refine aS (aR ?_)
    (refine nx (aA (gN rfl) rfl rfl rfl rfl rfl) rfl ?_)
    show AWp _ _ _ _ _ _ _
    refine aS (aS (aR ?_))
    (refine nx (aA (gN rfl) rfl rfl rfl rfl rfl) rfl ?_)
    show AWp _ _ _ _ _ _ _
    refine aB (awp_count T.length (fun k => [(1, .val (.sc (.int .u8 a))), (5, .bp 5 0 []), (100005, .bx (sgv s)), (6, .val (.lst (l.map lcv))), (8, .val (sv T)), (9, .val (.i ((T.take k).count 46 : Nat))), (10, .val (.i (k : Int)))]) (wk_sub ⟨rfl, rfl, rfl, rfl, rfl, rfl, rfl, trivial⟩) ?_)
    intro k hk
    refine aS (aS (aR ?_))
    (refine nx (aM (gN rfl) rfl rfl rfl rfl rfl) rfl ?_)
    (refine nx (aM (gN rfl) rfl rfl rfl rfl rfl) rfl ?_)
    (refine nx (a_slen (gN rfl) rfl rfl rfl rfl rfl rfl rfl) rfl ?_)
    (refine nx (a_lss (gN rfl) rfl rfl rfl rfl rfl rfl) rfl ?_)
    show AWp _ _ _ _ _ _ _
    refine aC rfl (fun hlt => ?_) (fun hlt => ?_)
    · have hkl : k < T.length := by simpa using hlt
      obtain ⟨x, hx⟩ : ∃ x, T[k]? = some x := ⟨T[k], List.getElem?_eq_getElem hkl⟩
      have hcl : (T.take k).count 46 ≤ T.length := Nat.le_trans List.count_le_length (by rw [List.length_take]; omega)
      have hcs : (T.take (k + 1)).count 46 = (T.take k).count 46 + if x = 46 then 1 else 0 := by
        rw [List.take_add_one, hx, List.count_append]
        congr 1
        by_cases h46 : x = 46
        · subst h46; rfl
        · rw [if_neg h46]
          show List.count 46 [x] = 0
          rw [List.count_eq_zero]
          intro hm
          exact h46 (List.mem_singleton.1 hm).symm
      refine aK ?_
      show AWp _ _ _ _ _ _ _
      refine aS (aB (aS (aR ?_)))
      (refine nx (aM (gN rfl) rfl rfl rfl rfl rfl) rfl ?_)
      (refine nx (aM (gN rfl) rfl rfl rfl rfl rfl) rfl ?_)
      (refine nx (a_sidx (k) (gN rfl) rfl rfl rfl rfl rfl rfl rfl (by first | rfl | omega | (simp only [List.length_set, List.length_map, List.length_append, List.length_cons, List.length_nil] <;> omega) | (simp <;> omega)) (hx)) rfl ?_)
      (refine nx (a_eql (gN rfl) rfl rfl rfl rfl rfl rfl) rfl ?_)
      show AWp _ _ _ _ _ _ _
      refine aC rfl (fun hc => ?_) (fun hc => aK ?_)
      · have hc : decide ((x.toNat : Int) = 46) = true := hc
        have h46 : x = 46 := UInt8.toNat_inj.1 (by have : (x.toNat : Int) = 46 := by simpa using hc
                                                   show x.toNat = 46
                                                   omega)
        rw [if_pos h46] at hcs
        refine aR ?_
        (refine nx (aM (gN rfl) rfl rfl rfl rfl rfl) rfl ?_)
        (refine nx (a_add (gN rfl) rfl rfl rfl rfl rfl rfl (by first | omega | (simp only [List.length_map, List.length_append, List.length_cons, List.length_nil] <;> omega) | (simp <;> omega))) rfl ?_)
        (refine nx (aA (gN rfl) rfl rfl rfl rfl rfl) rfl ?_)
        show AWp _ _ _ _ _ _ _
        refine aR ?_
        (refine nx (aM (gN rfl) rfl rfl rfl rfl rfl) rfl ?_)
        (refine nx (a_add (gN rfl) rfl rfl rfl rfl rfl rfl (by first | omega | (simp only [List.length_map, List.length_append, List.length_cons, List.length_nil] <;> omega) | (simp <;> omega))) rfl ?_)
        (refine nx (aA (gN rfl) rfl rfl rfl rfl rfl) rfl ?_)
        refine ⟨hkl, wk_sub ⟨rfl, rfl, rfl, rfl, rfl, ?_, rfl, trivial⟩⟩
        rw [hcs, Int.natCast_add]; rfl
      · have hc : decide ((x.toNat : Int) = 46) = false := hc
        have h46 : x ≠ 46 := fun e => by subst e; exact absurd hc (by decide)
        rw [if_neg h46, Nat.add_zero] at hcs
        show AWp _ _ _ _ _ _ _
        refine aR ?_
        (refine nx (aM (gN rfl) rfl rfl rfl rfl rfl) rfl ?_)
        (refine nx (a_add (gN rfl) rfl rfl rfl rfl rfl rfl (by first | omega | (simp only [List.length_map, List.length_append, List.length_cons, List.length_nil] <;> omega) | (simp <;> omega))) rfl ?_)
        (refine nx (aA (gN rfl) rfl rfl rfl rfl rfl) rfl ?_)
        refine ⟨hkl, wk_sub ⟨rfl, rfl, rfl, rfl, rfl, ?_, rfl, trivial⟩⟩
        rw [hcs]; rfl
    · have hkl : k = T.length := by
        have : ¬ k < T.length := by simpa using hlt
        omega
      subst hkl
      rw [List.take_length, hc46]
      refine aE ?_
      show AWp _ _ _ _ _ _ _
      refine aS (aR ?_)
      (refine nx (aA (gN rfl) rfl rfl rfl rfl rfl) rfl ?_)
      show AWp _ _ _ _ _ _ _
      obtain ⟨kk, hkk, hkl2⟩ : ∃ kk : Nat, kk = (if l.length = 0 then 0 else (a % (l.length : Int)).toNat) ∧ kk ≤ l.length := by
        refine ⟨_, rfl, ?_⟩
        split
        · omega
        · have := Int.emod_lt_of_pos a (show (0 : Int) < (l.length : Int) by omega)
          omega
      have q2 := prs_all hP (by omega) w (m := l.take kk) (fun c hc => List.mem_of_mem_take hc) (by rw [List.length_take]; omega)
      have q3 := prs_all hP (by omega) w (m := l.drop kk) (fun c hc => List.mem_of_mem_drop hc) (by rw [List.length_drop]; omega)
      rw [List.map_take] at q2
      rw [List.map_drop] at q3
      have hTT : txA s.nm (l.take kk) ++ txA s.nm (l.drop kk) = T := by rw [hT]; unfold txA; rw [← List.flatMap_append, List.take_append_drop]
      have hT2 : (txA s.nm (l.take kk)).length + (txA s.nm (l.drop kk)).length = T.length := by rw [← List.length_append, hTT]
      refine awp_mid [(5, .bp 5 0 []), (100005, .bx (sgv s)), (6, .val (.lst (l.map lcv))), (8, .val (sv T)), (9, .val (.i (l.length : Int))), (11, .val (.i (kk : Int)))] ?_ ?_
      · refine aS (aR ?_)
        (refine nx (aM (gN rfl) rfl rfl rfl rfl rfl) rfl ?_)
        (refine nx (a_len (gN rfl) rfl rfl rfl rfl rfl rfl rfl) rfl ?_)
        (refine nx (a_gtr (gN rfl) rfl rfl rfl rfl rfl rfl) rfl ?_)
        show AWp _ _ _ _ _ _ _
        by_cases hl0 : l.length = 0
        · have g : decide (((l.map lcv).length : Int) > 0) = false := by rw [decide_eq_false_iff_not, hln]; omega
          rw [if_pos hl0] at hkk
          refine aC rfl (fun hc => by rw [g] at hc; cases hc) (fun hc => aK ?_)
          exact wk_sub ⟨rfl, rfl, rfl, rfl, rfl, by rw [hkk]; rfl, trivial⟩
        · have g : decide (((l.map lcv).length : Int) > 0) = true := by rw [decide_eq_true_eq, hln]; omega
          have hne : ((l.map lcv).length : Int) ≠ 0 := by rw [hln]; omega
          rw [if_neg hl0] at hkk
          refine aC rfl (fun hc => ?_) (fun hc => by rw [g] at hc; cases hc)
          refine aR ?_
          (refine nx (aM (gN rfl) rfl rfl rfl rfl rfl) rfl ?_)
          (refine nx (a_conv (gN rfl) rfl rfl rfl rfl rfl rfl rfl (by first | rfl | (rw [IntKind.wrap_i64]; omega) | assumption)) rfl ?_)
          (refine nx (aM (gN rfl) rfl rfl rfl rfl rfl) rfl ?_)
          (refine nx (a_len (gN rfl) rfl rfl rfl rfl rfl rfl rfl) rfl ?_)
          (refine nx (a_rem (gN rfl) rfl rfl rfl rfl rfl rfl (by first | decide | assumption)) rfl ?_)
          (refine nx (aA (gN rfl) rfl rfl rfl rfl rfl) rfl ?_)
          refine wk_sub ⟨rfl, rfl, rfl, rfl, rfl, ?_, trivial⟩
          have e : Int.tmod a ((l.map lcv).length : Int) = (kk : Int) := by
            rw [hln, Int.tmod_eq_emod_of_nonneg ha.1, hkk, Int.toNat_of_nonneg (Int.emod_nonneg _ (by omega))]
          rw [← e]; rfl
      · have g : decide ((l.length : Int) = ((l.map lcv).length : Int)) = true := by rw [decide_eq_true_eq, hln]
        have hkz : kk ≤ (l.map lcv).length := by rw [hln]; exact hkl2
        show AWp _ _ _ _ _ _ _
        refine aS (aD (by kernel_rfl) (by kernel_rfl) ?_)
        (refine nx (aM (gN rfl) rfl rfl rfl rfl rfl) rfl ?_)
        (refine nx (aM (gN rfl) rfl rfl rfl rfl rfl) rfl ?_)
        (refine nx (a_len (gN rfl) rfl rfl rfl rfl rfl rfl rfl) rfl ?_)
        (refine nx (a_eql (gN rfl) rfl rfl rfl rfl rfl rfl) rfl ?_)
        (refine nx (aM (gN rfl) rfl rfl rfl rfl rfl) rfl ?_)
        (refine nx (aM (gd_on rfl rfl rfl rfl (by first | rfl | assumption | (simp; done))) rfl rfl rfl rfl rfl) rfl ?_)
        (refine nx (aL (gd_on rfl rfl rfl rfl (by first | rfl | assumption | (simp; done))) rfl rfl rfl rfl rfl rfl rfl rfl rfl rfl rfl rfl) rfl ?_)
        (refine nx (aM (gd_on rfl rfl rfl rfl (by first | rfl | assumption | (simp; done))) rfl rfl rfl rfl rfl) rfl ?_)
        (refine nx (aM (gd_on rfl rfl rfl rfl (by first | rfl | assumption | (simp; done))) rfl rfl rfl rfl rfl) rfl ?_)
        (refine nx (a_upto (hi' := kk) (gd_on rfl rfl rfl rfl (by first | rfl | assumption | (simp; done))) rfl rfl rfl rfl rfl rfl rfl rfl rfl (by omega) (by first | assumption | exact sZ rfl | exact Tm.size_all _ | exact Bd.size_all _ | exact ints_size _ | exact bys_size _ | exact Lt.size_all _)) rfl ?_)
        (refine nx (a_call (gd_on rfl rfl rfl rfl (by first | rfl | assumption | (simp; done))) rfl rfl rfl rfl rfl (q2)) rfl ?_)
        (refine nx (aL (gd_on rfl rfl rfl rfl (by first | rfl | assumption | (simp; done))) rfl rfl rfl rfl rfl rfl rfl rfl rfl rfl rfl rfl) rfl ?_)
        (refine nx (aM (gd_on rfl rfl rfl rfl (by first | rfl | assumption | (simp; done))) rfl rfl rfl rfl rfl) rfl ?_)
        (refine nx (aM (gd_on rfl rfl rfl rfl (by first | rfl | assumption | (simp; done))) rfl rfl rfl rfl rfl) rfl ?_)
        (refine nx (a_from (lo := kk) (gd_on rfl rfl rfl rfl (by first | rfl | assumption | (simp; done))) rfl rfl rfl rfl rfl rfl rfl rfl rfl (by omega) (by first | assumption | exact sZ rfl | exact Tm.size_all _ | exact Bd.size_all _ | exact ints_size _ | exact bys_size _ | exact Lt.size_all _)) rfl ?_)
        (refine nx (a_call (gd_on rfl rfl rfl rfl (by first | rfl | assumption | (simp; done))) rfl rfl rfl rfl rfl (q3)) rfl ?_)
        (refine nx (a_sadd (gd_on rfl rfl rfl rfl (by first | rfl | assumption | (simp; done))) rfl rfl rfl rfl rfl rfl (by first | omega | (simp only [List.length_map, List.length_append, List.length_cons, List.length_nil] <;> omega) | (simp <;> omega))) rfl ?_)
        (refine nx (a_seql (gd_on rfl rfl rfl rfl (by first | rfl | assumption | (simp; done))) rfl rfl rfl rfl rfl rfl rfl) rfl ?_)
        (refine ⟨_, _, _, aPt (gN rfl) rfl rfl rfl rfl rfl ?hb rfl, rfl, ?_⟩; case hb => (first | rfl | assumption | (simp; done)))
        (refine nx (aA (gN rfl) rfl rfl rfl rfl rfl) rfl ?_)
        refine ⟨by kernel_rfl, ?_⟩
        show AWp _ _ _ _ _ _ _
        refine aT (And.intro (.inr rfl) ?_)
        have g2 : decide (T = txA s.nm (l.take kk) ++ txA s.nm (l.drop kk)) = true := by rw [decide_eq_true_eq, hTT]
        rw [← g2]; rfl
  · obtain ⟨s, l, e⟩ := r
    simp only at he xr ⊢
    refine aS (aS (aR ?_))
    (refine nx (aM (gN rfl) rfl rfl rfl rfl rfl) rfl ?_)
    (refine nx (a_conv (gN rfl) rfl rfl rfl rfl rfl rfl rfl (by first | rfl | (rw [IntKind.wrap_i64]; omega) | assumption)) rfl ?_)
    (refine nx (a_neq (gN rfl) rfl rfl rfl rfl rfl rfl) rfl ?_)
    show AWp _ _ _ _ _ _ _
    have g : decide (e ≠ 0) = true := decide_eq_true he
    refine aC rfl (fun hc => ?_) (fun hc => by rw [g] at hc; cases hc)
    refine aS (aR ?_)
    (refine nx (aA (gN rfl) rfl rfl rfl rfl rfl) rfl ?_)
    show AWp _ _ _ _ _ _ _
    exact aT (And.intro (.inr rfl) rfl)
end Go.Proofs.YtebhbnhijnpmcaaDoor

