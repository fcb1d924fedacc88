/-
  PrintBack.
-/
import Derived.Test.YtebhbnhijnpmcaaGreatDoorMg6
import Derived.Test.YtebhbnhijnpmcaaGreatDoorMg7
import Derived.Test.YtebhbnhijnpmcaaGreatDoorAbShp
-- @STR@
namespace Go.Proofs.YtebhbnhijnpmcaaGreatDoor
open Go.RowKit
set_option linter.unusedVariables false
set_option linter.unusedSimpArgs false
set_option maxRecDepth 100000

theorem strip_bdB {L V : Nat} : ∀ t : Tm, t.bd L V → t.strip = t := by
  refine Tm.ind ?_
  intro f l ih h
  obtain ⟨⟨h1, h2⟩, h3⟩ := (Tm.bd_iff L V ⟨f, l⟩).1 h
  simp only at h1 h2 h3
  rw [Tm.strip_eq]
  rcases Int.lt_or_le f 0 with hf | hf
  · rw [Tm.ps_of_var hf, (h1 hf).2]; rfl
  · rw [Tm.ps_of_sym hf]
    show (⟨f, l.map Tm.strip⟩ : Tm) = ⟨f, l⟩
    congr 1
    have : ∀ (l : List Tm), (∀ t ∈ l, t.strip = t) → l.map Tm.strip = l := by
      intro l
      induction l with
      | nil => intro _; rfl
      | cons x xs ihx => intro h; rw [List.map_cons, h x (by simp), ihx fun t ht => h t (List.mem_cons_of_mem _ ht)]
    exact this l fun t ht => ih t ht (h3 t ht)
theorem strip_clsB {L V : Nat} {c : List Lt} (h : ∀ x ∈ c, LtB L V x) : c.map Lt.strip = c := by
  induction c with
  | nil => rfl
  | cons x c ih =>
    rw [List.map_cons, ih fun y hy => h y (List.mem_cons_of_mem _ hy)]
    congr 1
    have hx := h x (by simp)
    have ha := strip_bdB x.a hx.a
    have hb : x.b.strip = x.b := by
      cases ht : trB x.b with
      | true => rw [(hx.t ht).1, Tm.strip_eq]; rfl
      | false => exact strip_bdB x.b (hx.b ht)
    obtain ⟨a, b, c⟩ := x
    show (⟨a, b.strip, c.strip⟩ : Lt) = _
    rw [ha, hb]
theorem whl_fit {c : List Lt} (h1 : ∀ x ∈ c, x.a.ok ∧ x.b.ok) (h2 : okC c) (hc : c.length ≤ 60) (hw : wtL c ≤ 60) : (whlT c).rng ∧ (whlT c).ok ∧ (whlT c).size ≤ 1000 := by
  refine ⟨(Tm.rng_iff _).2 ⟨⟨by show -9223372036854775808 ≤ (0 : Int); decide, by show (0 : Int) ≤ 9223372036854775807; decide⟩, fun s hs => ?_⟩, (Tm.ok_iff _).2 ⟨?_, fun s hs => ?_⟩, ?_⟩
  · obtain ⟨l, hl, rfl⟩ := List.mem_map.1 hs
    refine (Tm.rng_iff _).2 ⟨?_, fun t ht => ?_⟩
    · show _ ≤ sgZ l.neg ∧ sgZ l.neg ≤ _
      cases l.neg <;> decide
    · have ht : t ∈ [l.a, l.b] := ht
      rcases List.mem_cons.1 ht with rfl | ht
      · exact (h2 l hl).1
      · rw [List.mem_singleton.1 ht]; exact (h2 l hl).2
  · show (c.map whlL).length ≤ _
    rw [List.length_map]
    omega
  · obtain ⟨l, hl, rfl⟩ := List.mem_map.1 hs
    refine (Tm.ok_iff _).2 ⟨by show ([l.a, l.b] : List Tm).length ≤ _; simp, fun t ht => ?_⟩
    have ht : t ∈ [l.a, l.b] := ht
    rcases List.mem_cons.1 ht with rfl | ht
    · exact (h1 l hl).1
    · rw [List.mem_singleton.1 ht]; exact (h1 l hl).2
  · have e : ∀ c : List Lt, ((c.map whlL).map Tm.size).sum = c.length + wtL c := by
      intro c
      induction c with
      | nil => rfl
      | cons x c ih =>
        have e1 : wtL (x :: c) = (x.a.size + x.b.size) + wtL c := by unfold wtL; simp
        have e2 : (whlL x).size = 1 + (x.a.size + (x.b.size + 0)) := by
          have hn := sgZ_nn x.neg
          obtain ⟨k, hk⟩ : ∃ k : Nat, sgZ x.neg = (k : Int) := ⟨(sgZ x.neg).toNat, by omega⟩
          unfold whlL
          rw [hk]
          exact size_sym k [x.a, x.b]
        rw [List.map_cons, List.map_cons, List.sum_cons, ih, e1, e2, List.length_cons]
        omega
    have e3 : (whlT c).size = 1 + ((c.map whlL).map Tm.size).sum := size_sym 0 (c.map whlL)
    rw [e3, e]
    omega
-- 
set_option maxHeartbeats 4000000 in
theorem printBack_abs (W : World) (src : By) (hl : src.length ≤ 9223372036854775807) : AFun Tryz.prog W 3 [sv src] (.val (.b true)) := by
  obtain ⟨r, hr⟩ := prF_some src
  have hp := fun w => parse_abs w 65600 src r hl hr
  refine afun_of (rs := [.b true]) Tryz.func3 Tryz.ntmps3 rfl rfl rfl rfl ?_
  intro w U hW
  have h0 := alive13_abs w
  refine aS (aR ?_)
  (refine nx (aA (gN rfl) rfl rfl rfl rfl rfl) rfl ?_)
  show AWp _ _ _ _ _ _ _
  refine aS (aS (aR ?_))
  (refine nx (a_call (gN rfl) rfl rfl rfl rfl rfl (h0)) rfl ?_)
  (refine nx (a_not (gN rfl) rfl rfl rfl rfl rfl) rfl ?_)
  show AWp _ _ _ _ _ _ _
  refine aC rfl (fun hc => by cases hc) (fun hc => aK ?_)
  show AWp _ _ _ _ _ _ _
  refine aS (aS (aR ?_))
  (refine nx (aM (gN rfl) rfl rfl rfl rfl rfl) rfl ?_)
  (refine nx (a_slen (gN rfl) rfl rfl rfl rfl rfl rfl rfl) rfl ?_)
  (refine nx (a_gtr (gN rfl) rfl rfl rfl rfl rfl rfl) rfl ?_)
  show AWp _ _ _ _ _ _ _
  refine aC rfl (fun hc => ?_) (fun hc => ?_)
  · refine aS (aR ?_)
    (refine nx (aA (gN rfl) rfl rfl rfl rfl rfl) rfl ?_)
    show AWp _ _ _ _ _ _ _
    exact aT (And.intro (.inr rfl) rfl)
  have hs : src.length ≤ 2000 := by
    have hc : decide ((src.length : Int) > 2000) = false := hc
    have := of_decide_eq_false hc
    omega
  refine aK ?_
  show AWp _ _ _ _ _ _ _
  refine aS (aR ?_)
  (refine nx (aM (gN rfl) rfl rfl rfl rfl rfl) rfl ?_)
  (refine nx (a_call (gN rfl) rfl rfl rfl rfl rfl (hp w)) rfl ?_)
  (refine nx (aM (gN rfl) rfl rfl rfl rfl rfl) rfl ?_)
  (refine nx (aX (gN rfl) rfl rfl rfl rfl rfl rfl) rfl ?_)
  (refine nx (aX (gN rfl) rfl rfl rfl rfl rfl rfl) rfl ?_)
  (refine nx (aX (gN rfl) rfl rfl rfl rfl rfl rfl) rfl ?_)
  (refine nx (a_alloc (gN rfl) rfl rfl rfl rfl rfl rfl rfl rfl rfl rfl) rfl ?_)
  (refine nx (aSt (gN rfl) rfl rfl rfl rfl rfl rfl rfl rfl rfl rfl) rfl ?_)
  (refine nx (aA (gN rfl) rfl rfl rfl rfl rfl) rfl ?_)
  (refine nx (aA (gN rfl) rfl rfl rfl rfl rfl) rfl ?_)
  show AWp _ _ _ _ _ _ _
  refine AWp.wk (wk_sub (s' := [(3, .bp 3 0 []), (100003, .bx (sgv r.1)), (4, .val (.lst (r.2.1.map lcv))), (5, .val (.sc (.int .u8 r.2.2)))]) ⟨rfl, rfl, rfl, rfl, trivial⟩) ?_
  have xr := prF_err3 hr
  by_cases he : r.2.2 = 0
  case neg =>
    obtain ⟨s, l, e⟩ := r
    simp only at he xr ⊢
    have g : decide (e ≠ 0) = true := decide_eq_true he
    refine aS (aS (aR ?_))
    (refine nx (aM (gN rfl) rfl rfl rfl rfl rfl) rfl ?_)
    (refine nx (a_conv (gN rfl) rfl rfl rfl rfl rfl rfl rfl (by first | rfl | (rw [IntKind.wrap_i64]; omega) | assumption)) rfl ?_)
    (refine nx (a_neq (gN rfl) rfl rfl rfl rfl rfl rfl) rfl ?_)
    show AWp _ _ _ _ _ _ _
    refine aC rfl (fun hc => ?_) (fun hc => by rw [g] at hc; cases hc)
    refine aS (aR ?_)
    (refine nx (aA (gN rfl) rfl rfl rfl rfl rfl) rfl ?_)
    show AWp _ _ _ _ _ _ _
    exact aT (And.intro (.inr rfl) rfl)
  have hP := prF_prs hr he
  have hG := prF_g hr
  have hL := hP.len
  have hln : (r.2.1.map lcv).length = r.2.1.length := List.length_map ..
  have hsz := lcvs_size r.2.1
  obtain ⟨s1, s2, s3⟩ := prF_sig hr
  have t1 := to12_abs w r.1
  have t2 := sameSig_abs w r.1 s1 s2 s3
  obtain ⟨hB1, hB2⟩ := prF_back hr he hs
  obtain ⟨s, l, e⟩ := r
  simp only at he hP hL hln hsz hG t1 t2 hB1 hB2 ⊢
  subst he
  clear xr
  obtain ⟨T, hT⟩ : ∃ T, T = txA s.nm l := ⟨_, rfl⟩
  have q1 := prs_all hP (by omega) w (m := l) (fun c hc => hc) hL
  have hp2 := parse_abs w 65600 (txA s.nm l) _ (by omega) hB2
  rw [← hT] at q1 hB1 hp2
  refine aS (aS (aR ?_))
  (refine nx (aM (gN rfl) rfl rfl rfl rfl rfl) rfl ?_)
  (refine nx (a_conv (gN rfl) rfl rfl rfl rfl rfl rfl rfl (by first | rfl | (rw [IntKind.wrap_i64]; omega) | assumption)) rfl ?_)
  (refine nx (a_neq (gN rfl) rfl rfl rfl rfl rfl rfl) rfl ?_)
  show AWp _ _ _ _ _ _ _
  refine aC rfl (fun hc => by cases hc) (fun hc => aK ?_)
  show AWp _ _ _ _ _ _ _
  refine aS (aR ?_)
  (refine nx (aL (gN rfl) rfl rfl rfl rfl rfl rfl rfl rfl rfl rfl rfl rfl) rfl ?_)
  (refine nx (aM (gN rfl) rfl rfl rfl rfl rfl) rfl ?_)
  (refine nx (a_call (gN rfl) rfl rfl rfl rfl rfl (q1)) rfl ?_)
  (refine nx (aA (gN rfl) rfl rfl rfl rfl rfl) rfl ?_)
  show AWp _ _ _ _ _ _ _
  refine aS (aR ?_)
  (refine nx (aM (gN rfl) rfl rfl rfl rfl rfl) rfl ?_)
  (refine nx (a_call (gN rfl) rfl rfl rfl rfl rfl (hp2)) rfl ?_)
  (refine nx (aM (gN rfl) rfl rfl rfl rfl rfl) rfl ?_)
  (refine nx (aX (gN rfl) rfl rfl rfl rfl rfl rfl) rfl ?_)
  (refine nx (aX (gN rfl) rfl rfl rfl rfl rfl rfl) rfl ?_)
  (refine nx (aX (gN rfl) rfl rfl rfl rfl rfl rfl) rfl ?_)
  (refine nx (a_alloc (gN rfl) rfl rfl rfl rfl rfl rfl rfl rfl rfl rfl) rfl ?_)
  (refine nx (aSt (gN rfl) rfl rfl rfl rfl rfl rfl rfl rfl rfl rfl) rfl ?_)
  (refine nx (aA (gN rfl) rfl rfl rfl rfl rfl) rfl ?_)
  (refine nx (aA (gN rfl) rfl rfl rfl rfl rfl) rfl ?_)
  show AWp _ _ _ _ _ _ _
  refine AWp.wk (wk_sub (s' := [(3, .bp 3 0 []), (100003, .bx (sgv s)), (4, .val (.lst (l.map lcv))), (6, .val (sv T)), (7, .bp 7 0 []), (100007, .bx (sgv s)), (8, .val (.lst (l.map lcv))), (9, .val (.sc (.int .u8 0)))]) ⟨rfl, rfl, rfl, rfl, rfl, rfl, rfl, rfl, trivial⟩) ?_
  have g2 : decide (((l.map lcv).length : Int) ≠ ((l.map lcv).length : Int)) = false := by simp
  have g3 : decide (T ≠ T) = false := by simp
  refine aS (aS (aD (by kernel_rfl) (by kernel_rfl) ?_))
  (refine nx (aM (gN rfl) rfl rfl rfl rfl rfl) rfl ?_)
  (refine nx (a_conv (gN rfl) rfl rfl rfl rfl rfl rfl rfl (by first | rfl | (rw [IntKind.wrap_i64]; omega) | assumption)) rfl ?_)
  (refine nx (a_neq (gN rfl) rfl rfl rfl rfl rfl rfl) rfl ?_)
  (refine nx (aM (gN rfl) rfl rfl rfl rfl rfl) rfl ?_)
  (refine nx (aM (gd_on rfl rfl rfl rfl (by first | rfl | assumption | (simp; done))) rfl rfl rfl rfl rfl) rfl ?_)
  (refine nx (a_len (gd_on rfl rfl rfl rfl (by first | rfl | assumption | (simp; done))) rfl rfl rfl rfl rfl rfl rfl) rfl ?_)
  (refine nx (aM (gd_on rfl rfl rfl rfl (by first | rfl | assumption | (simp; done))) rfl rfl rfl rfl rfl) rfl ?_)
  (refine nx (a_len (gd_on rfl rfl rfl rfl (by first | rfl | assumption | (simp; done))) rfl rfl rfl rfl rfl rfl rfl) rfl ?_)
  (refine nx (a_neq (gd_on rfl rfl rfl rfl (by first | rfl | assumption | (simp; done))) rfl rfl rfl rfl rfl rfl) rfl ?_)
  (refine ⟨_, _, _, aPf (gN rfl) rfl rfl rfl rfl rfl ?hb rfl, rfl, ?_⟩; case hb => (first | rfl | assumption | (simp; done)))
  (refine nx (aM (gN rfl) rfl rfl rfl rfl rfl) rfl ?_)
  (refine nx (aL (gd_on rfl rfl rfl rfl (by first | rfl | assumption | (simp; done))) rfl rfl rfl rfl rfl rfl rfl rfl rfl rfl rfl rfl) rfl ?_)
  (refine nx (a_call (gd_on rfl rfl rfl rfl (by first | rfl | assumption | (simp; done))) rfl rfl rfl rfl rfl (t1)) rfl ?_)
  (refine nx (aL (gd_on rfl rfl rfl rfl (by first | rfl | assumption | (simp; done))) rfl rfl rfl rfl rfl rfl rfl rfl rfl rfl rfl rfl) rfl ?_)
  (refine nx (a_call (gd_on rfl rfl rfl rfl (by first | rfl | assumption | (simp; done))) rfl rfl rfl rfl rfl (t1)) rfl ?_)
  (refine nx (a_call (gd_on rfl rfl rfl rfl (by first | rfl | assumption | (simp; done))) rfl rfl rfl rfl rfl (t2)) rfl ?_)
  (refine nx (a_not (gd_on rfl rfl rfl rfl (by first | rfl | assumption | (simp; done))) rfl rfl rfl rfl rfl) rfl ?_)
  (refine ⟨_, _, _, aPf (gN rfl) rfl rfl rfl rfl rfl ?hb rfl, rfl, ?_⟩; case hb => (first | rfl | assumption | (simp; done)))
  (refine nx (aM (gN rfl) rfl rfl rfl rfl rfl) rfl ?_)
  (refine nx (aL (gd_on rfl rfl rfl rfl (by first | rfl | assumption | (simp; done))) rfl rfl rfl rfl rfl rfl rfl rfl rfl rfl rfl rfl) rfl ?_)
  (refine nx (aM (gd_on rfl rfl rfl rfl (by first | rfl | assumption | (simp; done))) rfl rfl rfl rfl rfl) rfl ?_)
  (refine nx (a_call (gd_on rfl rfl rfl rfl (by first | rfl | assumption | (simp; done))) rfl rfl rfl rfl rfl (q1)) rfl ?_)
  (refine nx (aM (gd_on rfl rfl rfl rfl (by first | rfl | assumption | (simp; done))) rfl rfl rfl rfl rfl) rfl ?_)
  (refine nx (a_sneq (gd_on rfl rfl rfl rfl (by first | rfl | assumption | (simp; done))) rfl rfl rfl rfl rfl rfl rfl) rfl ?_)
  (refine ⟨_, _, _, aPf (gN rfl) rfl rfl rfl rfl rfl ?hb rfl, rfl, ?_⟩; case hb => (first | rfl | assumption | (simp; done)))
  refine ⟨by kernel_rfl, ?_⟩
  show AWp _ _ _ _ _ _ _
  refine aC rfl (fun hc => by
    have hc : (!decide (T = T)) = true := hc
    simp at hc) (fun hc => aK ?_)
  show AWp _ _ _ _ _ _ _
  refine AWp.wk (wk_sub (s' := [(4, .val (.lst (l.map lcv))), (8, .val (.lst (l.map lcv)))]) ⟨rfl, rfl, trivial⟩) ?_
  refine aS (aS (aR ?_))
  (refine nx (aA (gN rfl) rfl rfl rfl rfl rfl) rfl ?_)
  show AWp _ _ _ _ _ _ _
  refine aB (awp_count l.length (fun k => [(4, .val (.lst (l.map lcv))), (8, .val (.lst (l.map lcv))), (10, .val (.i (k : Int)))]) (wk_sub ⟨rfl, rfl, rfl, trivial⟩) ?_)
  intro k hk
  refine aS (aS (aR ?_))
  (refine nx (aM (gN rfl) rfl rfl rfl rfl rfl) rfl ?_)
  (refine nx (aM (gN rfl) rfl rfl rfl rfl rfl) rfl ?_)
  (refine nx (a_len (gN rfl) rfl rfl rfl rfl rfl rfl rfl) rfl ?_)
  (refine nx (a_lss (gN rfl) rfl rfl rfl rfl rfl rfl) rfl ?_)
  show AWp _ _ _ _ _ _ _
  refine aC rfl (fun hlt => ?_) (fun hlt => ?_)
  · have hkl : k < l.length := by
      have hlt : decide ((k : Int) < ((l.map lcv).length : Int)) = true := hlt
      rw [hln] at hlt
      simpa using hlt
    obtain ⟨x, hx⟩ : ∃ x, l[k]? = some x := ⟨l[k], List.getElem?_eq_getElem hkl⟩
    have hx' := lcv_at hx
    have hxm := List.mem_of_getElem? hx
    have gx := hG x hxm
    have hxl := (txC_len (B := src.length) hP.nms (hP.lits x hxm).1 (hP.lits x hxm).2).2
    have u1 := to11_abs w x gx.1 gx.2.1
    rw [strip_clsB (hP.lits x hxm).2] at u1
    have u2 := whole_abs w x gx.1
    obtain ⟨w1, w2, w3⟩ := whl_fit gx.2.1 gx.2.2.1 hxl gx.2.2.2
    have u3 := canon_abs w (whlT x) w1 w2 w3
    have hok2 : (appR (zipB (whlT x).nv (nums (whlT x).nv.length)) (whlT x)).ok := appR_ok w2 zip_ok
    have u4 := refSame_abs w _ _ hok2 hok2
    rw [(sameT_iff _ _).2 rfl] at u4
    refine aK ?_
    show AWp _ _ _ _ _ _ _
    refine aS (aB (aS (aD (by kernel_rfl) (by kernel_rfl) ?_)))
    (refine nx (aM (gN rfl) rfl rfl rfl rfl rfl) rfl ?_)
    (refine nx (aM (gN rfl) rfl rfl rfl rfl rfl) rfl ?_)
    (refine nx (a_index (j := k) (gN rfl) rfl rfl rfl rfl rfl rfl rfl rfl rfl (hx') rfl (hsz)) rfl ?_)
    (refine nx (a_load_ad (gN rfl) rfl rfl rfl rfl rfl rfl rfl rfl rfl) rfl ?_)
    (refine nx (a_call (gN rfl) rfl rfl rfl rfl rfl (u1)) rfl ?_)
    (refine nx (a_call (gN rfl) rfl rfl rfl rfl rfl (u2)) rfl ?_)
    (refine nx (a_call (gN rfl) rfl rfl rfl rfl rfl (u3)) rfl ?_)
    (refine nx (aM (gN rfl) rfl rfl rfl rfl rfl) rfl ?_)
    (refine nx (aM (gN rfl) rfl rfl rfl rfl rfl) rfl ?_)
    (refine nx (a_index (j := k) (gN rfl) rfl rfl rfl rfl rfl rfl rfl rfl rfl (hx') rfl (hsz)) rfl ?_)
    (refine nx (a_load_ad (gN rfl) rfl rfl rfl rfl rfl rfl rfl rfl rfl) rfl ?_)
    (refine nx (a_call (gN rfl) rfl rfl rfl rfl rfl (u1)) rfl ?_)
    (refine nx (a_call (gN rfl) rfl rfl rfl rfl rfl (u2)) rfl ?_)
    (refine nx (a_call (gN rfl) rfl rfl rfl rfl rfl (u3)) rfl ?_)
    (refine nx (a_call (gN rfl) rfl rfl rfl rfl rfl (u4)) rfl ?_)
    (refine nx (a_not (gN rfl) rfl rfl rfl rfl rfl) rfl ?_)
    refine ⟨by kernel_rfl, ?_⟩
    show AWp _ _ _ _ _ _ _
    refine aC rfl (fun hc => by cases hc) (fun hc => aK ?_)
    show AWp _ _ _ _ _ _ _
    refine aR ?_
    (refine nx (aM (gN rfl) rfl rfl rfl rfl rfl) rfl ?_)
    (refine nx (a_add (gN rfl) rfl rfl rfl rfl rfl rfl (by first | omega | (simp only [List.length_map, List.length_append, List.length_cons, List.length_nil] <;> omega) | (simp <;> omega))) rfl ?_)
    (refine nx (aA (gN rfl) rfl rfl rfl rfl rfl) rfl ?_)
    exact ⟨hkl, wk_sub ⟨rfl, rfl, rfl, trivial⟩⟩
  · refine aE ?_
    show AWp _ _ _ _ _ _ _
    refine aS (aR ?_)
    (refine nx (aA (gN rfl) rfl rfl rfl rfl rfl) rfl ?_)
    show AWp _ _ _ _ _ _ _
    exact aT (And.intro (.inr rfl) rfl)
end Go.Proofs.YtebhbnhijnpmcaaGreatDoor

