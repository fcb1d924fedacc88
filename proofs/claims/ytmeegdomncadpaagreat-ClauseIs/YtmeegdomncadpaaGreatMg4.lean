/-
  SbVnt SbRen ClMath ClLen TmAlive TmAb6 ClTaut AbFld AbMap AbFull AbArr AbRoom AbBox AbIter AbRange AbMark AbRangeV AbMapR AbMapT AbQ SbQ AbBackB SbImg SbApM
-/
import Derived.Test.YtmeegdomncadpaaGreatMg3
import Derived.Test.YtmeegdomncadpaaGreatMg2
import Derived.MapKept
import Derived.Laws.NewFold
import Derived.Maps.RangeRun
namespace Go.Proofs.YtmeegdomncadpaaGreat
open Go.RowKit
set_option linter.unusedVariables false
set_option linter.unusedSimpArgs false
set_option maxRecDepth 100000
-- 
set_option maxHeartbeats 1000000 in
theorem of7_abs (W : World) (l : List Bd) (hl : l.length ≤ 1000000) (hok : ∀ b ∈ l, b.t.ok) : AFun Tryz.prog W 23 [.lst (l.map Bd.cv)] (.val (.lst (l.map Bd.cv))) := by
  have hsz := Bd.size_all l
  refine afun_of (rs := [.lst (l.map Bd.cv)]) Tryz.func23 Tryz.ntmps23 rfl rfl rfl rfl ?_
  intro w U hW
  refine aS (aR ?_)
  (refine nx (aA (gN rfl) rfl rfl rfl rfl rfl) rfl ?_)
  show AWp _ _ _ _ _ _ _
  refine aS (aR ?_)
  (refine nx (aA (gN rfl) rfl rfl rfl rfl rfl) rfl ?_)
  show AWp _ _ _ _ _ _ _
  refine aS (aS (aR ?_))
  (refine nx (aA (gN rfl) rfl rfl rfl rfl rfl) rfl ?_)
  show AWp _ _ _ _ _ _ _
  refine aB (awp_count l.length (fun k => [(0, .val (.lst (l.map Bd.cv))), (3, .own (.lst ((l.take k).map Bd.cv)) 200025), (200025, .tok 85 3), (4, .val (.i k))])
    ((wk_nil 3 200025 85 3 rfl rfl rfl rfl rfl rfl rfl).trans (wk_sub ⟨rfl, rfl, rfl, rfl, trivial⟩)) ?_)
  intro k hk
  refine aS (aS (aR ?_))
  (refine nx (aM (gN rfl) rfl rfl rfl rfl rfl) rfl ?_)
  (refine nx (aM (gN rfl) rfl rfl rfl rfl rfl) rfl ?_)
  (refine nx (a_len (gN rfl) rfl rfl rfl rfl rfl rfl rfl) rfl ?_)
  (refine nx (a_lss (gN rfl) rfl rfl rfl rfl rfl rfl) rfl ?_)
  show AWp _ _ _ _ _ _ _
  refine aC rfl (fun hc => aK ?_) (fun hc => aE ?_)
  · have hkl : k < l.length := by
      simp only [List.length_map, decide_eq_true_eq] at hc
      omega
    clear hc
    obtain ⟨b, hb⟩ : ∃ b, l[k]? = some b := ⟨l[k], List.getElem?_eq_getElem hkl⟩
    have hb' := Bd.map_at hb
    show AWp _ _ _ _ _ _ _
    refine aS (aB (aD (by kernel_rfl) (by kernel_rfl) ?_))
    (refine nx (aM (gN rfl) rfl rfl rfl rfl rfl) rfl ?_)
    (refine nx (aM (gN rfl) rfl rfl rfl rfl rfl) rfl ?_)
    (refine nx (aM (gN rfl) rfl rfl rfl rfl rfl) rfl ?_)
    (refine nx (a_index (gN rfl) rfl rfl rfl rfl rfl rfl rfl rfl rfl (by assumption) rfl (by first | assumption | exact sZ rfl | exact Tm.size_all _ | exact Bd.size_all _ | exact ints_size _ | exact bys_size _ | exact Lt.size_all _)) rfl ?_)
    (refine nx (a_field_ad (gN rfl) rfl rfl rfl rfl rfl rfl rfl rfl rfl rfl rfl) rfl ?_)
    (refine nx (a_load_ad (gN rfl) rfl rfl rfl rfl rfl rfl rfl rfl rfl) rfl ?_)
    (refine nx (aM (gN rfl) rfl rfl rfl rfl rfl) rfl ?_)
    (refine nx (aM (gN rfl) rfl rfl rfl rfl rfl) rfl ?_)
    (refine nx (a_index (gN rfl) rfl rfl rfl rfl rfl rfl rfl rfl rfl (by assumption) rfl (by first | assumption | exact sZ rfl | exact Tm.size_all _ | exact Bd.size_all _ | exact ints_size _ | exact bys_size _ | exact Lt.size_all _)) rfl ?_)
    (refine nx (a_field_ad (gN rfl) rfl rfl rfl rfl rfl rfl rfl rfl rfl rfl rfl) rfl ?_)
    (refine nx (a_load_ad (gN rfl) rfl rfl rfl rfl rfl rfl rfl rfl rfl) rfl ?_)
    (refine nx (a_call (gN rfl) rfl rfl rfl rfl rfl (of_abs w b.t (hok b (List.mem_of_getElem? hb)))) rfl ?_)
    (refine nx (a_build (gN rfl) rfl rfl rfl rfl rfl rfl rfl rfl rfl rfl rfl) rfl ?_)
    (refine nx (a_bslice (gN rfl) rfl rfl rfl rfl rfl rfl rfl rfl rfl rfl rfl rfl rfl) rfl ?_)
    (refine nx (a_app (gN rfl) rfl rfl rfl rfl rfl rfl rfl rfl rfl rfl rfl rfl rfl rfl rfl (by first | assumption | exact sZ rfl | exact Tm.size_all _ | exact Bd.size_all _ | exact ints_size _ | exact bys_size _ | exact Lt.size_all _) (by first | assumption | exact sZ rfl | exact Tm.size_all _ | exact Bd.size_all _ | exact ints_size _ | exact bys_size _ | exact Lt.size_all _) (by first | omega | (simp only [List.length_map, List.length_append, List.length_cons, List.length_nil] <;> omega) | (simp <;> omega))) rfl ?_)
    (refine nx (aA (gN rfl) rfl rfl rfl rfl rfl) rfl ?_)
    refine ⟨by kernel_rfl, ?_⟩
    show AWp _ _ _ _ _ _ _
    refine aR ?_
    (refine nx (aM (gN rfl) rfl rfl rfl rfl rfl) rfl ?_)
    (refine nx (a_add (gN rfl) rfl rfl rfl rfl rfl rfl (by first | omega | (simp only [List.length_map, List.length_append, List.length_cons, List.length_nil] <;> omega) | (simp <;> omega))) rfl ?_)
    (refine nx (aA (gN rfl) rfl rfl rfl rfl rfl) rfl ?_)
    refine ⟨hkl, Wk.trans (wk_sub (s' := [(0, .val (.lst (l.map Bd.cv))), (3, .own (.lst ((l.take (k + 1)).map Bd.cv)) 300025), (300025, .tok 85 3), (4, .val (.i ((k + 1 : Nat) : Int)))]) ⟨rfl, ?_, rfl, rfl, trivial⟩) (wk_ren 300025 200025 rfl rfl rfl rfl)⟩
    rw [List.take_add_one, hb, List.map_append]
    rfl
  · have hkl : k = l.length := by
      simp only [List.length_map, decide_eq_false_iff_not] at hc
      omega
    subst hkl
    rw [List.take_length]
    show AWp _ _ _ _ _ _ _
    refine aS (aR ?_)
    (refine nx (aM (gN rfl) rfl rfl rfl rfl rfl) rfl ?_)
    (refine nx (aA (gN rfl) rfl rfl rfl rfl rfl) rfl ?_)
    show AWp _ _ _ _ _ _ _
    exact aT (And.intro (.inr rfl) rfl)

def fineBd (b : Bd) : Bool := decide (0 ≤ b.v) && (decide (b.v ≤ 1000) && decide (0 ≤ smallT b.t 20 10))
def fine7B (l : List Bd) : Bool := l.all fineBd && decide (l.length ≤ 8)
theorem fine7_no {l : List Bd} {b : Bd} (hb : b ∈ l) (h : fineBd b = false) : fine7B l = false := by
  unfold fine7B
  have : l.all fineBd = false := by
    rw [List.all_eq_false]
    exact ⟨b, hb, by simp [h]⟩
  rw [this]; rfl
-- 
set_option maxHeartbeats 2000000 in
theorem fine7_abs (W : World) (l : List Bd) (hl : l.length ≤ 9223372036854775807) (hr : ∀ b ∈ l, b.t.rng) : AFun Tryz.prog W 8 [.lst (l.map Bd.cv)] (.val (.b (fine7B l))) := by
  have hsz := Bd.size_all l
  refine afun_of (rs := [.b (fine7B l)]) Tryz.func8 Tryz.ntmps8 rfl rfl rfl rfl ?_
  intro w U hW
  refine aS (aR ?_)
  (refine nx (aA (gN rfl) rfl rfl rfl rfl rfl) rfl ?_)
  show AWp _ _ _ _ _ _ _
  refine aS (aS (aR ?_))
  (refine nx (aA (gN rfl) rfl rfl rfl rfl rfl) rfl ?_)
  show AWp _ _ _ _ _ _ _
  refine aB (awp_countI l.length (fun k => ∀ b ∈ l.take k, fineBd b = true) (fun k => [(0, .val (.lst (l.map Bd.cv))), (3, .val (.i k))]) (wk_sub ⟨rfl, rfl, trivial⟩) (by simp) ?_)
  intro k hk hI
  refine aS (aS (aR ?_))
  (refine nx (aM (gN rfl) rfl rfl rfl rfl rfl) rfl ?_)
  (refine nx (aM (gN rfl) rfl rfl rfl rfl rfl) rfl ?_)
  (refine nx (a_len (gN rfl) rfl rfl rfl rfl rfl rfl rfl) rfl ?_)
  (refine nx (a_lss (gN rfl) rfl rfl rfl rfl rfl rfl) rfl ?_)
  show AWp _ _ _ _ _ _ _
  refine aC rfl (fun hc => aK ?_) (fun hc => aE ?_)
  · have hkl : k < l.length := by
      simp only [List.length_map, decide_eq_true_eq] at hc
      omega
    clear hc
    obtain ⟨b, hb⟩ : ∃ b, l[k]? = some b := ⟨l[k], List.getElem?_eq_getElem hkl⟩
    have hb' := Bd.map_at hb
    have hbm := List.mem_of_getElem? hb
    have htk : l.take (k + 1) = l.take k ++ [b] := by rw [List.take_add_one, hb]; rfl
    show AWp _ _ _ _ _ _ _
    by_cases h1 : b.v < 0
    · have g1 : decide (b.v < 0) = true := by simpa using h1
      refine aS (aB (aS (aR ?_)))
      (refine nx (aM (gN rfl) rfl rfl rfl rfl rfl) rfl ?_)
      (refine nx (aM (gN rfl) rfl rfl rfl rfl rfl) rfl ?_)
      (refine nx (a_index (gN rfl) rfl rfl rfl rfl rfl rfl rfl rfl rfl (by assumption) rfl (by first | assumption | exact sZ rfl | exact Tm.size_all _ | exact Bd.size_all _ | exact ints_size _ | exact bys_size _ | exact Lt.size_all _)) rfl ?_)
      (refine nx (a_field_ad (gN rfl) rfl rfl rfl rfl rfl rfl rfl rfl rfl rfl rfl) rfl ?_)
      (refine nx (a_load_ad (gN rfl) rfl rfl rfl rfl rfl rfl rfl rfl rfl) rfl ?_)
      (refine nx (a_lss (gN rfl) rfl rfl rfl rfl rfl rfl) rfl ?_)
      (refine nx (aM (gN rfl) rfl rfl rfl rfl rfl) rfl ?_)
      (refine ⟨_, _, _, a_off (go_off rfl rfl rfl rfl (by first | rfl | assumption | (simp; done) | (simp [*]; done))) rfl rfl rfl, rfl, ?_⟩)
      (refine ⟨_, _, _, a_off (go_off rfl rfl rfl rfl (by first | rfl | assumption | (simp; done) | (simp [*]; done))) rfl rfl rfl, rfl, ?_⟩)
      (refine ⟨_, _, _, a_off (go_off rfl rfl rfl rfl (by first | rfl | assumption | (simp; done) | (simp [*]; done))) rfl rfl rfl, rfl, ?_⟩)
      (refine ⟨_, _, _, a_off (go_off rfl rfl rfl rfl (by first | rfl | assumption | (simp; done) | (simp [*]; done))) rfl rfl rfl, rfl, ?_⟩)
      (refine ⟨_, _, _, a_off (go_off rfl rfl rfl rfl (by first | rfl | assumption | (simp; done) | (simp [*]; done))) rfl rfl rfl, rfl, ?_⟩)
      (refine ⟨_, _, _, a_off (go_off rfl rfl rfl rfl (by first | rfl | assumption | (simp; done) | (simp [*]; done))) rfl rfl rfl, rfl, ?_⟩)
      (refine ⟨_, _, _, aPt (gN rfl) rfl rfl rfl rfl rfl ?hb rfl, rfl, ?_⟩; case hb => (first | rfl | assumption | (simp; done)))
      (refine nx (aM (gN rfl) rfl rfl rfl rfl rfl) rfl ?_)
      (refine ⟨_, _, _, a_off (go_off rfl rfl rfl rfl (by first | rfl | assumption | (simp; done) | (simp [*]; done))) rfl rfl rfl, rfl, ?_⟩)
      (refine ⟨_, _, _, a_off (go_off rfl rfl rfl rfl (by first | rfl | assumption | (simp; done) | (simp [*]; done))) rfl rfl rfl, rfl, ?_⟩)
      (refine ⟨_, _, _, a_off (go_off rfl rfl rfl rfl (by first | rfl | assumption | (simp; done) | (simp [*]; done))) rfl rfl rfl, rfl, ?_⟩)
      (refine ⟨_, _, _, a_off (go_off rfl rfl rfl rfl (by first | rfl | assumption | (simp; done) | (simp [*]; done))) rfl rfl rfl, rfl, ?_⟩)
      (refine ⟨_, _, _, a_off (go_off rfl rfl rfl rfl (by first | rfl | assumption | (simp; done) | (simp [*]; done))) rfl rfl rfl, rfl, ?_⟩)
      (refine ⟨_, _, _, a_off (go_off rfl rfl rfl rfl (by first | rfl | assumption | (simp; done) | (simp [*]; done))) rfl rfl rfl, rfl, ?_⟩)
      (refine ⟨_, _, _, a_off (go_off rfl rfl rfl rfl (by first | rfl | assumption | (simp; done) | (simp [*]; done))) rfl rfl rfl, rfl, ?_⟩)
      (refine ⟨_, _, _, aPt (gN rfl) rfl rfl rfl rfl rfl ?hb rfl, rfl, ?_⟩; case hb => (first | rfl | assumption | (simp; done)))
      show AWp _ _ _ _ _ _ _
      refine aC rfl (fun hc => ?_) (fun hc => by cases hc)
      rw [fine7_no hbm (by unfold fineBd; simp; omega)]
      refine aS (aR ?_)
      (refine nx (aA (gN rfl) rfl rfl rfl rfl rfl) rfl ?_)
      show AWp _ _ _ _ _ _ _
      exact aT (And.intro (.inr rfl) rfl)
    have g1 : decide (b.v < 0) = false := by simpa using h1
    by_cases h2 : b.v > 1000
    · have g2 : decide (b.v > 1000) = true := by simpa using h2
      refine aS (aB (aS (aR ?_)))
      (refine nx (aM (gN rfl) rfl rfl rfl rfl rfl) rfl ?_)
      (refine nx (aM (gN rfl) rfl rfl rfl rfl rfl) rfl ?_)
      (refine nx (a_index (gN rfl) rfl rfl rfl rfl rfl rfl rfl rfl rfl (by assumption) rfl (by first | assumption | exact sZ rfl | exact Tm.size_all _ | exact Bd.size_all _ | exact ints_size _ | exact bys_size _ | exact Lt.size_all _)) rfl ?_)
      (refine nx (a_field_ad (gN rfl) rfl rfl rfl rfl rfl rfl rfl rfl rfl rfl rfl) rfl ?_)
      (refine nx (a_load_ad (gN rfl) rfl rfl rfl rfl rfl rfl rfl rfl rfl) rfl ?_)
      (refine nx (a_lss (gN rfl) rfl rfl rfl rfl rfl rfl) rfl ?_)
      (refine nx (aM (gN rfl) rfl rfl rfl rfl rfl) rfl ?_)
      (refine nx (aM (gd_on rfl rfl rfl rfl (by first | rfl | assumption | (simp; done))) rfl rfl rfl rfl rfl) rfl ?_)
      (refine nx (aM (gd_on rfl rfl rfl rfl (by first | rfl | assumption | (simp; done))) rfl rfl rfl rfl rfl) rfl ?_)
      (refine nx (a_index (gd_on rfl rfl rfl rfl (by first | rfl | assumption | (simp; done))) rfl rfl rfl rfl rfl rfl rfl rfl rfl (by assumption) rfl (by first | assumption | exact sZ rfl | exact Tm.size_all _ | exact Bd.size_all _ | exact ints_size _ | exact bys_size _ | exact Lt.size_all _)) rfl ?_)
      (refine nx (a_field_ad (gd_on rfl rfl rfl rfl (by first | rfl | assumption | (simp; done))) rfl rfl rfl rfl rfl rfl rfl rfl rfl rfl rfl) rfl ?_)
      (refine nx (a_load_ad (gd_on rfl rfl rfl rfl (by first | rfl | assumption | (simp; done))) rfl rfl rfl rfl rfl rfl rfl rfl rfl) rfl ?_)
      (refine nx (a_gtr (gd_on rfl rfl rfl rfl (by first | rfl | assumption | (simp; done))) rfl rfl rfl rfl rfl rfl) rfl ?_)
      (refine ⟨_, _, _, aPf (gN rfl) rfl rfl rfl rfl rfl ?hb rfl, rfl, ?_⟩; case hb => (first | rfl | assumption | (simp; done)))
      (refine nx (aM (gN rfl) rfl rfl rfl rfl rfl) rfl ?_)
      (refine ⟨_, _, _, a_off (go_off rfl rfl rfl rfl (by first | rfl | assumption | (simp; done) | (simp [*]; done))) rfl rfl rfl, rfl, ?_⟩)
      (refine ⟨_, _, _, a_off (go_off rfl rfl rfl rfl (by first | rfl | assumption | (simp; done) | (simp [*]; done))) rfl rfl rfl, rfl, ?_⟩)
      (refine ⟨_, _, _, a_off (go_off rfl rfl rfl rfl (by first | rfl | assumption | (simp; done) | (simp [*]; done))) rfl rfl rfl, rfl, ?_⟩)
      (refine ⟨_, _, _, a_off (go_off rfl rfl rfl rfl (by first | rfl | assumption | (simp; done) | (simp [*]; done))) rfl rfl rfl, rfl, ?_⟩)
      (refine ⟨_, _, _, a_off (go_off rfl rfl rfl rfl (by first | rfl | assumption | (simp; done) | (simp [*]; done))) rfl rfl rfl, rfl, ?_⟩)
      (refine ⟨_, _, _, a_off (go_off rfl rfl rfl rfl (by first | rfl | assumption | (simp; done) | (simp [*]; done))) rfl rfl rfl, rfl, ?_⟩)
      (refine ⟨_, _, _, a_off (go_off rfl rfl rfl rfl (by first | rfl | assumption | (simp; done) | (simp [*]; done))) rfl rfl rfl, rfl, ?_⟩)
      (refine ⟨_, _, _, aPt (gN rfl) rfl rfl rfl rfl rfl ?hb rfl, rfl, ?_⟩; case hb => (first | rfl | assumption | (simp; done)))
      show AWp _ _ _ _ _ _ _
      refine aC rfl (fun hc => ?_) (fun hc => by cases hc)
      rw [fine7_no hbm (by unfold fineBd; simp; omega)]
      refine aS (aR ?_)
      (refine nx (aA (gN rfl) rfl rfl rfl rfl rfl) rfl ?_)
      show AWp _ _ _ _ _ _ _
      exact aT (And.intro (.inr rfl) rfl)
    have g2 : decide (b.v > 1000) = false := by simpa using h2
    refine aS (aB (aS (aR ?_)))
    (refine nx (aM (gN rfl) rfl rfl rfl rfl rfl) rfl ?_)
    (refine nx (aM (gN rfl) rfl rfl rfl rfl rfl) rfl ?_)
    (refine nx (a_index (gN rfl) rfl rfl rfl rfl rfl rfl rfl rfl rfl (by assumption) rfl (by first | assumption | exact sZ rfl | exact Tm.size_all _ | exact Bd.size_all _ | exact ints_size _ | exact bys_size _ | exact Lt.size_all _)) rfl ?_)
    (refine nx (a_field_ad (gN rfl) rfl rfl rfl rfl rfl rfl rfl rfl rfl rfl rfl) rfl ?_)
    (refine nx (a_load_ad (gN rfl) rfl rfl rfl rfl rfl rfl rfl rfl rfl) rfl ?_)
    (refine nx (a_lss (gN rfl) rfl rfl rfl rfl rfl rfl) rfl ?_)
    (refine nx (aM (gN rfl) rfl rfl rfl rfl rfl) rfl ?_)
    (refine nx (aM (gd_on rfl rfl rfl rfl (by first | rfl | assumption | (simp; done))) rfl rfl rfl rfl rfl) rfl ?_)
    (refine nx (aM (gd_on rfl rfl rfl rfl (by first | rfl | assumption | (simp; done))) rfl rfl rfl rfl rfl) rfl ?_)
    (refine nx (a_index (gd_on rfl rfl rfl rfl (by first | rfl | assumption | (simp; done))) rfl rfl rfl rfl rfl rfl rfl rfl rfl (by assumption) rfl (by first | assumption | exact sZ rfl | exact Tm.size_all _ | exact Bd.size_all _ | exact ints_size _ | exact bys_size _ | exact Lt.size_all _)) rfl ?_)
    (refine nx (a_field_ad (gd_on rfl rfl rfl rfl (by first | rfl | assumption | (simp; done))) rfl rfl rfl rfl rfl rfl rfl rfl rfl rfl rfl) rfl ?_)
    (refine nx (a_load_ad (gd_on rfl rfl rfl rfl (by first | rfl | assumption | (simp; done))) rfl rfl rfl rfl rfl rfl rfl rfl rfl) rfl ?_)
    (refine nx (a_gtr (gd_on rfl rfl rfl rfl (by first | rfl | assumption | (simp; done))) rfl rfl rfl rfl rfl rfl) rfl ?_)
    (refine ⟨_, _, _, aPf (gN rfl) rfl rfl rfl rfl rfl ?hb rfl, rfl, ?_⟩; case hb => (first | rfl | assumption | (simp; done)))
    (refine nx (aM (gN rfl) rfl rfl rfl rfl rfl) rfl ?_)
    (refine nx (aM (gd_on rfl rfl rfl rfl (by first | rfl | assumption | (simp; done))) rfl rfl rfl rfl rfl) rfl ?_)
    (refine nx (aM (gd_on rfl rfl rfl rfl (by first | rfl | assumption | (simp; done))) rfl rfl rfl rfl rfl) rfl ?_)
    (refine nx (a_index (gd_on rfl rfl rfl rfl (by first | rfl | assumption | (simp; done))) rfl rfl rfl rfl rfl rfl rfl rfl rfl (by assumption) rfl (by first | assumption | exact sZ rfl | exact Tm.size_all _ | exact Bd.size_all _ | exact ints_size _ | exact bys_size _ | exact Lt.size_all _)) rfl ?_)
    (refine nx (a_field_ad (gd_on rfl rfl rfl rfl (by first | rfl | assumption | (simp; done))) rfl rfl rfl rfl rfl rfl rfl rfl rfl rfl rfl) rfl ?_)
    (refine nx (a_load_ad (gd_on rfl rfl rfl rfl (by first | rfl | assumption | (simp; done))) rfl rfl rfl rfl rfl rfl rfl rfl rfl) rfl ?_)
    (refine nx (a_call (gd_on rfl rfl rfl rfl (by first | rfl | assumption | (simp; done))) rfl rfl rfl rfl rfl (small_abs w b.t 20 10 (hr b hbm) (by decide) (by decide) (by decide) (by decide))) rfl ?_)
    (refine nx (a_lss (gd_on rfl rfl rfl rfl (by first | rfl | assumption | (simp; done))) rfl rfl rfl rfl rfl rfl) rfl ?_)
    (refine ⟨_, _, _, aPf (gN rfl) rfl rfl rfl rfl rfl ?hb rfl, rfl, ?_⟩; case hb => (first | rfl | assumption | (simp; done)))
    show AWp _ _ _ _ _ _ _
    refine aC rfl (fun hc => ?_) (fun hc => aK ?_)
    · have h3 : smallT b.t 20 10 < 0 := by simpa using hc
      rw [fine7_no hbm (by unfold fineBd; simp; omega)]
      refine aS (aR ?_)
      (refine nx (aA (gN rfl) rfl rfl rfl rfl rfl) rfl ?_)
      show AWp _ _ _ _ _ _ _
      exact aT (And.intro (.inr rfl) rfl)
    have h3 : ¬ smallT b.t 20 10 < 0 := by simpa using hc
    show AWp _ _ _ _ _ _ _
    refine aR ?_
    (refine nx (aM (gN rfl) rfl rfl rfl rfl rfl) rfl ?_)
    (refine nx (a_add (gN rfl) rfl rfl rfl rfl rfl rfl (by first | omega | (simp only [List.length_map, List.length_append, List.length_cons, List.length_nil] <;> omega) | (simp <;> omega))) rfl ?_)
    (refine nx (aA (gN rfl) rfl rfl rfl rfl rfl) rfl ?_)
    refine ⟨hkl, fun x hx => ?_, wk_sub ⟨rfl, rfl, trivial⟩⟩
    rw [htk] at hx
    rcases List.mem_append.1 hx with hx | hx
    · exact hI x hx
    · rw [List.mem_singleton.1 hx]
      unfold fineBd
      simp
      omega
  · have hkl : k = l.length := by
      simp only [List.length_map, decide_eq_false_iff_not] at hc
      omega
    subst hkl
    rw [List.take_length] at hI
    have e : fine7B l = decide (l.length ≤ 8) := by
      unfold fine7B
      rw [List.all_eq_true.2 hI]; rfl
    rw [e]
    show AWp _ _ _ _ _ _ _
    refine aS (aR ?_)
    (refine nx (aM (gN rfl) rfl rfl rfl rfl rfl) rfl ?_)
    (refine nx (a_len (gN rfl) rfl rfl rfl rfl rfl rfl rfl) rfl ?_)
    (refine nx (a_leq (gN rfl) rfl rfl rfl rfl rfl rfl) rfl ?_)
    (refine nx (aA (gN rfl) rfl rfl rfl rfl rfl) rfl ?_)
    show AWp _ _ _ _ _ _ _
    refine aT (And.intro (.inr rfl) ?_)
    have e2 : decide (((l.map Bd.cv).length : Int) ≤ 8) = decide (l.length ≤ 8) := by
      rw [List.length_map, decide_eq_decide]; omega
    exact congrArg (fun x => some [CV.b x]) e2

def appR (l : List Bd) : Tm → Tm
  | ⟨f, ts⟩ => if f < 0 then imgB l (-1 - f) else ⟨f, ts.map (appR l)⟩
theorem appR_var {l : List Bd} {t : Tm} (h : t.f < 0) : appR l t = imgB l (-1 - t.f) := by cases t; rw [appR, if_pos h]
theorem appR_sym {l : List Bd} {t : Tm} (h : ¬ t.f < 0) : appR l t = ⟨t.f, t.l.map (appR l)⟩ := by cases t; rw [appR, if_neg h]
theorem appR_strip (l : List Bd) (t : Tm) : (appR l t).strip = (repT (imgB l) t).strip := by
  induction t using Tm.indp with
  | h t ih =>
    by_cases h : t.f < 0
    · rw [appR_var h, repT_var h, Tm.strip_strip]
    · rw [appR_sym h, repT_sym h, Tm.strip_eq, Tm.strip_eq, Tm.ps_of_sym (t := ⟨t.f, _⟩) (by show 0 ≤ t.f; omega), Tm.ps_of_sym (t := ⟨t.f, _⟩) (by show 0 ≤ t.f; omega)]
      rw [Tm.ps_of_sym (by omega)] at ih
      simp only [List.map_map]
      congr 1
      exact List.map_congr_left fun s hs => ih s hs
theorem appR_ok {l : List Bd} {t : Tm} (h : t.ok) (hi : ∀ b ∈ l, b.t.ok) : (appR l t).ok := by
  induction t using Tm.ind with
  | h f ts ih =>
    obtain ⟨h1, h2⟩ := (Tm.ok_iff _).1 h
    simp only at h1 h2
    by_cases hf : f < 0
    · rw [appR_var hf]; exact imgB_ok2 hi _
    · rw [appR_sym hf]
      refine (Tm.ok_iff _).2 ⟨by simpa using h1, fun s hs => ?_⟩
      obtain ⟨u, hu, rfl⟩ := List.mem_map.1 hs
      exact ih u hu (h2 u hu)
-- 
set_option maxHeartbeats 2000000 in
theorem refApply_abs (W : World) (l : List Bd) (hl : l.length ≤ 1000000) : ∀ (t : Tm), t.rng → t.ok → AFun Tryz.prog W 50 [.lst (l.map Bd.cv), t.cw] (.val (appR l t).cw) := by
  have hsz := Bd.size_all l
  intro t
  induction t using Tm.ind with
  | h f ts ih =>
  intro hr hok
  obtain ⟨hlt, hok⟩ := (Tm.ok_iff _).1 hok
  have hr := (Tm.rng_iff _).1 hr
  simp only at hlt hok hr
  have hszt := Tm.size_all ts
  refine afun_of (rs := [(appR l ⟨f, ts⟩).cw]) Tryz.func50 Tryz.ntmps50 rfl rfl rfl rfl ?_
  intro w U hW
  refine aS (aR ?_)
  (refine nx (a_box (gN rfl) rfl rfl rfl rfl rfl) rfl ?_)
  (refine nx (a_alloc (gN rfl) rfl rfl rfl rfl rfl rfl rfl rfl rfl rfl) rfl ?_)
  show AWp _ _ _ _ _ _ _
  refine aS (aS (aR ?_))
  (refine nx (aF (gN rfl) rfl rfl rfl rfl rfl rfl rfl rfl rfl) rfl ?_)
  (refine nx (aLb (gN rfl) rfl rfl rfl rfl rfl rfl rfl rfl rfl rfl rfl rfl) rfl ?_)
  (refine nx (a_lss (gN rfl) rfl rfl rfl rfl rfl rfl) rfl ?_)
  show AWp _ _ _ _ _ _ _
  refine aC rfl (fun hc => ?_) (fun hc => aK ?_)
  · have hf : f < 0 := by simpa using hc
    rw [appR_var hf]
    refine aS (aS (aR ?_))
    (refine nx (aA (gN rfl) rfl rfl rfl rfl rfl) rfl ?_)
    show AWp _ _ _ _ _ _ _
    refine aB (awp_countI l.length (fun k => ∀ i c, i < k → l[i]? = some c → c.v ≠ -1 - f) (fun k => [(0, .val (.lst (l.map Bd.cv))), (3, .bp 3 0 []), (100003, .bx (Tm.cw ⟨f, ts⟩)), (4, .bp 4 0 []), (100004, ⟨5, .row [.i 0, .lst []], 1, 0, [1]⟩), (5, .val (.i k))]) (wk_sub ⟨rfl, rfl, rfl, rfl, rfl, rfl, trivial⟩) (by omega) ?_)
    intro k hk hI
    refine aS (aS (aR ?_))
    (refine nx (aM (gN rfl) rfl rfl rfl rfl rfl) rfl ?_)
    (refine nx (aM (gN rfl) rfl rfl rfl rfl rfl) rfl ?_)
    (refine nx (a_len (gN rfl) rfl rfl rfl rfl rfl rfl rfl) rfl ?_)
    (refine nx (a_lss (gN rfl) rfl rfl rfl rfl rfl rfl) rfl ?_)
    show AWp _ _ _ _ _ _ _
    refine aC rfl (fun hc => aK ?_) (fun hc => aE ?_)
    · have hkl : k < l.length := by
        simp only [List.length_map, decide_eq_true_eq] at hc
        omega
      clear hc
      obtain ⟨b, hb⟩ : ∃ b, l[k]? = some b := ⟨l[k], List.getElem?_eq_getElem hkl⟩
      have hb' := Bd.map_at hb
      show AWp _ _ _ _ _ _ _
      refine aS (aB (aS (aD (by kernel_rfl) (by kernel_rfl) ?_)))
      (refine nx (aM (gN rfl) rfl rfl rfl rfl rfl) rfl ?_)
      (refine nx (aM (gN rfl) rfl rfl rfl rfl rfl) rfl ?_)
      (refine nx (a_index (gN rfl) rfl rfl rfl rfl rfl rfl rfl rfl rfl (by assumption) rfl (by first | assumption | exact sZ rfl | exact Tm.size_all _ | exact Bd.size_all _ | exact ints_size _ | exact bys_size _ | exact Lt.size_all _)) rfl ?_)
      (refine nx (a_field_ad (gN rfl) rfl rfl rfl rfl rfl rfl rfl rfl rfl rfl rfl) rfl ?_)
      (refine nx (a_load_ad (gN rfl) rfl rfl rfl rfl rfl rfl rfl rfl rfl) rfl ?_)
      (refine nx (aF (gN rfl) rfl rfl rfl rfl rfl rfl rfl rfl rfl) rfl ?_)
      (refine nx (aLb (gN rfl) rfl rfl rfl rfl rfl rfl rfl rfl rfl rfl rfl rfl) rfl ?_)
      (refine nx (a_sub (gN rfl) rfl rfl rfl rfl rfl rfl (by first | omega | (simp only [List.length_map, List.length_append, List.length_cons, List.length_nil] <;> omega) | (simp <;> omega))) rfl ?_)
      (refine nx (a_eql (gN rfl) rfl rfl rfl rfl rfl rfl) rfl ?_)
      refine ⟨by kernel_rfl, ?_⟩
      show AWp _ _ _ _ _ _ _
      refine aC rfl (fun hc => ?_) (fun hc => aK ?_)
      · have hv : b.v = -1 - f := by simpa using hc
        have e : imgB l (-1 - f) = b.t := by unfold imgB; rw [findB_at hb hv hI]; rfl
        rw [e]
        refine aS (aR ?_)
        (refine nx (aM (gN rfl) rfl rfl rfl rfl rfl) rfl ?_)
        (refine nx (aM (gN rfl) rfl rfl rfl rfl rfl) rfl ?_)
        (refine nx (a_index (gN rfl) rfl rfl rfl rfl rfl rfl rfl rfl rfl (by assumption) rfl (by first | assumption | exact sZ rfl | exact Tm.size_all _ | exact Bd.size_all _ | exact ints_size _ | exact bys_size _ | exact Lt.size_all _)) rfl ?_)
        (refine nx (a_field_ad (gN rfl) rfl rfl rfl rfl rfl rfl rfl rfl rfl rfl rfl) rfl ?_)
        (refine nx (a_load_ad (gN rfl) rfl rfl rfl rfl rfl rfl rfl rfl rfl) rfl ?_)
        (refine nx (aSt (gN rfl) rfl rfl rfl rfl rfl rfl rfl rfl rfl rfl) rfl ?_)
        show AWp _ _ _ _ _ _ _
        exact aT (And.intro (.inr rfl) rfl)
      have hv : ¬ b.v = -1 - f := by simpa using hc
      clear hc
      show AWp _ _ _ _ _ _ _
      refine aR ?_
      (refine nx (aM (gN rfl) rfl rfl rfl rfl rfl) rfl ?_)
      (refine nx (a_add (gN rfl) rfl rfl rfl rfl rfl rfl (by first | omega | (simp only [List.length_map, List.length_append, List.length_cons, List.length_nil] <;> omega) | (simp <;> omega))) rfl ?_)
      (refine nx (aA (gN rfl) rfl rfl rfl rfl rfl) rfl ?_)
      refine ⟨hkl, fun i c hi hcc => ?_, wk_sub ⟨rfl, rfl, rfl, rfl, rfl, rfl, trivial⟩⟩
      rcases Nat.lt_or_ge i k with h | h
      · exact hI i c h hcc
      · obtain rfl : i = k := by omega
        rw [hb] at hcc
        cases hcc
        exact hv
    · have hkl : k = l.length := by
        simp only [List.length_map, decide_eq_false_iff_not] at hc
        omega
      have e : imgB l (-1 - f) = ⟨f, []⟩ := by
        unfold imgB
        rw [findB_none fun b hb => by
          obtain ⟨i, hi, he⟩ := List.mem_iff_getElem.1 hb
          exact hI i b (by omega) (by rw [List.getElem?_eq_getElem hi, he])]
        show varT (-1 - f) = _
        unfold varT
        rw [show -1 - (-1 - f) = f by omega]
      rw [e]
      show AWp _ _ _ _ _ _ _
      refine aS (aR ?_)
      (refine nx (aF (gN rfl) rfl rfl rfl rfl rfl rfl rfl rfl rfl) rfl ?_)
      (refine nx (aLb (gN rfl) rfl rfl rfl rfl rfl rfl rfl rfl rfl rfl rfl rfl) rfl ?_)
      (refine nx (a_build (gN rfl) rfl rfl rfl rfl rfl rfl rfl rfl rfl rfl rfl) rfl ?_)
      (refine nx (aSt (gN rfl) rfl rfl rfl rfl rfl rfl rfl rfl rfl rfl) rfl ?_)
      show AWp _ _ _ _ _ _ _
      exact aT (And.intro (.inr rfl) rfl)
  have hf : ¬ f < 0 := by simpa using hc
  clear hc
  rw [appR_sym hf]
  show AWp _ _ _ _ _ _ _
  refine aS (aR ?_)
  (refine nx (aF (gN rfl) rfl rfl rfl rfl rfl rfl rfl rfl rfl) rfl ?_)
  (refine nx (aLb (gN rfl) rfl rfl rfl rfl rfl rfl rfl rfl rfl rfl rfl rfl) rfl ?_)
  (refine nx (a_build (gN rfl) rfl rfl rfl rfl rfl rfl rfl rfl rfl rfl rfl) rfl ?_)
  (refine nx (a_alloc (gN rfl) rfl rfl rfl rfl rfl rfl rfl rfl rfl rfl) rfl ?_)
  (refine nx (aSt (gN rfl) rfl rfl rfl rfl rfl rfl rfl rfl rfl rfl) rfl ?_)
  show AWp _ _ _ _ _ _ _
  refine aS (aS (aR ?_))
  (refine nx (aA (gN rfl) rfl rfl rfl rfl rfl) rfl ?_)
  show AWp _ _ _ _ _ _ _
  refine aB (awp_count ts.length (fun k => [(0, .val (.lst (l.map Bd.cv))), (3, .bp 3 0 []), (100003, .bx (Tm.cw ⟨f, ts⟩)), (4, .bp 4 0 []), (100004, ⟨5, .row [.i 0, .lst []], 1, 0, [1]⟩), (6, .bp 6 0 []), (100006, ⟨5, .row [.i f, .lst (((ts.take k).map (appR l)).map Tm.cv)], 200054, 0, [1]⟩), (200054, .tok 33 2), (7, .val (.i k))])
    ((wk_nil 100006 200054 33 2 rfl rfl rfl rfl rfl rfl rfl).trans (wk_sub ⟨rfl, rfl, rfl, rfl, rfl, rfl, rfl, rfl, rfl, trivial⟩)) ?_)
  intro k hk
  refine aS (aS (aR ?_))
  (refine nx (aM (gN rfl) rfl rfl rfl rfl rfl) rfl ?_)
  (refine nx (aF (gN rfl) rfl rfl rfl rfl rfl rfl rfl rfl rfl) rfl ?_)
  (refine nx (aLb (gN rfl) rfl rfl rfl rfl rfl rfl rfl rfl rfl rfl rfl rfl) rfl ?_)
  (refine nx (a_len (gN rfl) rfl rfl rfl rfl rfl rfl rfl) rfl ?_)
  (refine nx (a_lss (gN rfl) rfl rfl rfl rfl rfl rfl) rfl ?_)
  show AWp _ _ _ _ _ _ _
  refine aC rfl (fun hc => aK ?_) (fun hc => aE ?_)
  · have hkl : k < ts.length := by
      simp only [List.length_map, decide_eq_true_eq] at hc
      omega
    clear hc
    obtain ⟨t, ht⟩ : ∃ t, ts[k]? = some t := ⟨ts[k], List.getElem?_eq_getElem hkl⟩
    have ht' := Tm.map_at ht
    have htm := List.mem_of_getElem? ht
    show AWp _ _ _ _ _ _ _
    refine aS (aB (aD (by kernel_rfl) (by kernel_rfl) ?_))
    (refine nx (aF (gN rfl) rfl rfl rfl rfl rfl rfl rfl rfl rfl) rfl ?_)
    (refine nx (a_load_tok (gN rfl) rfl rfl rfl rfl rfl rfl rfl rfl rfl rfl rfl rfl rfl) rfl ?_)
    (refine nx (aM (gN rfl) rfl rfl rfl rfl rfl) rfl ?_)
    (refine nx (aF (gN rfl) rfl rfl rfl rfl rfl rfl rfl rfl rfl) rfl ?_)
    (refine nx (aLb (gN rfl) rfl rfl rfl rfl rfl rfl rfl rfl rfl rfl rfl rfl) rfl ?_)
    (refine nx (aM (gN rfl) rfl rfl rfl rfl rfl) rfl ?_)
    (refine nx (a_index (gN rfl) rfl rfl rfl rfl rfl rfl rfl rfl rfl (by assumption) rfl (by first | assumption | exact sZ rfl | exact Tm.size_all _ | exact Bd.size_all _ | exact ints_size _ | exact bys_size _ | exact Lt.size_all _)) rfl ?_)
    (refine nx (a_load_ad (gN rfl) rfl rfl rfl rfl rfl rfl rfl rfl rfl) rfl ?_)
    (refine nx (a_call (gN rfl) rfl rfl rfl rfl rfl ((ih t htm (hr.2 t htm) (hok t htm)).up hW)) rfl ?_)
    (refine nx (a_bslice (gN rfl) rfl rfl rfl rfl rfl rfl rfl rfl rfl rfl rfl rfl rfl) rfl ?_)
    (refine nx (a_app (gN rfl) rfl rfl rfl rfl rfl rfl rfl rfl rfl rfl rfl rfl rfl rfl rfl (by first | assumption | exact sZ rfl | exact Tm.size_all _ | exact Bd.size_all _ | exact ints_size _ | exact bys_size _ | exact Lt.size_all _) (by first | assumption | exact sZ rfl | exact Tm.size_all _ | exact Bd.size_all _ | exact ints_size _ | exact bys_size _ | exact Lt.size_all _) (by first | omega | (simp only [List.length_map, List.length_append, List.length_cons, List.length_nil] <;> omega) | (simp <;> omega))) rfl ?_)
    (refine nx (aF (gN rfl) rfl rfl rfl rfl rfl rfl rfl rfl rfl) rfl ?_)
    (refine nx (a_store (gN rfl) rfl rfl rfl rfl rfl rfl rfl rfl rfl rfl) rfl ?_)
    refine ⟨by kernel_rfl, ?_⟩
    show AWp _ _ _ _ _ _ _
    refine aR ?_
    (refine nx (aM (gN rfl) rfl rfl rfl rfl rfl) rfl ?_)
    (refine nx (a_add (gN rfl) rfl rfl rfl rfl rfl rfl (by first | omega | (simp only [List.length_map, List.length_append, List.length_cons, List.length_nil] <;> omega) | (simp <;> omega))) rfl ?_)
    (refine nx (aA (gN rfl) rfl rfl rfl rfl rfl) rfl ?_)
    refine ⟨hkl, Wk.trans (wk_sub (s' := [(0, .val (.lst (l.map Bd.cv))), (3, .bp 3 0 []), (100003, .bx (Tm.cw ⟨f, ts⟩)), (4, .bp 4 0 []), (100004, ⟨5, .row [.i 0, .lst []], 1, 0, [1]⟩), (6, .bp 6 0 []), (100006, ⟨5, .row [.i f, .lst (((ts.take (k + 1)).map (appR l)).map Tm.cv)], 300054, 0, [1]⟩), (300054, .tok 33 2), (7, .val (.i ((k + 1 : Nat) : Int)))]) ⟨rfl, rfl, rfl, rfl, rfl, rfl, ?_, rfl, rfl, trivial⟩) (wk_ren 300054 200054 rfl rfl rfl rfl)⟩
    rw [List.take_add_one, ht, List.map_append, List.map_append]
    simp only [Option.toList_some, List.map_cons, List.map_nil, Tm.cv_eq]
    rfl
  · have hkl : k = ts.length := by
      simp only [List.length_map, decide_eq_false_iff_not] at hc
      omega
    subst hkl
    rw [List.take_length]
    show AWp _ _ _ _ _ _ _
    refine aS (aR ?_)
    (refine nx (aL (gN rfl) rfl rfl rfl rfl rfl rfl rfl rfl rfl rfl rfl rfl) rfl ?_)
    (refine nx (aSt (gN rfl) rfl rfl rfl rfl rfl rfl rfl rfl rfl rfl) rfl ?_)
    show AWp _ _ _ _ _ _ _
    exact aT (And.intro (.inr rfl) rfl)
end Go.Proofs.YtmeegdomncadpaaGreat
namespace Go.Proofs.YtmeegdomncadpaaGreat
set_option linter.unusedVariables false
set_option linter.unusedSimpArgs false
theorem rep_congr {f g : Int → Tm} {t : Tm} (h : ∀ v ∈ t.vs, f v = g v) : repT f t = repT g t := by
  induction t using Tm.indp with
  | h t ih =>
    by_cases hf : t.f < 0
    · rw [Tm.vs_var hf] at h
      rw [repT_var hf, repT_var hf, h _ (by simp)]
    · rw [Tm.vs_sym hf] at h
      rw [Tm.ps_of_sym (by omega)] at ih
      rw [repT_sym hf, repT_sym hf]
      congr 1
      exact List.map_congr_left fun s hs => ih s hs fun v hv => h v (List.mem_flatMap.2 ⟨s, hs, hv⟩)
def ixOf : List Int → Int → Nat
  | [], _ => 0
  | x :: l, v => if x = v then 0 else ixOf l v + 1
theorem ixOf_lt : ∀ {l : List Int} {v : Int}, v ∈ l → ixOf l v < l.length
  | x :: l, v, h => by
    rw [ixOf]
    split
    · simp
    · rename_i e
      have := ixOf_lt (l := l) (v := v) ((List.mem_cons.1 h).resolve_left fun c => e c.symm)
      simp; omega
theorem ixOf_at : ∀ {l : List Int} {v : Int}, v ∈ l → l[ixOf l v]? = some v
  | x :: l, v, h => by
    rw [ixOf]
    split
    · rename_i e; simp [e]
    · rename_i e
      rw [List.getElem?_cons_succ]
      exact ixOf_at ((List.mem_cons.1 h).resolve_left fun c => e c.symm)
def zipB (a b : List Int) : List Bd := List.zipWith (fun v u => ⟨v, varT u⟩) a b
def nums (n : Nat) : List Int := (List.range n).map fun i : Nat => (i : Int)
theorem nums_at {n i : Nat} (h : i < n) : (nums n)[i]? = some (i : Int) := by
  unfold nums
  rw [List.getElem?_map, List.getElem?_range h]; rfl
theorem nums_len (n : Nat) : (nums n).length = n := by simp [nums]
theorem img_zip : ∀ {a b : List Int} {v : Int}, a.length = b.length → v ∈ a → imgB (zipB a b) v = varT (b.getD (ixOf a v) 0)
  | x :: a, y :: b, v, hl, h => by
    show ((findB (⟨x, varT y⟩ :: zipB a b) v).getD (varT v)) = _
    rw [findB, ixOf]
    split
    · rfl
    · rename_i e
      have := img_zip (a := a) (b := b) (v := v) (by simpa using hl) ((List.mem_cons.1 h).resolve_left fun c => e c.symm)
      rw [List.getD_cons_succ]
      exact this
theorem getD_of {l : List Int} {i : Nat} {v : Int} (h : l[i]? = some v) : l.getD i 0 = v := by rw [List.getD_eq_getElem?_getD, h]; rfl
def Tm.nv (t : Tm) : List Int := nub t.vs
theorem nv_vars (t : Tm) : varsF t.flat = t.nv := varsF_nub _
def canT (t : Tm) : Tm := repT (imgB (zipB t.nv (nums t.nv.length))) t
def vntB (a b : Tm) : Bool := decide (a.nv.length = b.nv.length) && sameT (repT (imgB (zipB a.nv b.nv)) a) b
end Go.Proofs.YtmeegdomncadpaaGreat
namespace Go.Proofs.YtmeegdomncadpaaGreat
open Go.RowKit
set_option linter.unusedVariables false
structure Lt where
  neg : Bool
  a : Tm
  b : Tm
noncomputable abbrev Lt.cw (l : Lt) : CV := .row [.b l.neg, l.a.cw, l.b.cw]
noncomputable def Lt.cv (l : Lt) : CV := l.cw
theorem Lt.size_all (c : List Lt) : ∀ x ∈ c.map Lt.cv, x.size = 5 := by
  intro x hx
  obtain ⟨l, _, rfl⟩ := List.mem_map.1 hx
  rfl
theorem Lt.map_at {c : List Lt} {i : Nat} {l : Lt} (h : c[i]? = some l) : (c.map Lt.cv)[i]? = some l.cw := by rw [List.getElem?_map, h]; rfl
def Lt.strip (l : Lt) : Lt := ⟨l.neg, l.a.strip, l.b.strip⟩
def Lt.rng (l : Lt) : Prop := l.a.rng ∧ l.b.rng
def Lt.ok (l : Lt) : Prop := l.a.ok ∧ l.b.ok
end Go.Proofs.YtmeegdomncadpaaGreat
namespace Go.Proofs.YtmeegdomncadpaaGreat
open Go.RowKit
set_option linter.unusedVariables false
set_option linter.unusedSimpArgs false
set_option maxRecDepth 100000
def len8 (n : Nat) : Int := if n = 0 then 0 else if n = 1 then 1 else if n < 4 then 2 else if n < 8 then 3 else 4
set_option maxHeartbeats 4000000 in
theorem len64_any (n : Nat) (h : n ≤ 12) (w : World) : Calls Tryz.prog 120 #[.int .u64 (n : Int)] w fun e w' => e = .returned (.int .i64 (len8 n)) ∧ w' = w := by
  have hn : n = 0 ∨ n = 1 ∨ n = 2 ∨ n = 3 ∨ n = 4 ∨ n = 5 ∨ n = 6 ∨ n = 7 ∨ n = 8 ∨ n = 9 ∨ n = 10 ∨ n = 11 ∨ n = 12 := by omega
  rcases hn with rfl | rfl | rfl | rfl | rfl | rfl | rfl | rfl | rfl | rfl | rfl | rfl | rfl
  all_goals
    go_enter Tryz.func120, Tryz.ntmps120
    go_wp2
    go_ret
    exact ⟨by kernel_rfl, rfl⟩
theorem len64_abs (W : World) (n : Nat) (h : n ≤ 12) : AFun Tryz.prog W 120 [.sc (.int .u64 (n : Int))] (.val (.i (len8 n))) := by
  refine ⟨ent_of Tryz.func120 rfl rfl, .inl rfl, rfl, ?_⟩
  rintro U w vs _ ⟨u1, us1, rfl, g1, g3⟩
  have g3 : us1 = [] := g3
  subst g3
  obtain ⟨rfl, _⟩ := vrep_sc.1 g1
  refine (len64_any n h w).mono ?_
  rintro e w' ⟨rfl, rfl⟩
  exact ⟨_, rfl, vrep_sc.2 ⟨rfl, rfl⟩, Below.refl _ _⟩
-- 
theorem len_abs (W : World) (n : Nat) (h : n ≤ 12) : AFun Tryz.prog W 91 [.sc (.int .u64 (n : Int))] (.val (.i (len8 n))) := by
  refine afun_of (rs := [.i (len8 n)]) Tryz.func91 Tryz.ntmps91 rfl rfl rfl rfl ?_
  intro w U hW
  refine aS (aR ?_)
  (refine nx (aA (gN rfl) rfl rfl rfl rfl rfl) rfl ?_)
  show AWp _ _ _ _ _ _ _
  refine aS (aC rfl (fun hc => by cases hc) (fun hc => aK ?_))
  show AWp _ _ _ _ _ _ _
  refine aS (aR ?_)
  (refine nx (aM (gN rfl) rfl rfl rfl rfl rfl) rfl ?_)
  (refine nx (a_call (gN rfl) rfl rfl rfl rfl rfl (len64_abs w n h)) rfl ?_)
  (refine nx (aA (gN rfl) rfl rfl rfl rfl rfl) rfl ?_)
  show AWp _ _ _ _ _ _ _
  exact aT (And.intro (.inr rfl) rfl)
end Go.Proofs.YtmeegdomncadpaaGreat
namespace Go.Proofs.YtmeegdomncadpaaGreat
open Go.RowKit
set_option linter.unusedVariables false
set_option linter.unusedSimpArgs false
def fineB (l : List Tm) : Bool := l.all fun t => decide (0 ≤ smallT t 60 20)

theorem PsT.at {w : World} {base : Nat} {a : Option Addr} {n c : Nat} {ps : List (List Int)} (h : PsT w base (.slice a n c) ps) {i : Nat} (hi : i < ps.length) :
    ∃ (b off : Nat) (x : Pr), a = some ⟨b, off, none⟩ ∧ ps[i]? = some x.p ∧ x.ok (fun b => base ≤ b) w ∧ w.cell? ⟨b, off + i, none⟩ = some (.slice x.a x.n x.c) := by
  obtain ⟨xs, h1, h2, h3⟩ := h
  obtain ⟨a', c', e1, e2, e3, e4, e5⟩ := ownsRow_cs h1
  cases e1
  have hxl : xs.length = ps.length := by rw [← h2, List.length_map]
  have hix : i < xs.length := by omega
  rcases e5 with h | ⟨b, off, ha, hlt, hc⟩
  · rw [List.map_eq_nil_iff] at h; rw [h] at hix; simp at hix
  · refine ⟨b, off, xs[i], ha, ?_, (h3 _ (List.getElem_mem hix)).keep fun b h _ => ⟨h.1, rfl⟩, ?_⟩
    · rw [← h2, List.getElem?_map, List.getElem?_eq_getElem hix]; rfl
    · rw [hc i (by rw [List.length_map]; exact hix), List.getElem?_map, List.getElem?_eq_getElem hix]; rfl

theorem Pr.ok.at {U : Nat → Prop} {w : World} {x : Pr} (h : x.ok U w) {i : Nat} (hi : i < x.n) : ∃ b off z, x.a = some ⟨b, off, none⟩ ∧ U b ∧ b < w.heap.size ∧ x.p[i]? = some z ∧ w.cell? ⟨b, off + i, none⟩ = some (.int .i64 z) := by
  obtain ⟨h1, h2, h3, h4, h5⟩ := h
  have hip : i < x.p.length := by omega
  rcases h5 with h | ⟨b, off, ha, hu, hlt, hc⟩
  · unfold ints at h; rw [List.map_eq_nil_iff] at h; rw [h] at hip; simp at hip
  · refine ⟨b, off, x.p[i], ha, hu, hlt, List.getElem?_eq_getElem hip, ?_⟩
    rw [hc i (by unfold ints; rw [List.length_map]; exact hip)]
    unfold ints
    rw [List.getElem?_map, List.getElem?_eq_getElem hip]; rfl

def tm0 : Tm := .mk 1 [.mk (-1) [], .mk 2 []]
end Go.Proofs.YtmeegdomncadpaaGreat
namespace Go.Proofs.YtmeegdomncadpaaGreat
open Go.RowKit
set_option linter.unusedVariables false
set_option linter.unusedSimpArgs false
set_option maxRecDepth 100000
theorem compare_abs (W : World) {t s : Tm} (ht : t.rng) (hs : s.rng) : AFun Tryz.prog W 92 [t.cw, s.cw] (.val (.i (cmpT t s))) := by
  refine ⟨ent_of Tryz.func92 rfl rfl, .inl rfl, rfl, ?_⟩
  rintro U w vs hW ⟨u1, us1, rfl, h1, u2, us2, rfl, h2, h3⟩
  have h3 : us2 = [] := h3
  subst h3
  obtain ⟨a, n, c, rfl, h4⟩ := tat_of_vrep ht h1
  obtain ⟨a', n', c', rfl, h5⟩ := tat_of_vrep hs h2
  refine (compare_any t s a a' n c n' c' w h4 h5).mono ?_
  rintro e w' ⟨rfl, hb⟩
  exact ⟨_, rfl, vrep_sc.2 ⟨rfl, rfl⟩, hb⟩
def ltL (cmp : Lt → Lt → Int) (x y : Lt) : Bool := decide (cmp x y < 0)
theorem set_map_lv (l : List Lt) (j : Nat) (b : Lt) : (l.map Lt.cv).set j b.cw = (l.set j b).map Lt.cv := by rw [List.map_set]; rfl
-- 
theorem insSortL_abs (cmp : Lt → Lt → Int) (fc : CV) (L0 : List Lt) (a b : Nat) (ha : a ≤ L0.length) (hb : b ≤ L0.length) (hn : L0.length ≤ 1000000000) (hc : ∀ W x y, x ∈ L0 → y ∈ L0 → AFunW Tryz.prog W fc [x.cw, y.cw] (.val (.i (cmp x y)))) :
    AFunO Tryz.prog 111 [(400000, .mrow 63 5 (L0.map Lt.cv))] [.sl 400000 0 L0.length 5, .val (.i a), .val (.i b), .val fc] (.tup []) [(400000, .mrow 63 5 ((isortN (ltL cmp) a (b - (a + 1)) (a + 1) L0).map Lt.cv))] := by
  refine afunO_of Tryz.func111 Tryz.ntmps111 rfl rfl rfl rfl rfl rfl ?_
  intro w U hU
  obtain ⟨T, hT⟩ : ∃ T, T = isortN (ltL cmp) a (b - (a + 1)) (a + 1) L0 := ⟨_, rfl⟩
  rw [← hT]
  refine aS (aR ?_)
  (refine nx (aM (gN rfl) rfl rfl rfl rfl rfl) rfl ?_)
  (refine nx (a_add (gN rfl) rfl rfl rfl rfl rfl rfl (by first | omega | (simp only [List.length_map, List.length_append, List.length_cons, List.length_nil] <;> omega) | (simp <;> omega))) rfl ?_)
  (refine nx (aA (gN rfl) rfl rfl rfl rfl rfl) rfl ?_)
  show AWp _ _ _ _ _ _ _
  let st : Nat → List Lt → AS := fun i L => [(0, .sl 400000 0 L0.length 5), (1, .val (.i a)), (2, .val (.i b)), (3, .val fc), (8, .val (.i i)), (400000, .mrow 63 5 (L.map Lt.cv))]
  refine aB (awp_loop (fun m s => ∃ i L, m = (b + 1) - i ∧ L.length = L0.length ∧ (∀ z ∈ L, z ∈ L0) ∧ a + 1 ≤ i ∧ isortN (ltL cmp) a (b - i) i L = T ∧ s = st i L) (s' := st (a + 1) L0) (wk_sub ⟨rfl, rfl, rfl, rfl, rfl, rfl, trivial⟩) ⟨a + 1, L0, rfl, rfl, (fun z hz => hz), Nat.le_refl _, hT.symm, rfl⟩ ?_)
  rintro m s ⟨i, L, rfl, hL, hLm, hi, hI, rfl⟩
  refine aS (aS (aR ?_))
  (refine nx (aM (gN rfl) rfl rfl rfl rfl rfl) rfl ?_)
  (refine nx (aM (gN rfl) rfl rfl rfl rfl rfl) rfl ?_)
  (refine nx (a_lss (gN rfl) rfl rfl rfl rfl rfl rfl) rfl ?_)
  show AWp _ _ _ _ _ _ _
  refine aC rfl (fun hlt => ?_) (fun hlt => ?_)
  · have hib : i < b := by simpa using hlt
    refine aK ?_
    show AWp _ _ _ _ _ _ _
    refine aS (aB (aS (aR ?_)))
    (refine nx (aM (gN rfl) rfl rfl rfl rfl rfl) rfl ?_)
    (refine nx (aA (gN rfl) rfl rfl rfl rfl rfl) rfl ?_)
    show AWp _ _ _ _ _ _ _
    let st2 : Nat → List Lt → AS := fun j L => [(0, .sl 400000 0 L0.length 5), (1, .val (.i a)), (2, .val (.i b)), (3, .val fc), (8, .val (.i i)), (9, .val (.i j)), (400000, .mrow 63 5 (L.map Lt.cv))]
    refine aB (awp_loop (fun m s => ∃ j L', m = j ∧ L'.length = L0.length ∧ (∀ z ∈ L', z ∈ L0) ∧ j ≤ i ∧ sink (ltL cmp) a j L' = sink (ltL cmp) a i L ∧ s = st2 j L') (s' := st2 i L) (wk_sub ⟨rfl, rfl, rfl, rfl, rfl, rfl, rfl, trivial⟩) ⟨i, L, rfl, hL, hLm, Nat.le_refl _, rfl, rfl⟩ ?_)
    rintro m s ⟨j, L', hmj, hL', hLm2, hji, hJ, rfl⟩
    by_cases hja : a < j
    · obtain ⟨j, rfl⟩ : ∃ k, j = k + 1 := ⟨j - 1, by omega⟩
      obtain ⟨x, hx⟩ : ∃ x, L'[j + 1]? = some x := ⟨L'[j + 1]'(by omega), List.getElem?_eq_getElem (by omega)⟩
      obtain ⟨y, hy⟩ : ∃ y, L'[j]? = some y := ⟨L'[j]'(by omega), List.getElem?_eq_getElem (by omega)⟩
      have hx' := Lt.map_at hx
      have hy' := Lt.map_at hy
      have g : decide (((j + 1 : Nat) : Int) > (a : Int)) = true := by simp; omega
      refine aS (aS (aD (by kernel_rfl) (by kernel_rfl) ?_))
      (refine nx (aM (gN rfl) rfl rfl rfl rfl rfl) rfl ?_)
      (refine nx (aM (gN rfl) rfl rfl rfl rfl rfl) rfl ?_)
      (refine nx (a_gtr (gN rfl) rfl rfl rfl rfl rfl rfl) rfl ?_)
      (refine nx (aM (gN rfl) rfl rfl rfl rfl rfl) rfl ?_)
      (refine nx (aM (gd_on rfl rfl rfl rfl (by first | rfl | assumption | (simp; done))) rfl rfl rfl rfl rfl) rfl ?_)
      (refine nx (aM (gd_on rfl rfl rfl rfl (by first | rfl | assumption | (simp; done))) rfl rfl rfl rfl rfl) rfl ?_)
      (refine nx (aM (gd_on rfl rfl rfl rfl (by first | rfl | assumption | (simp; done))) rfl rfl rfl rfl rfl) rfl ?_)
      (refine nx (aIm (k := j + 1) (gd_on rfl rfl rfl rfl (by first | rfl | assumption | (simp; done))) rfl rfl rfl rfl rfl rfl rfl rfl rfl (by first | rfl | omega | (simp only [List.length_set, List.length_map, List.length_append, List.length_cons, List.length_nil] <;> omega) | (simp <;> omega))) rfl ?_)
      (refine nx (a_loadM (gd_on rfl rfl rfl rfl (by first | rfl | assumption | (simp; done))) rfl rfl rfl rfl rfl rfl rfl rfl (hx') rfl (by first | rfl | omega | (simp only [List.length_set, List.length_map, List.length_append, List.length_cons, List.length_nil] <;> omega) | (simp <;> omega)) rfl rfl) rfl ?_)
      (refine nx (aM (gd_on rfl rfl rfl rfl (by first | rfl | assumption | (simp; done))) rfl rfl rfl rfl rfl) rfl ?_)
      (refine nx (aM (gd_on rfl rfl rfl rfl (by first | rfl | assumption | (simp; done))) rfl rfl rfl rfl rfl) rfl ?_)
      (refine nx (a_sub (gd_on rfl rfl rfl rfl (by first | rfl | assumption | (simp; done))) rfl rfl rfl rfl rfl rfl (by first | omega | (simp only [List.length_map, List.length_append, List.length_cons, List.length_nil] <;> omega) | (simp <;> omega))) rfl ?_)
      (refine nx (aIm (k := j) (gd_on rfl rfl rfl rfl (by first | rfl | assumption | (simp; done))) rfl rfl rfl rfl rfl rfl rfl rfl rfl (by first | rfl | omega | (simp only [List.length_set, List.length_map, List.length_append, List.length_cons, List.length_nil] <;> omega) | (simp <;> omega))) rfl ?_)
      (refine nx (a_loadM (gd_on rfl rfl rfl rfl (by first | rfl | assumption | (simp; done))) rfl rfl rfl rfl rfl rfl rfl rfl (hy') rfl (by first | rfl | omega | (simp only [List.length_set, List.length_map, List.length_append, List.length_cons, List.length_nil] <;> omega) | (simp <;> omega)) rfl rfl) rfl ?_)
      (refine nx (a_callw (gd_on rfl rfl rfl rfl (by first | rfl | assumption | (simp; done))) rfl rfl rfl rfl rfl rfl (hc _ x y (hLm2 x (List.mem_of_getElem? hx)) (hLm2 y (List.mem_of_getElem? hy)))) rfl ?_)
      (refine nx (a_lss (gd_on rfl rfl rfl rfl (by first | rfl | assumption | (simp; done))) rfl rfl rfl rfl rfl rfl) rfl ?_)
      (refine ⟨_, _, _, aPt (gN rfl) rfl rfl rfl rfl rfl ?hb rfl, rfl, ?_⟩; case hb => (first | rfl | assumption | (simp; done)))
      refine ⟨by kernel_rfl, ?_⟩
      show AWp _ _ _ _ _ _ _
      refine aC rfl (fun hc1 => ?_) (fun hc1 => ?_)
      · have hlt2 : ltL cmp x y = true := hc1
        refine aK ?_
        show AWp _ _ _ _ _ _ _
        refine AWp.wk (wk_sub (s' := st2 (j + 1) L') ⟨rfl, rfl, rfl, rfl, rfl, rfl, rfl, trivial⟩) ?_
        refine aS (aB (aD (by kernel_rfl) (by kernel_rfl) ?_))
        (refine nx (aM (gN rfl) rfl rfl rfl rfl rfl) rfl ?_)
        (refine nx (aM (gN rfl) rfl rfl rfl rfl rfl) rfl ?_)
        (refine nx (aM (gN rfl) rfl rfl rfl rfl rfl) rfl ?_)
        (refine nx (aM (gN rfl) rfl rfl rfl rfl rfl) rfl ?_)
        (refine nx (a_sub (gN rfl) rfl rfl rfl rfl rfl rfl (by first | omega | (simp only [List.length_map, List.length_append, List.length_cons, List.length_nil] <;> omega) | (simp <;> omega))) rfl ?_)
        (refine nx (aM (gN rfl) rfl rfl rfl rfl rfl) rfl ?_)
        (refine nx (aM (gN rfl) rfl rfl rfl rfl rfl) rfl ?_)
        (refine nx (a_sub (gN rfl) rfl rfl rfl rfl rfl rfl (by first | omega | (simp only [List.length_map, List.length_append, List.length_cons, List.length_nil] <;> omega) | (simp <;> omega))) rfl ?_)
        (refine nx (aIm (k := j) (gN rfl) rfl rfl rfl rfl rfl rfl rfl rfl rfl (by first | rfl | omega | (simp only [List.length_set, List.length_map, List.length_append, List.length_cons, List.length_nil] <;> omega) | (simp <;> omega))) rfl ?_)
        (refine nx (a_loadM (gN rfl) rfl rfl rfl rfl rfl rfl rfl rfl (hy') rfl (by first | rfl | omega | (simp only [List.length_set, List.length_map, List.length_append, List.length_cons, List.length_nil] <;> omega) | (simp <;> omega)) rfl rfl) rfl ?_)
        (refine nx (aM (gN rfl) rfl rfl rfl rfl rfl) rfl ?_)
        (refine nx (aM (gN rfl) rfl rfl rfl rfl rfl) rfl ?_)
        (refine nx (aIm (k := j + 1) (gN rfl) rfl rfl rfl rfl rfl rfl rfl rfl rfl (by first | rfl | omega | (simp only [List.length_set, List.length_map, List.length_append, List.length_cons, List.length_nil] <;> omega) | (simp <;> omega))) rfl ?_)
        (refine nx (a_loadM (gN rfl) rfl rfl rfl rfl rfl rfl rfl rfl (hx') rfl (by first | rfl | omega | (simp only [List.length_set, List.length_map, List.length_append, List.length_cons, List.length_nil] <;> omega) | (simp <;> omega)) rfl rfl) rfl ?_)
        (refine nx (aIm (k := j + 1) (gN rfl) rfl rfl rfl rfl rfl rfl rfl rfl rfl (by first | rfl | omega | (simp only [List.length_set, List.length_map, List.length_append, List.length_cons, List.length_nil] <;> omega) | (simp <;> omega))) rfl ?_)
        (refine nx (a_storeM (gN rfl) rfl rfl rfl rfl rfl rfl (hx') rfl rfl (by first | rfl | omega | (simp only [List.length_set, List.length_map, List.length_append, List.length_cons, List.length_nil] <;> omega) | (simp <;> omega)) rfl) rfl ?_)
        (refine nx (aIm (k := j) (gN rfl) rfl rfl rfl rfl rfl rfl rfl rfl rfl (by first | rfl | omega | (simp only [List.length_set, List.length_map, List.length_append, List.length_cons, List.length_nil] <;> omega) | (simp <;> omega))) rfl ?_)
        (refine nx (a_storeM (gN rfl) rfl rfl rfl rfl rfl rfl ((by rw [List.getElem?_set_ne (by omega)]; exact hy')) rfl rfl (by first | rfl | omega | (simp only [List.length_set, List.length_map, List.length_append, List.length_cons, List.length_nil] <;> omega) | (simp <;> omega)) rfl) rfl ?_)
        refine ⟨by kernel_rfl, ?_⟩
        show AWp _ _ _ _ _ _ _
        refine aR ?_
        (refine nx (aM (gN rfl) rfl rfl rfl rfl rfl) rfl ?_)
        (refine nx (a_sub (gN rfl) rfl rfl rfl rfl rfl rfl (by first | omega | (simp only [List.length_map, List.length_append, List.length_cons, List.length_nil] <;> omega) | (simp <;> omega))) rfl ?_)
        (refine nx (aA (gN rfl) rfl rfl rfl rfl rfl) rfl ?_)
        refine ⟨j, st2 j ((L'.set (j + 1) y).set j x), by omega, ⟨j, _, rfl, by simp [hL'], (fun z hz => by rcases List.mem_or_eq_of_mem_set hz with hz | rfl; (rcases List.mem_or_eq_of_mem_set hz with hz | rfl; exact hLm2 z hz; exact hLm2 _ (List.mem_of_getElem? hy)); exact hLm2 _ (List.mem_of_getElem? hx)), by omega, ?_, rfl⟩, wk_sub ⟨rfl, rfl, rfl, rfl, rfl, ?_, ?_, trivial⟩⟩
        · rw [← hJ, sink_yes _ _ hx hy hja hlt2]
        · show some (AV.val (.i _)) = some (AV.val (.i _))
          congr 3; omega
        · show some (AV.mrow _ _ _) = some (AV.mrow _ _ _)
          rw [set_map_lv, set_map_lv]
      · have hlt2 : ltL cmp x y = false := hc1
        refine aE ?_
        show AWp _ _ _ _ _ _ _
        refine AWp.wk (wk_sub (s' := st2 (j + 1) L') ⟨rfl, rfl, rfl, rfl, rfl, rfl, rfl, trivial⟩) ?_
        refine aR ?_
        (refine nx (aM (gN rfl) rfl rfl rfl rfl rfl) rfl ?_)
        (refine nx (a_add (gN rfl) rfl rfl rfl rfl rfl rfl (by first | omega | (simp only [List.length_map, List.length_append, List.length_cons, List.length_nil] <;> omega) | (simp <;> omega))) rfl ?_)
        (refine nx (aA (gN rfl) rfl rfl rfl rfl rfl) rfl ?_)
        refine ⟨(b + 1) - (i + 1), st (i + 1) L', by omega, ⟨i + 1, L', rfl, hL', hLm2, by omega, ?_, rfl⟩, wk_sub ⟨rfl, rfl, rfl, rfl, rfl, rfl, trivial⟩⟩
        have hs : L' = sink (ltL cmp) a i L := by rw [← hJ, sink_no _ _ hx hy hlt2]
        rw [← hI, show b - i = (b - (i + 1)) + 1 by omega, isortN, hs]
    · have g : decide ((j : Int) > (a : Int)) = false := by simp; omega
      refine aS (aS (aD (by kernel_rfl) (by kernel_rfl) ?_))
      (refine nx (aM (gN rfl) rfl rfl rfl rfl rfl) rfl ?_)
      (refine nx (aM (gN rfl) rfl rfl rfl rfl rfl) rfl ?_)
      (refine nx (a_gtr (gN rfl) rfl rfl rfl rfl rfl rfl) rfl ?_)
      (refine nx (aM (gN rfl) rfl rfl rfl rfl rfl) rfl ?_)
      (refine ⟨_, _, _, a_off (go_off rfl rfl rfl rfl (by first | rfl | assumption | (simp; done) | (simp [*]; done))) rfl rfl rfl, rfl, ?_⟩)
      (refine ⟨_, _, _, a_off (go_off rfl rfl rfl rfl (by first | rfl | assumption | (simp; done) | (simp [*]; done))) rfl rfl rfl, rfl, ?_⟩)
      (refine ⟨_, _, _, a_off (go_off rfl rfl rfl rfl (by first | rfl | assumption | (simp; done) | (simp [*]; done))) rfl rfl rfl, rfl, ?_⟩)
      (refine ⟨_, _, _, a_off (go_off rfl rfl rfl rfl (by first | rfl | assumption | (simp; done) | (simp [*]; done))) rfl rfl rfl, rfl, ?_⟩)
      (refine ⟨_, _, _, a_off (go_off rfl rfl rfl rfl (by first | rfl | assumption | (simp; done) | (simp [*]; done))) rfl rfl rfl, rfl, ?_⟩)
      (refine ⟨_, _, _, a_off (go_off rfl rfl rfl rfl (by first | rfl | assumption | (simp; done) | (simp [*]; done))) rfl rfl rfl, rfl, ?_⟩)
      (refine ⟨_, _, _, a_off (go_off rfl rfl rfl rfl (by first | rfl | assumption | (simp; done) | (simp [*]; done))) rfl rfl rfl, rfl, ?_⟩)
      (refine ⟨_, _, _, a_off (go_off rfl rfl rfl rfl (by first | rfl | assumption | (simp; done) | (simp [*]; done))) rfl rfl rfl, rfl, ?_⟩)
      (refine ⟨_, _, _, a_off (go_off rfl rfl rfl rfl (by first | rfl | assumption | (simp; done) | (simp [*]; done))) rfl rfl rfl, rfl, ?_⟩)
      (refine ⟨_, _, _, a_off (go_off rfl rfl rfl rfl (by first | rfl | assumption | (simp; done) | (simp [*]; done))) rfl rfl rfl, rfl, ?_⟩)
      (refine ⟨_, _, _, a_off (go_off rfl rfl rfl rfl (by first | rfl | assumption | (simp; done) | (simp [*]; done))) rfl rfl rfl, rfl, ?_⟩)
      (refine ⟨_, _, _, a_off (go_off rfl rfl rfl rfl (by first | rfl | assumption | (simp; done) | (simp [*]; done))) rfl rfl rfl, rfl, ?_⟩)
      (refine ⟨_, _, _, aPf (gN rfl) rfl rfl rfl rfl rfl ?hb rfl, rfl, ?_⟩; case hb => (first | rfl | assumption | (simp; done)))
      refine ⟨by kernel_rfl, ?_⟩
      show AWp _ _ _ _ _ _ _
      refine aC rfl (fun hc1 => ?_) (fun hc1 => ?_)
      · cases hc1
      · refine aE ?_
        show AWp _ _ _ _ _ _ _
        refine AWp.wk (wk_sub (s' := st2 (j) L') ⟨rfl, rfl, rfl, rfl, rfl, rfl, rfl, trivial⟩) ?_
        refine aR ?_
        (refine nx (aM (gN rfl) rfl rfl rfl rfl rfl) rfl ?_)
        (refine nx (a_add (gN rfl) rfl rfl rfl rfl rfl rfl (by first | omega | (simp only [List.length_map, List.length_append, List.length_cons, List.length_nil] <;> omega) | (simp <;> omega))) rfl ?_)
        (refine nx (aA (gN rfl) rfl rfl rfl rfl rfl) rfl ?_)
        refine ⟨(b + 1) - (i + 1), st (i + 1) L', by omega, ⟨i + 1, L', rfl, hL', hLm2, by omega, ?_, rfl⟩, wk_sub ⟨rfl, rfl, rfl, rfl, rfl, rfl, trivial⟩⟩
        have hs : L' = sink (ltL cmp) a i L := by rw [← hJ, sink_stop _ _ hja]
        rw [← hI, show b - i = (b - (i + 1)) + 1 by omega, isortN, hs]
  · have hib : ¬ i < b := by simpa using hlt
    refine aE ?_
    refine ⟨.inl rfl, _, Wk.refl _, rfl, ?_, trivial⟩
    show some (AV.mrow _ _ _) = some (AV.mrow _ _ _)
    rw [show b - i = 0 by omega] at hI
    rw [← hI]
    rfl
def cmpS (x y : Lt) : Int := if cmpT x.a y.a ≠ 0 then cmpT x.a y.a else cmpT x.b y.b
def othL (l : Lt) : Lt := ⟨l.neg, l.b, l.a⟩
def trnL (l : Lt) : Lt := if 0 ≤ cmpT l.a l.b then l else othL l
def holdB (l : Lt) : Bool := !l.neg && sameT l.a l.b
def chkL (L : List Lt) (i : Nat) : Bool := match L[i]?, L[i - 1]? with
  | some x, some y => decide (0 < i) && ((!(x.neg == y.neg)) && decide (cmpS x y = 0))
  | _, _ => false
def adjB (L : List Lt) : Bool := (List.range L.length).any (chkL L)
def srtL (L : List Lt) : List Lt := isortN (ltL cmpS) 0 (L.length - 1) 1 L
def tautP (c : List Lt) : Bool := c.any holdB || adjB (srtL (c.map trnL))
def okC (c : List Lt) : Prop := ∀ l ∈ c, l.a.rng ∧ l.b.rng
-- 
theorem cHold_abs (W : World) (l : Lt) (h : l.a.rng ∧ l.b.rng) : AFun Tryz.prog W 52 [l.cw] (.val (.b (holdB l))) := by
  refine afun_of (rs := [.b (holdB l)]) Tryz.func52 Tryz.ntmps52 rfl rfl rfl rfl ?_
  intro w U hW
  have hs := same_abs w h.1 h.2
  refine aS (aR ?_)
  (refine nx (a_box (gN rfl) rfl rfl rfl rfl rfl) rfl ?_)
  (refine nx (aA (gN rfl) rfl rfl rfl rfl rfl) rfl ?_)
  show AWp _ _ _ _ _ _ _
  cases hn : l.neg with
  | true =>
    have g : (!l.neg) = false := by rw [hn]; rfl
    have e : holdB l = false := by unfold holdB; rw [hn]; rfl
    rw [e]
    refine aS (aR ?_)
    (refine nx (aF (gN rfl) rfl rfl rfl rfl rfl rfl rfl rfl rfl) rfl ?_)
    (refine nx (aLb (gN rfl) rfl rfl rfl rfl rfl rfl rfl rfl rfl rfl rfl rfl) rfl ?_)
    (refine nx (a_not (gN rfl) rfl rfl rfl rfl rfl) rfl ?_)
    (refine nx (aM (gN rfl) rfl rfl rfl rfl rfl) rfl ?_)
    (refine ⟨_, _, _, a_off (go_off rfl rfl rfl rfl (by first | rfl | assumption | (simp; done) | (simp [*]; done))) rfl rfl rfl, rfl, ?_⟩)
    (refine ⟨_, _, _, a_off (go_off rfl rfl rfl rfl (by first | rfl | assumption | (simp; done) | (simp [*]; done))) rfl rfl rfl, rfl, ?_⟩)
    (refine ⟨_, _, _, a_off (go_off rfl rfl rfl rfl (by first | rfl | assumption | (simp; done) | (simp [*]; done))) rfl rfl rfl, rfl, ?_⟩)
    (refine ⟨_, _, _, a_off (go_off rfl rfl rfl rfl (by first | rfl | assumption | (simp; done) | (simp [*]; done))) rfl rfl rfl, rfl, ?_⟩)
    (refine ⟨_, _, _, a_off (go_off rfl rfl rfl rfl (by first | rfl | assumption | (simp; done) | (simp [*]; done))) rfl rfl rfl, rfl, ?_⟩)
    (refine ⟨_, _, _, aPf (gN rfl) rfl rfl rfl rfl rfl ?hb rfl, rfl, ?_⟩; case hb => (first | rfl | assumption | (simp; done)))
    (refine nx (aA (gN rfl) rfl rfl rfl rfl rfl) rfl ?_)
    show AWp _ _ _ _ _ _ _
    exact aT (And.intro (.inr rfl) rfl)
  | false =>
    have g : (!l.neg) = true := by rw [hn]; rfl
    have e : holdB l = sameT l.a l.b := by unfold holdB; rw [hn]; rfl
    rw [e]
    refine aS (aR ?_)
    (refine nx (aF (gN rfl) rfl rfl rfl rfl rfl rfl rfl rfl rfl) rfl ?_)
    (refine nx (aLb (gN rfl) rfl rfl rfl rfl rfl rfl rfl rfl rfl rfl rfl rfl) rfl ?_)
    (refine nx (a_not (gN rfl) rfl rfl rfl rfl rfl) rfl ?_)
    (refine nx (aM (gN rfl) rfl rfl rfl rfl rfl) rfl ?_)
    (refine nx (aF (gd_on rfl rfl rfl rfl (by first | rfl | assumption | (simp; done))) rfl rfl rfl rfl rfl rfl rfl rfl rfl) rfl ?_)
    (refine nx (aLb (gd_on rfl rfl rfl rfl (by first | rfl | assumption | (simp; done))) rfl rfl rfl rfl rfl rfl rfl rfl rfl rfl rfl rfl) rfl ?_)
    (refine nx (aF (gd_on rfl rfl rfl rfl (by first | rfl | assumption | (simp; done))) rfl rfl rfl rfl rfl rfl rfl rfl rfl) rfl ?_)
    (refine nx (aLb (gd_on rfl rfl rfl rfl (by first | rfl | assumption | (simp; done))) rfl rfl rfl rfl rfl rfl rfl rfl rfl rfl rfl rfl) rfl ?_)
    (refine nx (a_call (gd_on rfl rfl rfl rfl (by first | rfl | assumption | (simp; done))) rfl rfl rfl rfl rfl (hs)) rfl ?_)
    (refine ⟨_, _, _, aPt (gN rfl) rfl rfl rfl rfl rfl ?hb rfl, rfl, ?_⟩; case hb => (first | rfl | assumption | (simp; done)))
    (refine nx (aA (gN rfl) rfl rfl rfl rfl rfl) rfl ?_)
    show AWp _ _ _ _ _ _ _
    exact aT (And.intro (.inr rfl) rfl)
-- 
theorem idxL_abs (W : World) (p : Lt → Bool) (fc : CV) (c : List Lt) (hl : c.length ≤ 1000000) (hc : ∀ W, ∀ x ∈ c, AFunW Tryz.prog W fc [x.cw] (.val (.b (p x)))) : AFun Tryz.prog W 87 [.lst (c.map Lt.cv), fc] (.val (.i (match c.findIdx? p with | some i => (i : Int) | none => -1))) := by
  have hsz := Lt.size_all c
  obtain ⟨R, hR⟩ : ∃ R : Int, R = match c.findIdx? p with | some i => (i : Int) | none => -1 := ⟨_, rfl⟩
  rw [← hR]
  refine afun_of (rs := [.i R]) Tryz.func87 Tryz.ntmps87 rfl rfl rfl rfl ?_
  intro w U hW
  refine aS (aR ?_)
  (refine nx (aA (gN rfl) rfl rfl rfl rfl rfl) rfl ?_)
  show AWp _ _ _ _ _ _ _
  refine aS (aS (aR ?_))
  (refine nx (aM (gN rfl) rfl rfl rfl rfl rfl) rfl ?_)
  (refine nx (a_len (gN rfl) rfl rfl rfl rfl rfl rfl rfl) rfl ?_)
  (refine nx (aM (gN rfl) rfl rfl rfl rfl rfl) rfl ?_)
  show AWp _ _ _ _ _ _ _
  refine aB (awp_countI c.length (fun k => ∀ x ∈ c.take k, p x = false) (fun k => [(0, .val (.lst (c.map Lt.cv))), (1, .val fc), (7, .val (.i (c.map Lt.cv).length)), (8, .val (.i k))]) (wk_sub ⟨rfl, rfl, rfl, rfl, trivial⟩) (by simp) ?_)
  intro k hk hI
  refine aS (aR ?_)
  (refine nx (a_lss (gN rfl) rfl rfl rfl rfl rfl rfl) rfl ?_)
  show AWp _ _ _ _ _ _ _
  refine aS (aC rfl (fun hlt => ?_) (fun hlt => ?_))
  · have hkl : k < c.length := by simpa using hlt
    obtain ⟨x, hx⟩ : ∃ x, c[k]? = some x := ⟨c[k], List.getElem?_eq_getElem hkl⟩
    have hx' := Lt.map_at hx
    have hxm := List.mem_of_getElem? hx
    refine aK ?_
    show AWp _ _ _ _ _ _ _
    refine aS (aB (aS (aR ?_)))
    (refine nx (aM (gN rfl) rfl rfl rfl rfl rfl) rfl ?_)
    (refine nx (aA (gN rfl) rfl rfl rfl rfl rfl) rfl ?_)
    show AWp _ _ _ _ _ _ _
    refine aS (aR ?_)
    (refine nx (aM (gN rfl) rfl rfl rfl rfl rfl) rfl ?_)
    (refine nx (aM (gN rfl) rfl rfl rfl rfl rfl) rfl ?_)
    (refine nx (aM (gN rfl) rfl rfl rfl rfl rfl) rfl ?_)
    (refine nx (a_index (j := k) (gN rfl) rfl rfl rfl rfl rfl rfl rfl rfl rfl (hx') rfl (hsz)) rfl ?_)
    (refine nx (a_load_ad (gN rfl) rfl rfl rfl rfl rfl rfl rfl rfl rfl) rfl ?_)
    (refine nx (a_callw (gN rfl) rfl rfl rfl rfl rfl rfl (hc w x hxm)) rfl ?_)
    show AWp _ _ _ _ _ _ _
    refine aC rfl (fun hp => ?_) (fun hp => ?_)
    · have hRk : R = k := by
        rw [hR]
        have : c.findIdx? p = some k := by
          rw [List.findIdx?_eq_some_iff_getElem]
          obtain ⟨hk2, e⟩ := List.getElem?_eq_some_iff.1 hx
          refine ⟨hk2, by rw [e]; exact hp, fun j hj => ?_⟩
          have := hI c[j] (List.mem_take_iff_getElem.2 ⟨j, by omega, rfl⟩)
          simpa using this
        rw [this]
      rw [hRk]
      refine aS (aR ?_)
      (refine nx (aM (gN rfl) rfl rfl rfl rfl rfl) rfl ?_)
      (refine nx (aA (gN rfl) rfl rfl rfl rfl rfl) rfl ?_)
      show AWp _ _ _ _ _ _ _
      exact aT (And.intro (.inr rfl) rfl)
    · refine aK ?_
      show AWp _ _ _ _ _ _ _
      refine aR ?_
      (refine nx (a_add (gN rfl) rfl rfl rfl rfl rfl rfl (by first | omega | (simp only [List.length_map, List.length_append, List.length_cons, List.length_nil] <;> omega) | (simp <;> omega))) rfl ?_)
      (refine nx (aM (gN rfl) rfl rfl rfl rfl rfl) rfl ?_)
      refine ⟨hkl, ?_, wk_sub ⟨rfl, rfl, rfl, rfl, trivial⟩⟩
      intro y hy
      rw [List.take_add_one, hx, List.mem_append] at hy
      rcases hy with hy | hy
      · exact hI y hy
      · simp at hy; rw [hy]; exact hp
  · have hkl : k = c.length := by
      have : ¬ k < c.length := by simpa using hlt
      omega
    subst hkl
    rw [List.take_length] at hI
    have hRn : R = -1 := by
      rw [hR, List.findIdx?_eq_none_iff.2 fun x hx => by rw [hI x hx]]
    rw [hRn]
    refine aE ?_
    show AWp _ _ _ _ _ _ _
    refine aS (aR ?_)
    (refine nx (aA (gN rfl) rfl rfl rfl rfl rfl) rfl ?_)
    show AWp _ _ _ _ _ _ _
    exact aT (And.intro (.inr rfl) rfl)
-- 
theorem conL_abs (W : World) (p : Lt → Bool) (fc : CV) (c : List Lt) (hl : c.length ≤ 1000000) (hc : ∀ W, ∀ x ∈ c, AFunW Tryz.prog W fc [x.cw] (.val (.b (p x)))) : AFun Tryz.prog W 51 [.lst (c.map Lt.cv), fc] (.val (.b (c.any p))) := by
  have e : decide ((match c.findIdx? p with | some i => (i : Int) | none => -1) ≥ 0) = c.any p := by
    cases h : c.findIdx? p with
    | none =>
      have h1 := List.findIdx?_eq_none_iff.1 h
      have : c.any p = false := by
        rw [List.any_eq_false]
        intro x hx
        rw [h1 x hx]; simp
      rw [this]; rfl
    | some i =>
      obtain ⟨hi, hp, _⟩ := List.findIdx?_eq_some_iff_getElem.1 h
      have : c.any p = true := List.any_eq_true.2 ⟨_, List.getElem_mem hi, hp⟩
      rw [this]
      simp
  refine afun_of (rs := [.b (c.any p)]) Tryz.func51 Tryz.ntmps51 rfl rfl rfl rfl ?_
  intro w U hW
  refine aS (aR ?_)
  (refine nx (aA (gN rfl) rfl rfl rfl rfl rfl) rfl ?_)
  show AWp _ _ _ _ _ _ _
  refine aS (aR ?_)
  (refine nx (aM (gN rfl) rfl rfl rfl rfl rfl) rfl ?_)
  (refine nx (aM (gN rfl) rfl rfl rfl rfl rfl) rfl ?_)
  (refine nx (a_call (gN rfl) rfl rfl rfl rfl rfl (idxL_abs w p fc c hl hc)) rfl ?_)
  (refine nx (a_geq (gN rfl) rfl rfl rfl rfl rfl rfl) rfl ?_)
  (refine nx (aA (gN rfl) rfl rfl rfl rfl rfl) rfl ?_)
  show AWp _ _ _ _ _ _ _
  rw [e]
  exact aT (And.intro (.inr rfl) rfl)
-- 
theorem cIsTurned_abs (W : World) (l : Lt) (h : l.a.rng ∧ l.b.rng) : AFun Tryz.prog W 97 [l.cw] (.val (.b (decide (cmpT l.a l.b ≥ 0)))) := by
  refine afun_of (rs := [.b (decide (cmpT l.a l.b ≥ 0))]) Tryz.func97 Tryz.ntmps97 rfl rfl rfl rfl ?_
  intro w U hW
  refine aS (aR ?_)
  (refine nx (a_box (gN rfl) rfl rfl rfl rfl rfl) rfl ?_)
  (refine nx (aA (gN rfl) rfl rfl rfl rfl rfl) rfl ?_)
  show AWp _ _ _ _ _ _ _
  refine aS (aR ?_)
  (refine nx (aF (gN rfl) rfl rfl rfl rfl rfl rfl rfl rfl rfl) rfl ?_)
  (refine nx (aLb (gN rfl) rfl rfl rfl rfl rfl rfl rfl rfl rfl rfl rfl rfl) rfl ?_)
  (refine nx (aF (gN rfl) rfl rfl rfl rfl rfl rfl rfl rfl rfl) rfl ?_)
  (refine nx (aLb (gN rfl) rfl rfl rfl rfl rfl rfl rfl rfl rfl rfl rfl rfl) rfl ?_)
  (refine nx (a_call (gN rfl) rfl rfl rfl rfl rfl (compare_abs w h.1 h.2)) rfl ?_)
  (refine nx (a_geq (gN rfl) rfl rfl rfl rfl rfl rfl) rfl ?_)
  (refine nx (aA (gN rfl) rfl rfl rfl rfl rfl) rfl ?_)
  show AWp _ _ _ _ _ _ _
  exact aT (And.intro (.inr rfl) rfl)
-- 
theorem cOther_abs (W : World) (l : Lt) : AFun Tryz.prog W 98 [l.cw] (.val (othL l).cw) := by
  refine afun_of (rs := [(othL l).cw]) Tryz.func98 Tryz.ntmps98 rfl rfl rfl rfl ?_
  intro w U hW
  refine aS (aR ?_)
  (refine nx (a_box (gN rfl) rfl rfl rfl rfl rfl) rfl ?_)
  (refine nx (a_alloc (gN rfl) rfl rfl rfl rfl rfl rfl rfl rfl rfl rfl) rfl ?_)
  show AWp _ _ _ _ _ _ _
  refine aS (aR ?_)
  (refine nx (aF (gN rfl) rfl rfl rfl rfl rfl rfl rfl rfl rfl) rfl ?_)
  (refine nx (aLb (gN rfl) rfl rfl rfl rfl rfl rfl rfl rfl rfl rfl rfl rfl) rfl ?_)
  (refine nx (aF (gN rfl) rfl rfl rfl rfl rfl rfl rfl rfl rfl) rfl ?_)
  (refine nx (aLb (gN rfl) rfl rfl rfl rfl rfl rfl rfl rfl rfl rfl rfl rfl) rfl ?_)
  (refine nx (aF (gN rfl) rfl rfl rfl rfl rfl rfl rfl rfl rfl) rfl ?_)
  (refine nx (aLb (gN rfl) rfl rfl rfl rfl rfl rfl rfl rfl rfl rfl rfl rfl) rfl ?_)
  (refine nx (a_build (gN rfl) rfl rfl rfl rfl rfl rfl rfl rfl rfl rfl rfl) rfl ?_)
  (refine nx (aSt (gN rfl) rfl rfl rfl rfl rfl rfl rfl rfl rfl rfl) rfl ?_)
  show AWp _ _ _ _ _ _ _
  exact aT (And.intro (.inr rfl) rfl)
-- 
theorem cTurned_abs (W : World) (l : Lt) (h : l.a.rng ∧ l.b.rng) : AFun Tryz.prog W 89 [l.cw] (.val (trnL l).cw) := by
  refine afun_of (rs := [(trnL l).cw]) Tryz.func89 Tryz.ntmps89 rfl rfl rfl rfl ?_
  intro w U hW
  refine aS (aR ?_)
  (refine nx (a_box (gN rfl) rfl rfl rfl rfl rfl) rfl ?_)
  (refine nx (a_alloc (gN rfl) rfl rfl rfl rfl rfl rfl rfl rfl rfl rfl) rfl ?_)
  show AWp _ _ _ _ _ _ _
  refine aS (aS (aR ?_))
  (refine nx (aL (gN rfl) rfl rfl rfl rfl rfl rfl rfl rfl rfl rfl rfl rfl) rfl ?_)
  (refine nx (a_call (gN rfl) rfl rfl rfl rfl rfl (cIsTurned_abs w l h)) rfl ?_)
  show AWp _ _ _ _ _ _ _
  refine aC rfl (fun hc => ?_) (fun hc => ?_)
  · have e : trnL l = l := by unfold trnL; rw [if_pos (by have := of_decide_eq_true hc; omega)]
    rw [e]
    refine aS (aR ?_)
    (refine nx (aL (gN rfl) rfl rfl rfl rfl rfl rfl rfl rfl rfl rfl rfl rfl) rfl ?_)
    (refine nx (aSt (gN rfl) rfl rfl rfl rfl rfl rfl rfl rfl rfl rfl) rfl ?_)
    show AWp _ _ _ _ _ _ _
    exact aT (And.intro (.inr rfl) rfl)
  · have e : trnL l = othL l := by unfold trnL; rw [if_neg (by have := of_decide_eq_false hc; omega)]
    rw [e]
    refine aK ?_
    show AWp _ _ _ _ _ _ _
    refine aS (aR ?_)
    (refine nx (aL (gN rfl) rfl rfl rfl rfl rfl rfl rfl rfl rfl rfl rfl rfl) rfl ?_)
    (refine nx (a_call (gN rfl) rfl rfl rfl rfl rfl (cOther_abs w l)) rfl ?_)
    (refine nx (aSt (gN rfl) rfl rfl rfl rfl rfl rfl rfl rfl rfl rfl) rfl ?_)
    show AWp _ _ _ _ _ _ _
    exact aT (And.intro (.inr rfl) rfl)
-- 
theorem cCmpS_abs (W : World) (x y : Lt) (hx : x.a.rng ∧ x.b.rng) (hy : y.a.rng ∧ y.b.rng) : AFun Tryz.prog W 55 [x.cw, y.cw] (.val (.i (cmpS x y))) := by
  refine afun_of (rs := [.i (cmpS x y)]) Tryz.func55 Tryz.ntmps55 rfl rfl rfl rfl ?_
  intro w U hW
  refine aS (aR ?_)
  (refine nx (a_box (gN rfl) rfl rfl rfl rfl rfl) rfl ?_)
  (refine nx (a_box (gN rfl) rfl rfl rfl rfl rfl) rfl ?_)
  (refine nx (aA (gN rfl) rfl rfl rfl rfl rfl) rfl ?_)
  show AWp _ _ _ _ _ _ _
  refine aS (aS (aR ?_))
  (refine nx (aF (gN rfl) rfl rfl rfl rfl rfl rfl rfl rfl rfl) rfl ?_)
  (refine nx (aLb (gN rfl) rfl rfl rfl rfl rfl rfl rfl rfl rfl rfl rfl rfl) rfl ?_)
  (refine nx (aF (gN rfl) rfl rfl rfl rfl rfl rfl rfl rfl rfl) rfl ?_)
  (refine nx (aLb (gN rfl) rfl rfl rfl rfl rfl rfl rfl rfl rfl rfl rfl rfl) rfl ?_)
  (refine nx (a_call (gN rfl) rfl rfl rfl rfl rfl (compare_abs w hx.1 hy.1)) rfl ?_)
  (refine nx (aA (gN rfl) rfl rfl rfl rfl rfl) rfl ?_)
  show AWp _ _ _ _ _ _ _
  refine aS (aR ?_)
  (refine nx (aM (gN rfl) rfl rfl rfl rfl rfl) rfl ?_)
  (refine nx (a_neq (gN rfl) rfl rfl rfl rfl rfl rfl) rfl ?_)
  show AWp _ _ _ _ _ _ _
  refine aC rfl (fun hc => ?_) (fun hc => ?_)
  · have e : cmpS x y = cmpT x.a y.a := by unfold cmpS; rw [if_pos (by simpa using hc)]
    rw [e]
    refine aS (aR ?_)
    (refine nx (aM (gN rfl) rfl rfl rfl rfl rfl) rfl ?_)
    (refine nx (aA (gN rfl) rfl rfl rfl rfl rfl) rfl ?_)
    show AWp _ _ _ _ _ _ _
    exact aT (And.intro (.inr rfl) rfl)
  · have e : cmpS x y = cmpT x.b y.b := by unfold cmpS; rw [if_neg (by simpa using hc)]
    rw [e]
    refine aK ?_
    show AWp _ _ _ _ _ _ _
    refine aS (aR ?_)
    (refine nx (aF (gN rfl) rfl rfl rfl rfl rfl rfl rfl rfl rfl) rfl ?_)
    (refine nx (aLb (gN rfl) rfl rfl rfl rfl rfl rfl rfl rfl rfl rfl rfl rfl) rfl ?_)
    (refine nx (aF (gN rfl) rfl rfl rfl rfl rfl rfl rfl rfl rfl) rfl ?_)
    (refine nx (aLb (gN rfl) rfl rfl rfl rfl rfl rfl rfl rfl rfl rfl rfl rfl) rfl ?_)
    (refine nx (a_call (gN rfl) rfl rfl rfl rfl rfl (compare_abs w hx.2 hy.2)) rfl ?_)
    (refine nx (aA (gN rfl) rfl rfl rfl rfl rfl) rfl ?_)
    show AWp _ _ _ _ _ _ _
    exact aT (And.intro (.inr rfl) rfl)
-- 
theorem cSign2_abs (W : World) (x y : Lt) : AFun Tryz.prog W 56 [x.cw, y.cw] (.val (.b (x.neg == y.neg))) := by
  refine afun_of (rs := [.b (x.neg == y.neg)]) Tryz.func56 Tryz.ntmps56 rfl rfl rfl rfl ?_
  intro w U hW
  refine aS (aR ?_)
  (refine nx (a_box (gN rfl) rfl rfl rfl rfl rfl) rfl ?_)
  (refine nx (a_box (gN rfl) rfl rfl rfl rfl rfl) rfl ?_)
  (refine nx (aA (gN rfl) rfl rfl rfl rfl rfl) rfl ?_)
  show AWp _ _ _ _ _ _ _
  refine aS (aR ?_)
  (refine nx (aF (gN rfl) rfl rfl rfl rfl rfl rfl rfl rfl rfl) rfl ?_)
  (refine nx (aLb (gN rfl) rfl rfl rfl rfl rfl rfl rfl rfl rfl rfl rfl rfl) rfl ?_)
  (refine nx (aF (gN rfl) rfl rfl rfl rfl rfl rfl rfl rfl rfl) rfl ?_)
  (refine nx (aLb (gN rfl) rfl rfl rfl rfl rfl rfl rfl rfl rfl rfl rfl rfl) rfl ?_)
  (refine nx (a_beq (gN rfl) rfl rfl rfl rfl rfl rfl rfl) rfl ?_)
  (refine nx (aA (gN rfl) rfl rfl rfl rfl rfl) rfl ?_)
  show AWp _ _ _ _ _ _ _
  exact aT (And.intro (.inr rfl) rfl)
-- 
theorem cloneL_abs (L : List Lt) (hn : L.length ≤ 1000000000) : AFunO Tryz.prog 88 [] [.val (.lst (L.map Lt.cv))] (.sl 250007 0 L.length 5) [(250007, .mrow 63 5 (L.map Lt.cv))] := by
  have hsz := Lt.size_all L
  refine afunO_of Tryz.func88 Tryz.ntmps88 rfl rfl rfl rfl rfl rfl ?_
  intro w U hU
  refine AWp.nil 0 rfl rfl (fun hl => ?_) ?_
  · have hL : L = [] := by simpa using hl
    subst hL
    refine aS (aR ?_)
    (refine nx (aA (gN rfl) rfl rfl rfl rfl rfl) rfl ?_)
    show AWp _ _ _ _ _ _ _
    refine aS (aS (aR ?_))
    (refine nx (aM (gN rfl) rfl rfl rfl rfl rfl) rfl ?_)
    (refine nx (a_isnil (gN rfl) rfl rfl rfl rfl rfl rfl) rfl ?_)
    show AWp _ _ _ _ _ _ _
    refine aC rfl (fun _ => ?_) (fun h => by cases h)
    refine aS (aR ?_)
    (refine nx (aA (gN rfl) rfl rfl rfl rfl rfl) rfl ?_)
    show AWp _ _ _ _ _ _ _
    exact aT ⟨.inr rfl, _, wk_nilM 2 250007 63 5 rfl rfl rfl rfl rfl, rfl, rfl, trivial⟩
  · refine aS (aR ?_)
    (refine nx (aA (gN rfl) rfl rfl rfl rfl rfl) rfl ?_)
    show AWp _ _ _ _ _ _ _
    refine aS (aS (aR ?_))
    (refine nx (aM (gN rfl) rfl rfl rfl rfl rfl) rfl ?_)
    (refine nx (a_notnil (gN rfl) rfl rfl rfl rfl rfl rfl) rfl ?_)
    show AWp _ _ _ _ _ _ _
    refine aC rfl (fun h => by cases h) (fun _ => ?_)
    refine aK ?_
    show AWp _ _ _ _ _ _ _
    refine AWp.wk ((wk_not 0 rfl rfl).trans (wk_sub (s' := [(0, .val (.lst (L.map Lt.cv)))]) ⟨rfl, trivial⟩)) ?_
    refine aS (aR ?_)
    (refine nx (a_bslice0 (gN rfl) rfl rfl rfl rfl rfl rfl rfl rfl) rfl ?_)
    (refine nx (aM (gN rfl) rfl rfl rfl rfl rfl) rfl ?_)
    (refine nx (a_app0M 250007 (gN rfl) rfl rfl rfl rfl rfl rfl rfl rfl rfl rfl rfl rfl rfl rfl rfl (by first | assumption | exact sZ rfl | exact Tm.size_all _ | exact Bd.size_all _ | exact ints_size _ | exact bys_size _ | exact Lt.size_all _) (by first | omega | (simp only [List.length_map, List.length_append, List.length_cons, List.length_nil] <;> omega) | (simp <;> omega))) rfl ?_)
    (refine nx (aA (gN rfl) rfl rfl rfl rfl rfl) rfl ?_)
    show AWp _ _ _ _ _ _ _
    refine aT ⟨.inr rfl, _, Wk.refl _, ?_, rfl, trivial⟩
    show some (AV.sl _ _ _ _) = some (AV.sl _ _ _ _)
    rw [List.length_map]
    rfl
theorem half_at {α : Type} (f : α → α) (c : List α) {k : Nat} {x : α} (hx : c[k]? = some x) : ((c.take k).map f ++ c.drop k)[k]? = some x ∧ ((c.take k).map f ++ c.drop k).set k (f x) = (c.take (k + 1)).map f ++ c.drop (k + 1) := by
  obtain ⟨hk, e⟩ := List.getElem?_eq_some_iff.1 hx
  have hl : ((c.take k).map f).length = k := by rw [List.length_map, List.length_take]; omega
  have hd : c.drop k = x :: c.drop (k + 1) := by rw [List.drop_eq_getElem_cons hk, e]
  constructor
  · rw [List.getElem?_append_right (by omega), hl, Nat.sub_self, hd]; rfl
  · rw [List.set_append_right _ _ (by omega), hl, Nat.sub_self, hd, List.set_cons_zero, List.take_add_one, hx, List.map_append, List.append_assoc]
    rfl
-- 
set_option maxHeartbeats 1000000 in
theorem cTurnAll_abs (c : List Lt) (hl : c.length ≤ 1000000) (hc : okC c) : AFunO Tryz.prog 53 [] [.val (.lst (c.map Lt.cv))] (.sl 400000 0 c.length 5) [(400000, .mrow 63 5 ((c.map trnL).map Lt.cv))] := by
  refine afunO_of Tryz.func53 Tryz.ntmps53 rfl rfl rfl rfl rfl rfl ?_
  intro w U hU
  have hUf : U.f 400000 = none := by
    cases h : U.f 400000 with
    | none => rfl
    | some v => have := hU _ _ h; cases this
  have hcl := cloneL_abs c (by omega)
  refine aS (aR ?_)
  (refine nx (aA (gN rfl) rfl rfl rfl rfl rfl) rfl ?_)
  show AWp _ _ _ _ _ _ _
  refine aS (aR ?_)
  (refine nx (aM (gN rfl) rfl rfl rfl rfl rfl) rfl ?_)
  (refine nx (a_callO (gN rfl) rfl rfl rfl rfl rfl (hcl) (by repeat (first | exact trivial | refine ⟨rfl, ?_⟩)) (by first | rfl | kernel_rfl) (by first | rfl | kernel_rfl) (by first | rfl | kernel_rfl) (by first | rfl | kernel_rfl) (hnb_of (by first | rfl | kernel_rfl))) rfl ?_)
  (refine nx (aA (gN rfl) rfl rfl rfl rfl rfl) rfl ?_)
  show AWp _ _ _ _ _ _ _
  refine AWp.wk (wk_sub (s' := [(3, .sl 250007 0 c.length 5), (250007, .mrow 63 5 (c.map Lt.cv))]) ⟨rfl, rfl, trivial⟩) ?_
  refine aS (aS (aR ?_))
  (refine nx (aM (gN rfl) rfl rfl rfl rfl rfl) rfl ?_)
  (refine nx (a_lenM (gN rfl) rfl rfl rfl rfl rfl rfl rfl) rfl ?_)
  (refine nx (aM (gN rfl) rfl rfl rfl rfl rfl) rfl ?_)
  show AWp _ _ _ _ _ _ _
  refine aB (awp_count c.length (fun k => [(3, .sl 250007 0 c.length 5), (8, .sl 250007 0 c.length 5), (9, .val (.i c.length)), (10, .val (.i k)), (250007, .mrow 63 5 (((c.take k).map trnL ++ c.drop k).map Lt.cv))]) (wk_sub ⟨rfl, rfl, rfl, rfl, rfl, trivial⟩) ?_)
  intro k hk
  refine aS (aR ?_)
  (refine nx (a_lss (gN rfl) rfl rfl rfl rfl rfl rfl) rfl ?_)
  show AWp _ _ _ _ _ _ _
  refine aS (aC rfl (fun hlt => ?_) (fun hlt => ?_))
  · have hkl : k < c.length := by simpa using hlt
    obtain ⟨x, hx⟩ : ∃ x, c[k]? = some x := ⟨c[k], List.getElem?_eq_getElem hkl⟩
    obtain ⟨h1, h2⟩ := half_at trnL c hx
    have h1' := Lt.map_at h1
    have hxm := List.mem_of_getElem? hx
    have hkl2 : ((c.take k).map trnL ++ c.drop k).length = c.length := by
      rw [List.length_append, List.length_map, List.length_take, List.length_drop]; omega
    obtain ⟨D, hD⟩ : ∃ D, D = (c.take k).map trnL ++ c.drop k := ⟨_, rfl⟩
    rw [← hD] at h1' h2 hkl2 ⊢
    refine aK ?_
    show AWp _ _ _ _ _ _ _
    refine aS (aB (aS (aR ?_)))
    (refine nx (aM (gN rfl) rfl rfl rfl rfl rfl) rfl ?_)
    (refine nx (aIm (k := k) (gN rfl) rfl rfl rfl rfl rfl rfl rfl rfl rfl (by first | rfl | omega | (simp only [List.length_set, List.length_map, List.length_append, List.length_cons, List.length_nil] <;> omega) | (simp <;> omega))) rfl ?_)
    (refine nx (a_loadM (gN rfl) rfl rfl rfl rfl rfl rfl rfl rfl (h1') rfl (by first | rfl | omega | (simp only [List.length_set, List.length_map, List.length_append, List.length_cons, List.length_nil] <;> omega) | (simp <;> omega)) rfl rfl) rfl ?_)
    (refine nx (a_alloc (gN rfl) rfl rfl rfl rfl rfl rfl rfl rfl rfl rfl) rfl ?_)
    (refine nx (aA (gN rfl) rfl rfl rfl rfl rfl) rfl ?_)
    (refine nx (aSt (gN rfl) rfl rfl rfl rfl rfl rfl rfl rfl rfl rfl) rfl ?_)
    show AWp _ _ _ _ _ _ _
    refine aR ?_
    (refine nx (aM (gN rfl) rfl rfl rfl rfl rfl) rfl ?_)
    (refine nx (aM (gN rfl) rfl rfl rfl rfl rfl) rfl ?_)
    (refine nx (aL (gN rfl) rfl rfl rfl rfl rfl rfl rfl rfl rfl rfl rfl rfl) rfl ?_)
    (refine nx (a_call (gN rfl) rfl rfl rfl rfl rfl (cTurned_abs w x (hc x hxm))) rfl ?_)
    (refine nx (aIm (k := k) (gN rfl) rfl rfl rfl rfl rfl rfl rfl rfl rfl (by first | rfl | omega | (simp only [List.length_set, List.length_map, List.length_append, List.length_cons, List.length_nil] <;> omega) | (simp <;> omega))) rfl ?_)
    (refine nx (a_storeM (gN rfl) rfl rfl rfl rfl rfl rfl (h1') rfl rfl (by first | rfl | omega | (simp only [List.length_set, List.length_map, List.length_append, List.length_cons, List.length_nil] <;> omega) | (simp <;> omega)) rfl) rfl ?_)
    show AWp _ _ _ _ _ _ _
    refine aR ?_
    (refine nx (a_add (gN rfl) rfl rfl rfl rfl rfl rfl (by first | omega | (simp only [List.length_map, List.length_append, List.length_cons, List.length_nil] <;> omega) | (simp <;> omega))) rfl ?_)
    (refine nx (aM (gN rfl) rfl rfl rfl rfl rfl) rfl ?_)
    refine ⟨hkl, wk_sub ⟨rfl, rfl, rfl, rfl, ?_, trivial⟩⟩
    rw [← h2, ← set_map_lv]
    rfl
  · have hkl : k = c.length := by
      have : ¬ k < c.length := by simpa using hlt
      omega
    subst hkl
    refine aE ?_
    show AWp _ _ _ _ _ _ _
    rw [List.take_length, List.drop_length, List.append_nil]
    refine aS (aR ?_)
    (refine nx (aM (gN rfl) rfl rfl rfl rfl rfl) rfl ?_)
    (refine nx (aA (gN rfl) rfl rfl rfl rfl rfl) rfl ?_)
    show AWp _ _ _ _ _ _ _
    exact aT ⟨.inr rfl, _, (wk_sub (s' := [(2, .sl 250007 0 c.length 5), (250007, .mrow 63 5 ((c.map trnL).map Lt.cv))]) ⟨rfl, rfl, trivial⟩).trans (wk_renF 250007 400000 rfl rfl hUf rfl rfl rfl), rfl, rfl, trivial⟩
-- 
theorem pdqL_abs (cmp : Lt → Lt → Int) (fc : CV) (L : List Lt) (lim : Int) (hn : L.length ≤ 12) (hc : ∀ W x y, x ∈ L → y ∈ L → AFunW Tryz.prog W fc [x.cw, y.cw] (.val (.i (cmp x y)))) :
    AFunO Tryz.prog 90 [(400000, .mrow 63 5 (L.map Lt.cv))] [.sl 400000 0 L.length 5, .val (.i 0), .val (.i L.length), .val (.i lim), .val fc] (.tup []) [(400000, .mrow 63 5 ((isortN (ltL cmp) 0 (L.length - 1) 1 L).map Lt.cv))] := by
  have hin := insSortL_abs cmp fc L 0 L.length (by omega) (by omega) (by omega) hc
  refine afunO_of Tryz.func90 Tryz.ntmps90 rfl rfl rfl rfl rfl rfl ?_
  intro w U hU
  refine aS (aR ?_)
  (refine nx (aA (gN rfl) rfl rfl rfl rfl rfl) rfl ?_)
  show AWp _ _ _ _ _ _ _
  refine aS (aR ?_)
  (refine nx (aA (gN rfl) rfl rfl rfl rfl rfl) rfl ?_)
  show AWp _ _ _ _ _ _ _
  refine aB (awp_loop (fun m s => m = 0 ∧ s = [(0, .sl 400000 0 L.length 5), (1, .val (.i 0)), (2, .val (.i L.length)), (4, .val fc), (400000, .mrow 63 5 (L.map Lt.cv))]) (n := 0) (s' := [(0, .sl 400000 0 L.length 5), (1, .val (.i 0)), (2, .val (.i L.length)), (4, .val fc), (400000, .mrow 63 5 (L.map Lt.cv))]) (wk_sub ⟨rfl, rfl, rfl, rfl, rfl, trivial⟩) ⟨rfl, rfl⟩ ?_)
  rintro m s ⟨rfl, rfl⟩
  refine aB ?_
  refine aS (aR ?_)
  (refine nx (aM (gN rfl) rfl rfl rfl rfl rfl) rfl ?_)
  (refine nx (aM (gN rfl) rfl rfl rfl rfl rfl) rfl ?_)
  (refine nx (a_sub (gN rfl) rfl rfl rfl rfl rfl rfl (by first | omega | (simp only [List.length_map, List.length_append, List.length_cons, List.length_nil] <;> omega) | (simp <;> omega))) rfl ?_)
  (refine nx (aA (gN rfl) rfl rfl rfl rfl rfl) rfl ?_)
  show AWp _ _ _ _ _ _ _
  refine aS (aS (aR ?_))
  (refine nx (aM (gN rfl) rfl rfl rfl rfl rfl) rfl ?_)
  (refine nx (a_leq (gN rfl) rfl rfl rfl rfl rfl rfl) rfl ?_)
  show AWp _ _ _ _ _ _ _
  refine aC rfl (fun h => ?_) (fun h => ?_)
  · refine aS (aR ?_)
    (refine nx (aM (gN rfl) rfl rfl rfl rfl rfl) rfl ?_)
    (refine nx (aM (gN rfl) rfl rfl rfl rfl rfl) rfl ?_)
    (refine nx (aM (gN rfl) rfl rfl rfl rfl rfl) rfl ?_)
    (refine nx (aM (gN rfl) rfl rfl rfl rfl rfl) rfl ?_)
    (refine nx (a_callO (gN rfl) rfl rfl rfl rfl rfl (hin) (by repeat (first | exact trivial | refine ⟨rfl, ?_⟩)) (by first | rfl | kernel_rfl) (by first | rfl | kernel_rfl) (by first | rfl | kernel_rfl) (by first | rfl | kernel_rfl) (hnb_of (by first | rfl | kernel_rfl))) rfl ?_)
    show AWp _ _ _ _ _ _ _
    refine aT ⟨.inr rfl, _, Wk.refl _, rfl, ?_, trivial⟩
    show some (AV.mrow _ _ _) = some (AV.mrow _ _ _)
    rw [show L.length - (0 + 1) = L.length - 1 by omega]
  · exfalso
    have := of_decide_eq_false h
    omega
-- 
theorem sortL_abs (cmp : Lt → Lt → Int) (fc : CV) (L : List Lt) (hn : L.length ≤ 12) (hc : ∀ W x y, x ∈ L → y ∈ L → AFunW Tryz.prog W fc [x.cw, y.cw] (.val (.i (cmp x y)))) :
    AFunO Tryz.prog 54 [(400000, .mrow 63 5 (L.map Lt.cv))] [.sl 400000 0 L.length 5, .val fc] (.tup []) [(400000, .mrow 63 5 ((isortN (ltL cmp) 0 (L.length - 1) 1 L).map Lt.cv))] := by
  have hw : IntKind.u64.wrap ((L.length : Nat) : Int) = ((L.length : Nat) : Int) := by rw [IntKind.wrap_u64]; omega
  have hp := pdqL_abs cmp fc L (len8 L.length) hn hc
  refine afunO_of Tryz.func54 Tryz.ntmps54 rfl rfl rfl rfl rfl rfl ?_
  intro w U hU
  refine aS (aR ?_)
  (refine nx (aM (gN rfl) rfl rfl rfl rfl rfl) rfl ?_)
  (refine nx (a_lenM (gN rfl) rfl rfl rfl rfl rfl rfl rfl) rfl ?_)
  (refine nx (aA (gN rfl) rfl rfl rfl rfl rfl) rfl ?_)
  show AWp _ _ _ _ _ _ _
  refine aR ?_
  (refine nx (aM (gN rfl) rfl rfl rfl rfl rfl) rfl ?_)
  (refine nx (aM (gN rfl) rfl rfl rfl rfl rfl) rfl ?_)
  (refine nx (aM (gN rfl) rfl rfl rfl rfl rfl) rfl ?_)
  (refine nx (a_conv (gN rfl) rfl rfl rfl rfl rfl rfl rfl (by first | rfl | (rw [IntKind.wrap_i64]; omega) | assumption)) rfl ?_)
  (refine nx (a_call (gN rfl) rfl rfl rfl rfl rfl (len_abs w L.length hn)) rfl ?_)
  (refine nx (aM (gN rfl) rfl rfl rfl rfl rfl) rfl ?_)
  (refine nx (a_callO (gN rfl) rfl rfl rfl rfl rfl (hp) (by repeat (first | exact trivial | refine ⟨rfl, ?_⟩)) (by first | rfl | kernel_rfl) (by first | rfl | kernel_rfl) (by first | rfl | kernel_rfl) (by first | rfl | kernel_rfl) (hnb_of (by first | rfl | kernel_rfl))) rfl ?_)
  exact ⟨.inl rfl, _, Wk.refl _, rfl, rfl, trivial⟩
theorem sink_mem2 {α : Type} {lt : α → α → Bool} {a : Nat} : ∀ {j : Nat} {L : List α} {z : α}, z ∈ sink lt a j L → z ∈ L
  | 0, L, z, h => h
  | j + 1, L, z, h => by
    rw [sink] at h
    split at h
    · rename_i x y hx hy
      split at h
      · have h := sink_mem2 h
        rcases List.mem_or_eq_of_mem_set h with h | rfl
        · rcases List.mem_or_eq_of_mem_set h with h | rfl
          · exact h
          · exact List.mem_of_getElem? hy
        · exact List.mem_of_getElem? hx
      · exact h
    · exact h
theorem isort_mem2 {α : Type} {lt : α → α → Bool} {a : Nat} : ∀ {n i : Nat} {L : List α} {z : α}, z ∈ isortN lt a n i L → z ∈ L
  | 0, _, _, _, h => h
  | n + 1, i, L, z, h => by rw [isortN] at h; exact sink_mem2 (isort_mem2 h)
theorem trn_ok {l : Lt} (h : l.a.rng ∧ l.b.rng) : (trnL l).a.rng ∧ (trnL l).b.rng := by
  unfold trnL
  split
  · exact h
  · exact ⟨h.2, h.1⟩
-- 
set_option maxHeartbeats 2000000 in
theorem cTaut_abs (W : World) (c : List Lt) (hl : c.length ≤ 12) (hc : okC c) : AFun Tryz.prog W 25 [.lst (c.map Lt.cv)] (.val (.b (tautP c))) := by
  obtain ⟨M, hM⟩ : ∃ M, M = c.map trnL := ⟨_, rfl⟩
  have hMl : M.length = c.length := by rw [hM, List.length_map]
  have hMo : okC M := fun l hm => by
    rw [hM] at hm
    obtain ⟨x, hx, rfl⟩ := List.mem_map.1 hm
    exact trn_ok (hc x hx)
  obtain ⟨S, hS⟩ : ∃ S, S = srtL M := ⟨_, rfl⟩
  have hSl : S.length = c.length := by rw [hS]; unfold srtL; rw [isortN_len, hMl]
  have hSo : okC S := fun l hm => hMo l (by rw [hS] at hm; exact isort_mem2 hm)
  have hta := cTurnAll_abs c (by omega) hc
  rw [← hM, ← hMl] at hta
  have hso := sortL_abs cmpS (.sc (.func (.func 55) #[] #[])) M (by omega) (fun W x y hx hy => .inr ⟨_, rfl, cCmpS_abs W x y (hMo x hx) (hMo y hy)⟩)
  rw [show isortN (ltL cmpS) 0 (M.length - 1) 1 M = S from hS.symm] at hso
  have hco := fun w => conL_abs w holdB (.sc (.func (.func 52) #[] #[])) c (by omega) (fun W x hx => .inr ⟨_, rfl, cHold_abs W x (hc x hx)⟩)
  have htp : tautP c = (c.any holdB || adjB S) := by unfold tautP; rw [hS, hM]
  rw [htp]
  refine afun_of (rs := [.b (c.any holdB || adjB S)]) Tryz.func25 Tryz.ntmps25 rfl rfl rfl rfl ?_
  intro w U hW
  refine aS (aR ?_)
  (refine nx (aA (gN rfl) rfl rfl rfl rfl rfl) rfl ?_)
  show AWp _ _ _ _ _ _ _
  have hco := hco w
  cases hany : c.any holdB with
  | true =>
    rw [hany] at hco
    refine aS (aS (aR ?_))
    (refine nx (aM (gN rfl) rfl rfl rfl rfl rfl) rfl ?_)
    (refine nx (a_call (gN rfl) rfl rfl rfl rfl rfl (hco)) rfl ?_)
    show AWp _ _ _ _ _ _ _
    refine aC rfl (fun h => ?_) (fun h => by cases h)
    refine aS (aR ?_)
    (refine nx (aA (gN rfl) rfl rfl rfl rfl rfl) rfl ?_)
    show AWp _ _ _ _ _ _ _
    exact aT (And.intro (.inr rfl) rfl)
  | false =>
  rw [hany] at hco
  rw [Bool.false_or]
  refine aS (aS (aR ?_))
  (refine nx (aM (gN rfl) rfl rfl rfl rfl rfl) rfl ?_)
  (refine nx (a_call (gN rfl) rfl rfl rfl rfl rfl (hco)) rfl ?_)
  show AWp _ _ _ _ _ _ _
  refine aC rfl (fun h => by cases h) (fun h => aK ?_)
  show AWp _ _ _ _ _ _ _
  refine aS (aR ?_)
  (refine nx (aM (gN rfl) rfl rfl rfl rfl rfl) rfl ?_)
  (refine nx (a_callO (gN rfl) rfl rfl rfl rfl rfl (hta) (by repeat (first | exact trivial | refine ⟨rfl, ?_⟩)) rfl rfl rfl rfl (fun k v h => by first | (rw [hW.1] at h; cases h) | (have h2 := hU k v h; cases h2))) rfl ?_)
  (refine nx (aA (gN rfl) rfl rfl rfl rfl rfl) rfl ?_)
  show AWp _ _ _ _ _ _ _
  refine aS (aR ?_)
  (refine nx (aM (gN rfl) rfl rfl rfl rfl rfl) rfl ?_)
  (refine nx (a_callO (gN rfl) rfl rfl rfl rfl rfl (hso) (by repeat (first | exact trivial | refine ⟨rfl, ?_⟩)) (by first | rfl | kernel_rfl) (by first | rfl | kernel_rfl) (by first | rfl | kernel_rfl) (by first | rfl | kernel_rfl) (hnb_of (by first | rfl | kernel_rfl))) rfl ?_)
  show AWp _ _ _ _ _ _ _
  refine AWp.wk (wk_sub (s' := [(3, .sl 400000 0 S.length 5), (400000, .mrow 63 5 (S.map Lt.cv))]) ⟨by rw [hSl, ← hMl]; rfl, rfl, trivial⟩) ?_
  refine aS (aS (aR ?_))
  (refine nx (aM (gN rfl) rfl rfl rfl rfl rfl) rfl ?_)
  (refine nx (a_lenM (gN rfl) rfl rfl rfl rfl rfl rfl rfl) rfl ?_)
  (refine nx (aM (gN rfl) rfl rfl rfl rfl rfl) rfl ?_)
  show AWp _ _ _ _ _ _ _
  refine aB (awp_countI S.length (fun k => ∀ i, i < k → chkL S i = false) (fun k => [(3, .sl 400000 0 S.length 5), (12, .sl 400000 0 S.length 5), (13, .val (.i S.length)), (14, .val (.i k)), (400000, .mrow 63 5 (S.map Lt.cv))]) (wk_sub ⟨rfl, rfl, rfl, rfl, rfl, trivial⟩) (fun i hi => by omega) ?_)
  intro k hk hI
  refine aS (aR ?_)
  (refine nx (a_lss (gN rfl) rfl rfl rfl rfl rfl rfl) rfl ?_)
  show AWp _ _ _ _ _ _ _
  refine aS (aC rfl (fun hlt => ?_) (fun hlt => ?_))
  · have hkl : k < S.length := by simpa using hlt
    obtain ⟨x, hx⟩ : ∃ x, S[k]? = some x := ⟨S[k], List.getElem?_eq_getElem hkl⟩
    have hx' := Lt.map_at hx
    have hxm := List.mem_of_getElem? hx
    refine aK ?_
    show AWp _ _ _ _ _ _ _
    refine aS (aB (aS (aR ?_)))
    (refine nx (aM (gN rfl) rfl rfl rfl rfl rfl) rfl ?_)
    (refine nx (aIm (k := k) (gN rfl) rfl rfl rfl rfl rfl rfl rfl rfl rfl (by first | rfl | omega | (simp only [List.length_set, List.length_map, List.length_append, List.length_cons, List.length_nil] <;> omega) | (simp <;> omega))) rfl ?_)
    (refine nx (a_loadM (gN rfl) rfl rfl rfl rfl rfl rfl rfl rfl (hx') rfl (by first | rfl | omega | (simp only [List.length_set, List.length_map, List.length_append, List.length_cons, List.length_nil] <;> omega) | (simp <;> omega)) rfl rfl) rfl ?_)
    (refine nx (a_alloc (gN rfl) rfl rfl rfl rfl rfl rfl rfl rfl rfl rfl) rfl ?_)
    (refine nx (aA (gN rfl) rfl rfl rfl rfl rfl) rfl ?_)
    (refine nx (aSt (gN rfl) rfl rfl rfl rfl rfl rfl rfl rfl rfl rfl) rfl ?_)
    show AWp _ _ _ _ _ _ _
    refine AWp.wk (wk_sub (s' := [(3, .sl 400000 0 S.length 5), (4, .val (.i k)), (5, .bp 5 0 []), (100005, .bx x.cw), (12, .sl 400000 0 S.length 5), (13, .val (.i S.length)), (14, .val (.i k)), (400000, .mrow 63 5 (S.map Lt.cv))]) ⟨rfl, rfl, rfl, rfl, rfl, rfl, rfl, rfl, trivial⟩) ?_
    have next : ∀ i, chkL S k = false → i < k + 1 → chkL S i = false := fun i h hi => by
      rcases Nat.lt_or_ge i k with h1 | h1
      · exact hI i h1
      · rw [show i = k by omega]; exact h
    by_cases hk0 : k = 0
    · subst hk0
      have hch : chkL S 0 = false := by
        unfold chkL
        split
        · simp
        · rfl
      refine aS (aD (by kernel_rfl) (by kernel_rfl) ?_)
      (refine nx (aM (gN rfl) rfl rfl rfl rfl rfl) rfl ?_)
      (refine nx (a_gtr (gN rfl) rfl rfl rfl rfl rfl rfl) rfl ?_)
      (refine nx (aM (gN rfl) rfl rfl rfl rfl rfl) rfl ?_)
      (refine ⟨_, _, _, a_offt (go_off rfl rfl rfl rfl (by first | rfl | assumption | (simp; done) | (simp [*]; done))) rfl rfl rfl, rfl, ?_⟩)
      (refine ⟨_, _, _, a_offt (go_off rfl rfl rfl rfl (by first | rfl | assumption | (simp; done) | (simp [*]; done))) rfl rfl rfl, rfl, ?_⟩)
      (refine ⟨_, _, _, a_offt (go_off rfl rfl rfl rfl (by first | rfl | assumption | (simp; done) | (simp [*]; done))) rfl rfl rfl, rfl, ?_⟩)
      (refine ⟨_, _, _, a_offt (go_off rfl rfl rfl rfl (by first | rfl | assumption | (simp; done) | (simp [*]; done))) rfl rfl rfl, rfl, ?_⟩)
      (refine ⟨_, _, _, a_offt (go_off rfl rfl rfl rfl (by first | rfl | assumption | (simp; done) | (simp [*]; done))) rfl rfl rfl, rfl, ?_⟩)
      (refine ⟨_, _, _, a_offt (go_off rfl rfl rfl rfl (by first | rfl | assumption | (simp; done) | (simp [*]; done))) rfl rfl rfl, rfl, ?_⟩)
      (refine ⟨_, _, _, a_offt (go_off rfl rfl rfl rfl (by first | rfl | assumption | (simp; done) | (simp [*]; done))) rfl rfl rfl, rfl, ?_⟩)
      (refine ⟨_, _, _, a_offt (go_off rfl rfl rfl rfl (by first | rfl | assumption | (simp; done) | (simp [*]; done))) rfl rfl rfl, rfl, ?_⟩)
      (refine ⟨_, _, _, aPf (gN rfl) rfl rfl rfl rfl rfl ?hb rfl, rfl, ?_⟩; case hb => (first | rfl | assumption | (simp; done)))
      (refine nx (aM (gN rfl) rfl rfl rfl rfl rfl) rfl ?_)
      (refine ⟨_, _, _, a_offt (go_off rfl rfl rfl rfl (by first | rfl | assumption | (simp; done) | (simp [*]; done))) rfl rfl rfl, rfl, ?_⟩)
      (refine ⟨_, _, _, a_offt (go_off rfl rfl rfl rfl (by first | rfl | assumption | (simp; done) | (simp [*]; done))) rfl rfl rfl, rfl, ?_⟩)
      (refine ⟨_, _, _, a_offt (go_off rfl rfl rfl rfl (by first | rfl | assumption | (simp; done) | (simp [*]; done))) rfl rfl rfl, rfl, ?_⟩)
      (refine ⟨_, _, _, a_offt (go_off rfl rfl rfl rfl (by first | rfl | assumption | (simp; done) | (simp [*]; done))) rfl rfl rfl, rfl, ?_⟩)
      (refine ⟨_, _, _, a_offt (go_off rfl rfl rfl rfl (by first | rfl | assumption | (simp; done) | (simp [*]; done))) rfl rfl rfl, rfl, ?_⟩)
      (refine ⟨_, _, _, a_offt (go_off rfl rfl rfl rfl (by first | rfl | assumption | (simp; done) | (simp [*]; done))) rfl rfl rfl, rfl, ?_⟩)
      (refine ⟨_, _, _, a_offt (go_off rfl rfl rfl rfl (by first | rfl | assumption | (simp; done) | (simp [*]; done))) rfl rfl rfl, rfl, ?_⟩)
      (refine ⟨_, _, _, a_offt (go_off rfl rfl rfl rfl (by first | rfl | assumption | (simp; done) | (simp [*]; done))) rfl rfl rfl, rfl, ?_⟩)
      (refine ⟨_, _, _, aPf (gN rfl) rfl rfl rfl rfl rfl ?hb rfl, rfl, ?_⟩; case hb => (first | rfl | assumption | (simp; done)))
      refine ⟨by kernel_rfl, ?_⟩
      show AWp _ _ _ _ _ _ _
      refine aC rfl (fun h => by cases h) (fun h => aK ?_)
      show AWp _ _ _ _ _ _ _
      refine aR ?_
      (refine nx (a_add (gN rfl) rfl rfl rfl rfl rfl rfl (by first | omega | (simp only [List.length_map, List.length_append, List.length_cons, List.length_nil] <;> omega) | (simp <;> omega))) rfl ?_)
      (refine nx (aM (gN rfl) rfl rfl rfl rfl rfl) rfl ?_)
      exact ⟨hkl, fun i hi => next i hch hi, wk_sub ⟨rfl, rfl, rfl, rfl, rfl, trivial⟩⟩
    · obtain ⟨y, hy⟩ : ∃ y, S[k - 1]? = some y := ⟨S[k - 1]'(by omega), List.getElem?_eq_getElem (by omega)⟩
      have hy' := Lt.map_at hy
      have hym := List.mem_of_getElem? hy
      have g0 : decide ((k : Int) > 0) = true := by rw [decide_eq_true_eq]; omega
      have ek : (k : Int) - 1 = ((k - 1 : Nat) : Int) := by omega
      have hss := cSign2_abs w x y
      have hcs := cCmpS_abs w x y (hSo x hxm) (hSo y hym)
      have hchk : chkL S k = ((!(x.neg == y.neg)) && decide (cmpS x y = 0)) := by
        unfold chkL
        rw [hx, hy]
        simp [show 0 < k by omega]
      cases hsg : (x.neg == y.neg) with
      | true =>
        rw [hsg] at hss
        have hch : chkL S k = false := by rw [hchk, hsg]; rfl
        refine aS (aD (by kernel_rfl) (by kernel_rfl) ?_)
        (refine nx (aM (gN rfl) rfl rfl rfl rfl rfl) rfl ?_)
        (refine nx (a_gtr (gN rfl) rfl rfl rfl rfl rfl rfl) rfl ?_)
        (refine nx (aM (gN rfl) rfl rfl rfl rfl rfl) rfl ?_)
        (refine nx (aL (gd_on rfl rfl rfl rfl (by first | rfl | assumption | (simp; done))) rfl rfl rfl rfl rfl rfl rfl rfl rfl rfl rfl rfl) rfl ?_)
        (refine nx (aM (gd_on rfl rfl rfl rfl (by first | rfl | assumption | (simp; done))) rfl rfl rfl rfl rfl) rfl ?_)
        (refine nx (aM (gd_on rfl rfl rfl rfl (by first | rfl | assumption | (simp; done))) rfl rfl rfl rfl rfl) rfl ?_)
        (refine nx (a_sub (gd_on rfl rfl rfl rfl (by first | rfl | assumption | (simp; done))) rfl rfl rfl rfl rfl rfl (by first | omega | (simp only [List.length_map, List.length_append, List.length_cons, List.length_nil] <;> omega) | (simp <;> omega))) rfl ?_)
        (refine nx (aIm (k := k - 1) (gd_on rfl rfl rfl rfl (by first | rfl | assumption | (simp; done))) rfl rfl rfl rfl rfl rfl rfl rfl rfl (by first | rfl | omega | (simp only [List.length_set, List.length_map, List.length_append, List.length_cons, List.length_nil] <;> omega) | (simp <;> omega))) rfl ?_)
        (refine nx (a_loadM (gd_on rfl rfl rfl rfl (by first | rfl | assumption | (simp; done))) rfl rfl rfl rfl rfl rfl rfl rfl (hy') rfl (by first | rfl | omega | (simp only [List.length_set, List.length_map, List.length_append, List.length_cons, List.length_nil] <;> omega) | (simp <;> omega)) rfl rfl) rfl ?_)
        (refine nx (a_call (gd_on rfl rfl rfl rfl (by first | rfl | assumption | (simp; done))) rfl rfl rfl rfl rfl (hss)) rfl ?_)
        (refine nx (a_not (gd_on rfl rfl rfl rfl (by first | rfl | assumption | (simp; done))) rfl rfl rfl rfl rfl) rfl ?_)
        (refine ⟨_, _, _, aPt (gN rfl) rfl rfl rfl rfl rfl ?hb rfl, rfl, ?_⟩; case hb => (first | rfl | assumption | (simp; done)))
        (refine nx (aM (gN rfl) rfl rfl rfl rfl rfl) rfl ?_)
        (refine ⟨_, _, _, a_offt (go_off rfl rfl rfl rfl (by first | rfl | assumption | (simp; done) | (simp [*]; done))) rfl rfl rfl, rfl, ?_⟩)
        (refine ⟨_, _, _, a_offt (go_off rfl rfl rfl rfl (by first | rfl | assumption | (simp; done) | (simp [*]; done))) rfl rfl rfl, rfl, ?_⟩)
        (refine ⟨_, _, _, a_offt (go_off rfl rfl rfl rfl (by first | rfl | assumption | (simp; done) | (simp [*]; done))) rfl rfl rfl, rfl, ?_⟩)
        (refine ⟨_, _, _, a_offt (go_off rfl rfl rfl rfl (by first | rfl | assumption | (simp; done) | (simp [*]; done))) rfl rfl rfl, rfl, ?_⟩)
        (refine ⟨_, _, _, a_offt (go_off rfl rfl rfl rfl (by first | rfl | assumption | (simp; done) | (simp [*]; done))) rfl rfl rfl, rfl, ?_⟩)
        (refine ⟨_, _, _, a_offt (go_off rfl rfl rfl rfl (by first | rfl | assumption | (simp; done) | (simp [*]; done))) rfl rfl rfl, rfl, ?_⟩)
        (refine ⟨_, _, _, a_offt (go_off rfl rfl rfl rfl (by first | rfl | assumption | (simp; done) | (simp [*]; done))) rfl rfl rfl, rfl, ?_⟩)
        (refine ⟨_, _, _, a_offt (go_off rfl rfl rfl rfl (by first | rfl | assumption | (simp; done) | (simp [*]; done))) rfl rfl rfl, rfl, ?_⟩)
        (refine ⟨_, _, _, aPf (gN rfl) rfl rfl rfl rfl rfl ?hb rfl, rfl, ?_⟩; case hb => (first | rfl | assumption | (simp; done)))
        refine ⟨by kernel_rfl, ?_⟩
        show AWp _ _ _ _ _ _ _
        refine aC rfl (fun h => by cases h) (fun h => aK ?_)
        show AWp _ _ _ _ _ _ _
        refine aR ?_
        (refine nx (a_add (gN rfl) rfl rfl rfl rfl rfl rfl (by first | omega | (simp only [List.length_map, List.length_append, List.length_cons, List.length_nil] <;> omega) | (simp <;> omega))) rfl ?_)
        (refine nx (aM (gN rfl) rfl rfl rfl rfl rfl) rfl ?_)
        exact ⟨hkl, fun i hi => next i hch hi, wk_sub ⟨rfl, rfl, rfl, rfl, rfl, trivial⟩⟩
      | false =>
        rw [hsg] at hss hchk
        refine aS (aD (by kernel_rfl) (by kernel_rfl) ?_)
        (refine nx (aM (gN rfl) rfl rfl rfl rfl rfl) rfl ?_)
        (refine nx (a_gtr (gN rfl) rfl rfl rfl rfl rfl rfl) rfl ?_)
        (refine nx (aM (gN rfl) rfl rfl rfl rfl rfl) rfl ?_)
        (refine nx (aL (gd_on rfl rfl rfl rfl (by first | rfl | assumption | (simp; done))) rfl rfl rfl rfl rfl rfl rfl rfl rfl rfl rfl rfl) rfl ?_)
        (refine nx (aM (gd_on rfl rfl rfl rfl (by first | rfl | assumption | (simp; done))) rfl rfl rfl rfl rfl) rfl ?_)
        (refine nx (aM (gd_on rfl rfl rfl rfl (by first | rfl | assumption | (simp; done))) rfl rfl rfl rfl rfl) rfl ?_)
        (refine nx (a_sub (gd_on rfl rfl rfl rfl (by first | rfl | assumption | (simp; done))) rfl rfl rfl rfl rfl rfl (by first | omega | (simp only [List.length_map, List.length_append, List.length_cons, List.length_nil] <;> omega) | (simp <;> omega))) rfl ?_)
        (refine nx (aIm (k := k - 1) (gd_on rfl rfl rfl rfl (by first | rfl | assumption | (simp; done))) rfl rfl rfl rfl rfl rfl rfl rfl rfl (by first | rfl | omega | (simp only [List.length_set, List.length_map, List.length_append, List.length_cons, List.length_nil] <;> omega) | (simp <;> omega))) rfl ?_)
        (refine nx (a_loadM (gd_on rfl rfl rfl rfl (by first | rfl | assumption | (simp; done))) rfl rfl rfl rfl rfl rfl rfl rfl (hy') rfl (by first | rfl | omega | (simp only [List.length_set, List.length_map, List.length_append, List.length_cons, List.length_nil] <;> omega) | (simp <;> omega)) rfl rfl) rfl ?_)
        (refine nx (a_call (gd_on rfl rfl rfl rfl (by first | rfl | assumption | (simp; done))) rfl rfl rfl rfl rfl (hss)) rfl ?_)
        (refine nx (a_not (gd_on rfl rfl rfl rfl (by first | rfl | assumption | (simp; done))) rfl rfl rfl rfl rfl) rfl ?_)
        (refine ⟨_, _, _, aPt (gN rfl) rfl rfl rfl rfl rfl ?hb rfl, rfl, ?_⟩; case hb => (first | rfl | assumption | (simp; done)))
        (refine nx (aM (gN rfl) rfl rfl rfl rfl rfl) rfl ?_)
        (refine nx (aL (gd_on rfl rfl rfl rfl (by first | rfl | assumption | (simp; done))) rfl rfl rfl rfl rfl rfl rfl rfl rfl rfl rfl rfl) rfl ?_)
        (refine nx (aM (gd_on rfl rfl rfl rfl (by first | rfl | assumption | (simp; done))) rfl rfl rfl rfl rfl) rfl ?_)
        (refine nx (aM (gd_on rfl rfl rfl rfl (by first | rfl | assumption | (simp; done))) rfl rfl rfl rfl rfl) rfl ?_)
        (refine nx (a_sub (gd_on rfl rfl rfl rfl (by first | rfl | assumption | (simp; done))) rfl rfl rfl rfl rfl rfl (by first | omega | (simp only [List.length_map, List.length_append, List.length_cons, List.length_nil] <;> omega) | (simp <;> omega))) rfl ?_)
        (refine nx (aIm (k := k - 1) (gd_on rfl rfl rfl rfl (by first | rfl | assumption | (simp; done))) rfl rfl rfl rfl rfl rfl rfl rfl rfl (by first | rfl | omega | (simp only [List.length_set, List.length_map, List.length_append, List.length_cons, List.length_nil] <;> omega) | (simp <;> omega))) rfl ?_)
        (refine nx (a_loadM (gd_on rfl rfl rfl rfl (by first | rfl | assumption | (simp; done))) rfl rfl rfl rfl rfl rfl rfl rfl (hy') rfl (by first | rfl | omega | (simp only [List.length_set, List.length_map, List.length_append, List.length_cons, List.length_nil] <;> omega) | (simp <;> omega)) rfl rfl) rfl ?_)
        (refine nx (a_call (gd_on rfl rfl rfl rfl (by first | rfl | assumption | (simp; done))) rfl rfl rfl rfl rfl (hcs)) rfl ?_)
        (refine nx (a_eql (gd_on rfl rfl rfl rfl (by first | rfl | assumption | (simp; done))) rfl rfl rfl rfl rfl rfl) rfl ?_)
        (refine ⟨_, _, _, aPt (gN rfl) rfl rfl rfl rfl rfl ?hb rfl, rfl, ?_⟩; case hb => (first | rfl | assumption | (simp; done)))
        refine ⟨by kernel_rfl, ?_⟩
        show AWp _ _ _ _ _ _ _
        refine aC rfl (fun h => ?_) (fun h => aK ?_)
        · have hyes : adjB S = true := List.any_eq_true.2 ⟨k, List.mem_range.2 hkl, by rw [hchk]; exact h⟩
          rw [hyes]
          refine aS (aR ?_)
          (refine nx (aA (gN rfl) rfl rfl rfl rfl rfl) rfl ?_)
          show AWp _ _ _ _ _ _ _
          exact aT (And.intro (.inr rfl) rfl)
        · have hch : chkL S k = false := by rw [hchk]; exact h
          show AWp _ _ _ _ _ _ _
          refine aR ?_
          (refine nx (a_add (gN rfl) rfl rfl rfl rfl rfl rfl (by first | omega | (simp only [List.length_map, List.length_append, List.length_cons, List.length_nil] <;> omega) | (simp <;> omega))) rfl ?_)
          (refine nx (aM (gN rfl) rfl rfl rfl rfl rfl) rfl ?_)
          exact ⟨hkl, fun i hi => next i hch hi, wk_sub ⟨rfl, rfl, rfl, rfl, rfl, trivial⟩⟩
  · have hkl : k = S.length := by
      have : ¬ k < S.length := by simpa using hlt
      omega
    subst hkl
    have hno : adjB S = false := by
      unfold adjB
      rw [List.any_eq_false]
      intro i hi
      rw [hI i (List.mem_range.1 hi)]; simp
    rw [hno]
    refine aE ?_
    show AWp _ _ _ _ _ _ _
    refine aS (aR ?_)
    (refine nx (aA (gN rfl) rfl rfl rfl rfl rfl) rfl ?_)
    show AWp _ _ _ _ _ _ _
    exact aT (And.intro (.inr rfl) rfl)
def wtC (c : List Lt) : Nat := (c.map fun l => l.a.size + l.b.size).sum
-- 
theorem cWeight_abs (W : World) (c : List Lt) (hn : c.length ≤ 1000000) (hl : wtC c ≤ 1000000000) (hc : okC c) : AFun Tryz.prog W 17 [.lst (c.map Lt.cv)] (.val (.i (wtC c : Int))) := by
  have hsz := Lt.size_all c
  have htk : ∀ k, wtC (c.take k) ≤ wtC c := fun k => by
    have : wtC c = wtC (c.take k) + wtC (c.drop k) := by
      unfold wtC
      rw [← List.sum_append, ← List.map_append, List.take_append_drop]
    omega
  refine afun_of (rs := [.i (wtC c : Int)]) Tryz.func17 Tryz.ntmps17 rfl rfl rfl rfl ?_
  intro w U hW
  refine aS (aR ?_)
  (refine nx (aA (gN rfl) rfl rfl rfl rfl rfl) rfl ?_)
  show AWp _ _ _ _ _ _ _
  refine aS (aR ?_)
  (refine nx (aA (gN rfl) rfl rfl rfl rfl rfl) rfl ?_)
  show AWp _ _ _ _ _ _ _
  refine aS (aS (aR ?_))
  (refine nx (aM (gN rfl) rfl rfl rfl rfl rfl) rfl ?_)
  (refine nx (a_len (gN rfl) rfl rfl rfl rfl rfl rfl rfl) rfl ?_)
  (refine nx (aM (gN rfl) rfl rfl rfl rfl rfl) rfl ?_)
  show AWp _ _ _ _ _ _ _
  refine aB (awp_count c.length (fun k => [(3, .val (.i (wtC (c.take k) : Int))), (6, .val (.lst (c.map Lt.cv))), (7, .val (.i (c.map Lt.cv).length)), (8, .val (.i k))]) (wk_sub ⟨rfl, rfl, rfl, rfl, trivial⟩) ?_)
  intro k hk
  refine aS (aR ?_)
  (refine nx (a_lss (gN rfl) rfl rfl rfl rfl rfl rfl) rfl ?_)
  show AWp _ _ _ _ _ _ _
  refine aS (aC rfl (fun hlt => ?_) (fun hlt => ?_))
  · have hkl : k < c.length := by simpa using hlt
    obtain ⟨x, hx⟩ : ∃ x, c[k]? = some x := ⟨c[k], List.getElem?_eq_getElem hkl⟩
    have hx' := Lt.map_at hx
    have hxm := List.mem_of_getElem? hx
    have hw1 : wtC (c.take (k + 1)) = wtC (c.take k) + (x.a.size + x.b.size) := by
      unfold wtC
      rw [List.take_add_one, hx, List.map_append, List.sum_append]
      simp
    have hle := htk (k + 1)
    have s1 := size_abs w (hc x hxm).1 (by omega)
    have s2 := size_abs w (hc x hxm).2 (by omega)
    refine aK ?_
    show AWp _ _ _ _ _ _ _
    refine aS (aB (aS (aR ?_)))
    (refine nx (a_index (j := k) (gN rfl) rfl rfl rfl rfl rfl rfl rfl rfl rfl (hx') rfl (hsz)) rfl ?_)
    (refine nx (a_load_ad (gN rfl) rfl rfl rfl rfl rfl rfl rfl rfl rfl) rfl ?_)
    (refine nx (a_alloc (gN rfl) rfl rfl rfl rfl rfl rfl rfl rfl rfl rfl) rfl ?_)
    (refine nx (aSt (gN rfl) rfl rfl rfl rfl rfl rfl rfl rfl rfl rfl) rfl ?_)
    show AWp _ _ _ _ _ _ _
    refine aD (by kernel_rfl) (by kernel_rfl) ?_
    (refine nx (aM (gN rfl) rfl rfl rfl rfl rfl) rfl ?_)
    (refine nx (aF (gN rfl) rfl rfl rfl rfl rfl rfl rfl rfl rfl) rfl ?_)
    (refine nx (aLb (gN rfl) rfl rfl rfl rfl rfl rfl rfl rfl rfl rfl rfl rfl) rfl ?_)
    (refine nx (a_call (gN rfl) rfl rfl rfl rfl rfl (s1)) rfl ?_)
    (refine nx (aF (gN rfl) rfl rfl rfl rfl rfl rfl rfl rfl rfl) rfl ?_)
    (refine nx (aLb (gN rfl) rfl rfl rfl rfl rfl rfl rfl rfl rfl rfl rfl rfl) rfl ?_)
    (refine nx (a_call (gN rfl) rfl rfl rfl rfl rfl (s2)) rfl ?_)
    (refine nx (a_add (gN rfl) rfl rfl rfl rfl rfl rfl (by first | omega | (simp only [List.length_map, List.length_append, List.length_cons, List.length_nil] <;> omega) | (simp <;> omega))) rfl ?_)
    (refine nx (a_add (gN rfl) rfl rfl rfl rfl rfl rfl (by first | omega | (simp only [List.length_map, List.length_append, List.length_cons, List.length_nil] <;> omega) | (simp <;> omega))) rfl ?_)
    (refine nx (aA (gN rfl) rfl rfl rfl rfl rfl) rfl ?_)
    refine ⟨by kernel_rfl, ?_⟩
    show AWp _ _ _ _ _ _ _
    refine aR ?_
    (refine nx (a_add (gN rfl) rfl rfl rfl rfl rfl rfl (by first | omega | (simp only [List.length_map, List.length_append, List.length_cons, List.length_nil] <;> omega) | (simp <;> omega))) rfl ?_)
    (refine nx (aM (gN rfl) rfl rfl rfl rfl rfl) rfl ?_)
    refine ⟨hkl, wk_sub ⟨?_, rfl, rfl, rfl, trivial⟩⟩
    rw [hw1, Int.natCast_add, Int.natCast_add]
    rfl
  · have hkl : k = c.length := by
      have : ¬ k < c.length := by simpa using hlt
      omega
    subst hkl
    rw [List.take_length]
    refine aE ?_
    show AWp _ _ _ _ _ _ _
    refine aS (aR ?_)
    (refine nx (aM (gN rfl) rfl rfl rfl rfl rfl) rfl ?_)
    (refine nx (aA (gN rfl) rfl rfl rfl rfl rfl) rfl ?_)
    show AWp _ _ _ _ _ _ _
    exact aT (And.intro (.inr rfl) rfl)
end Go.Proofs.YtmeegdomncadpaaGreat
namespace Go.Proofs.YtmeegdomncadpaaGreat
open Go.RowKit
set_option linter.unusedVariables false
set_option linter.unusedSimpArgs false
section
variable {P : Program} {w0 : World} {U0 : UX} {nt : Nat} {ops : Array Oper} {o : Oper} {S : Nat → Option AV} {gs : List Nat} {d : Nat} {s : AS} {a : Act} {w : World} {D : Nat → Nat → Prop} {hv : Nat → Value}

def aggA (av : AV) : Bool := match Nat.beq av.t 0 with | true => Nat.beq av.c.k 2 | false => false
def fldB (av : AV) : Bool := Nat.beq av.t 0 || Nat.beq av.t 2 || Nat.beq av.t 11 || Nat.beq av.t 12 || Nat.beq av.t 15
def zeroAV (c : CV) : AV := ⟨0, c, match isNilC c with | true => 1 | false => 0, 0, []⟩
noncomputable def fldsA (d : Nat) : List CV → Nat → AS
  | [], _ => []
  | c :: cs, o => (fKey d o, zeroAV c) :: fldsA d cs (o + c.size)
end
end Go.Proofs.YtmeegdomncadpaaGreat
namespace Go.Proofs.YtmeegdomncadpaaGreat
open Go.RowKit Go.MapKept
set_option linter.unusedVariables false
set_option linter.unusedSimpArgs false
section
variable {P : Program} {w0 : World} {U0 : UX} {nt : Nat} {ops : Array Oper} {o : Oper} {S : Nat → Option AV} {gs : List Nat} {d : Nat} {s : AS} {a : Act} {w : World} {D : Nat → Nat → Prop} {hv : Nat → Value}
def IntKeys (k : IntKind) (l : List CV) : Prop := ∀ r ∈ l, ∃ i c, r = .row [.sc (.int k i), c]
def lookR (k : IntKind) (i : Int) : List CV → Option CV
  | [] => none
  | ⟨_, _, [⟨_, .int k' j, _⟩, c]⟩ :: l => if k' = k ∧ j = i then some c else lookR k i l
  | _ :: l => lookR k i l
theorem lookR_row {k : IntKind} {i j : Int} {c : CV} {l : List CV} : lookR k i (.row [.sc (.int k j), c] :: l) = if j = i then some c else lookR k i l := by
  rw [lookR]; simp
theorem find_spec {U : Nat → Nat → Prop} {k : IntKind} {i : Int} : ∀ {l : List CV} {es : List MapEntry} (n : Nat), Ents U w l es → IntKeys k l →
    (Instr.findNow (.int k) (.int k i) es n = some none ∧ lookR k i l = none) ∨ ∃ j e c, Instr.findNow (.int k) (.int k i) es n = some (some (n + j, e.val)) ∧ es[j]? = some e ∧ l[j]? = some (.row [.sc (.int k i), c]) ∧ VRep U w c e.val ∧ e.key = .int k i ∧ lookR k i l = some c
  | [], es, n, h, _ => by have h : es = [] := h; subst h; exact .inl ⟨rfl, rfl⟩
  | r :: l, es, n, ⟨e, es', h1, ⟨k1, c1, g2, g3, g4, g5⟩, h3⟩, hk => by
    obtain ⟨j0, c0, e1⟩ := hk r (by simp)
    rw [e1] at g2
    injection g2 with _ _ g6
    injection g6 with g6 g7
    injection g7 with g7 _
    subst g7
    have hkey : e.key = .int k j0 := by rw [g4, ← g6]
    subst h1
    rw [e1, lookR_row]
    by_cases hj : j0 = i
    · subst hj
      right
      refine ⟨0, e, c0, ?_, rfl, rfl, g5, hkey, by rw [if_pos rfl]⟩
      simp [Instr.findNow, Instr.sameNow, hkey]
    · rw [if_neg hj]
      have hs : Instr.sameNow (.int k) (.int k i) e.key = some false := by
        rw [hkey]
        simp [Instr.sameNow]
        exact fun h => hj h.symm
      rcases find_spec (n + 1) h3 (fun x hx => hk x (List.mem_cons_of_mem _ hx)) with ⟨f1, f2⟩ | ⟨j, e', c, f1, f2, f3, f4, f5, f6⟩
      · left; exact ⟨by simp [Instr.findNow, hs, f1], f2⟩
      · right
        refine ⟨j + 1, e', c, ?_, by simpa using f2, by simpa using f3, f4, f5, f6⟩
        simp [Instr.findNow, hs, f1]
        omega

def putR (k : IntKind) (i : Int) (c : CV) : List CV → List CV
  | [] => [.row [.sc (.int k i), c]]
  | r :: l => match r with
    | ⟨_, _, [⟨_, .int k' j, _⟩, _]⟩ => if k' = k ∧ j = i then .row [.sc (.int k i), c] :: l else r :: putR k i c l
    | _ => r :: putR k i c l
theorem putR_row {k : IntKind} {i j : Int} {c c' : CV} {l : List CV} : putR k i c (.row [.sc (.int k j), c'] :: l) = if j = i then .row [.sc (.int k i), c] :: l else .row [.sc (.int k j), c'] :: putR k i c l := by
  rw [putR]; simp
theorem putR_spec {k : IntKind} {i : Int} (c : CV) : ∀ {l : List CV}, IntKeys k l → (lookR k i l = none → putR k i c l = l ++ [.row [.sc (.int k i), c]]) ∧ ∀ j c', l[j]? = some (.row [.sc (.int k i), c']) → (∀ j' c'', j' < j → l[j']? ≠ some (.row [.sc (.int k i), c''])) → putR k i c l = l.set j (.row [.sc (.int k i), c])
  | [], _ => ⟨fun _ => rfl, fun j c' h => by simp at h⟩
  | r :: l, hk => by
    obtain ⟨j0, c0, rfl⟩ := hk r (by simp)
    obtain ⟨ih1, ih2⟩ := putR_spec c (l := l) (fun x hx => hk x (List.mem_cons_of_mem _ hx))
    rw [putR_row, lookR_row]
    by_cases hj : j0 = i
    · subst hj
      rw [if_pos rfl, if_pos rfl]
      refine ⟨(fun h => by cases h), fun j c' h hf => ?_⟩
      cases j with
      | zero => rfl
      | succ j => exact absurd rfl (hf 0 c0 (by omega))
    · rw [if_neg hj, if_neg hj]
      refine ⟨fun h => by rw [ih1 h]; rfl, fun j c' h hf => ?_⟩
      cases j with
      | zero =>
        simp at h
        exact absurd h.1 hj
      | succ j =>
        rw [ih2 j c' (by simpa using h) fun j' c'' hlt => by have := hf (j' + 1) c'' (by omega); simpa using this]
        rfl
theorem find_first {U : Nat → Nat → Prop} {k : IntKind} {i : Int} : ∀ {l : List CV} {es : List MapEntry} (n : Nat) {j : Nat} {v : Value}, Ents U w l es → IntKeys k l → Instr.findNow (.int k) (.int k i) es n = some (some (n + j, v)) → ∀ j' c'', j' < j → l[j']? ≠ some (.row [.sc (.int k i), c''])
  | [], es, n, j, v, h, _, hf => by have h : es = [] := h; subst h; cases hf
  | r :: l, es, n, j, v, ⟨e, es', h1, ⟨k1, c1, g2, g3, g4, g5⟩, h3⟩, hk, hf => by
    obtain ⟨j0, c0, e1⟩ := hk r (by simp)
    rw [e1] at g2
    injection g2 with _ _ g6
    injection g6 with g6 g7
    have hkey : e.key = .int k j0 := by rw [g4, ← g6]
    subst h1
    intro j' c'' hlt hr
    by_cases hj : j0 = i
    · subst hj
      simp [Instr.findNow, Instr.sameNow, hkey] at hf
      omega
    · have hs : Instr.sameNow (.int k) (.int k i) e.key = some false := by
        rw [hkey]
        simp [Instr.sameNow]
        exact fun h => hj h.symm
      simp [Instr.findNow, hs] at hf
      cases j' with
      | zero =>
        rw [e1] at hr
        simp at hr
        exact hj hr.1
      | succ j' =>
        obtain ⟨j2, rfl⟩ : ∃ j2, j = j2 + 1 := ⟨j - 1, by omega⟩
        exact find_first (n + 1) (j := j2) h3 (fun x hx => hk x (List.mem_cons_of_mem _ hx)) (by rw [hf]; congr 3; omega) j' c'' (by omega) (by simpa using hr)
theorem ents_set {U : Nat → Nat → Prop} {r : CV} {e' : MapEntry} : ∀ {l : List CV} {es : List MapEntry} {j : Nat}, Ents U w l es → Ent U w r e' → Ents U w (l.set j r) (es.set j e')
  | [], es, j, h, _ => by have h : es = [] := h; subst h; exact rfl
  | x :: l, es, 0, ⟨e, es', h1, h2, h3⟩, hr => by rw [h1]; exact ⟨e', es', rfl, hr, h3⟩
  | x :: l, es, j + 1, ⟨e, es', h1, h2, h3⟩, hr => by rw [h1]; exact ⟨e, es'.set j e', rfl, h2, ents_set h3 hr⟩
theorem ents_snoc {U : Nat → Nat → Prop} {r : CV} {e' : MapEntry} : ∀ {l : List CV} {es : List MapEntry}, Ents U w l es → Ent U w r e' → Ents U w (l ++ [r]) (es ++ [e'])
  | [], es, h, hr => by have h : es = [] := h; subst h; exact ⟨e', [], rfl, hr, rfl⟩
  | x :: l, es, ⟨e, es', h1, h2, h3⟩, hr => by rw [h1]; exact ⟨e, es' ++ [e'], rfl, h2, ents_snoc h3 hr⟩

end
end Go.Proofs.YtmeegdomncadpaaGreat
namespace Go.Proofs.YtmeegdomncadpaaGreat
open Go.RowKit
set_option linter.unusedVariables false
set_option linter.unusedSimpArgs false
section
variable {P : Program} {w0 : World} {U0 : UX} {nt : Nat} {ops : Array Oper} {o : Oper} {S : Nat → Option AV} {gs : List Nat} {d : Nat} {s : AS} {a : Act} {w : World} {D : Nat → Nat → Prop} {hv : Nat → Value}

theorem AOp.plain {R : List Nat} {N : List (Nat × List Nat)} {c : CV} {n q : Nat} {p : List Nat} (h5 : Nat.blt d 100000 = true) (h : AOp P w0 U0 nt ops o R N S [(d, ⟨0, c, n, q, p⟩)]) : AOp P w0 U0 nt ops o R N S [(d, .val c)] := by
  intro s hs hN a w hsim Q K hK
  refine h s hs hN a w hsim Q K fun a' w' hs' => hK a' w' ?_
  obtain ⟨D, hv, hg⟩ := hs'
  obtain ⟨v, g1, g2⟩ := hg.slot d _ (lS _ _ _) (bL h5)
  refine ⟨D, hv, (hg.know (bL h5) g1 (avrep_val g2.1)).congr fun k => ?_⟩
  show look ((d, AV.val c) :: s) k = look ((d, AV.val c) :: (d, _) :: s) k
  rw [look_cons, look_cons, look_cons]
  split <;> rfl
theorem a_buildP (hg : Gd w0 U0 nt ops o gs S) (hd : o.dst = some d) (hn : Nat.blt d nt = true) (h5 : Nat.blt d 100000 = true) {t : TypeId} {parts : Array (Nat × Operand)} {fs : Array Field} {it : TypeInfo} {cs : Array Value} {sz : List Nat} {zs r : List CV} {n : Nat} {p : List Nat} (ho : o.op = .build t parts) (hu : P.underlying t = some (.struct fs)) (hi : P.info? t = some it) (hz : it.zero = some (.agg cs)) (hsz : szO P fs.toList 0 = some sz) (h0 : zsO sz cs.toList = some zs) (hr : setsO S parts.toList zs = some r) (hp : nilB zs parts.toList 0 = (n, p)) :
    AOp P w0 U0 nt ops o (gs ++ rds parts.toList) [] S [(d, .val (.row r))] := (a_build hg hd hn h5 ho hu hi hz hsz h0 hr hp).plain h5

end
section
variable {P : Program} {w0 : World} {U0 : UX} {nt : Nat} {ops : Array Oper} {o : Oper} {S : Nat → Option AV} {gs : List Nat} {d : Nat} {s : AS} {a : Act} {w : World} {D : Nat → Nat → Prop} {hv : Nat → Value}
def noMref (s : AS) (n : Nat) : Bool := s.all fun p => !((Nat.beq p.2.t 15 || Nat.beq p.2.t 19) && Nat.beq p.2.n n)
def SameS (S : Nat → Option AV) (ks : List Nat) : AS → Prop
  | [] => True
  | (k, av) :: l => (hasN ks k = true ∨ S k = some av) ∧ SameS S ks l
theorem SameS.look {ks : List Nat} : ∀ {l : AS}, SameS S ks l → ∀ {k av}, look l k = some av → hasN ks k = false → S k = some av
  | [], _, k, av, h, _ => by cases h
  | (k', av') :: l, ⟨h1, h2⟩, k, av, h, hn => by
    rw [look_cons] at h
    split at h
    · rename_i e
      subst e
      cases h
      rcases h1 with h1 | h1
      · rw [h1] at hn; cases hn
      · exact h1
    · exact SameS.look h2 h hn
end
section
variable {P : Program} {w0 : World} {U0 : UX} {nt : Nat} {ops : Array Oper} {o : Oper} {S : Nat → Option AV} {gs : List Nat} {d : Nat} {s : AS} {a : Act} {w : World} {D : Nat → Nat → Prop} {hv : Nat → Value}
def noL (ds : List Nat) : AS := ds.map fun d => (d, AV.no)
end
end Go.Proofs.YtmeegdomncadpaaGreat
namespace Go.Proofs.YtmeegdomncadpaaGreat
open Go.RowKit Go.MapKept
set_option linter.unusedVariables false
set_option linter.unusedSimpArgs false
section
variable {P : Program} {w0 : World} {U0 : UX} {nt : Nat} {ops : Array Oper} {o : Oper} {S : Nat → Option AV} {gs : List Nat} {d : Nat} {s : AS} {a : Act} {w : World} {D : Nat → Nat → Prop} {hv : Nat → Value}
end
def collPostL (L D : Nat) (Kp : World → World → Prop) (I : World → Prop) (W : World) : Exit → Act → World → Prop
  | .normal, _, W' => W'.heap[L]? = W.heap[L]? ∧ W'.heap[D]? = W.heap[D]? ∧ Kp W W' ∧ I W'
  | _, _, _ => False

section
variable {α : Type} {P : Program}
end

section
variable {P : Program} {w0 : World} {U0 : UX} {nt : Nat} {ops : Array Oper} {o : Oper} {S : Nat → Option AV} {gs : List Nat} {d : Nat} {s : AS} {a : Act} {w : World} {D : Nat → Nat → Prop} {hv : Nat → Value}

abbrev AV.ob (g o : Nat) : AV := ⟨20, .sc (.pointer (some ⟨g, 0, none⟩)), 0, o, []⟩
end
def KpX (n0 : Nat) (X : Nat → Prop) (V V' : World) : Prop := ∀ b, b < n0 → ¬ X b → V'.heap[b]? = V.heap[b]?
def Hands {α : Type} (P : Program) (gf : Nat) (caps : List CV) (encC : α → List CV) (xs : List α) : Prop :=
  ∀ (w : World) (lb : List Value) (R : Nat → Nat → Prop), VReps R w caps lb → Gives P gf lb.toArray (fun x => ((encC x).map CV.v).toArray) (fun pre x _ => xs[pre.length]? = some x) (KpX w.heap.size fun b => ¬ ∃ o, R b o) (fun ys => ys = xs) w

def asgL : List Oper → Option (List (Nat × Nat))
  | [] => some []
  | o :: os => match o.dst, o.op, o.guard, asgL os with
    | some d, .assign (.tmp t), none, some r => some ((d, t) :: r)
    | _, _, _, _ => none
def asgT : List (Nat × Nat) → Array Value → Array Value
  | [], tm => tm
  | (d, t) :: r, tm => asgT r (tm.setIfInBounds d (tm.getD t undef))
def asgS : List (Nat × Nat) → AS → AS
  | [], s => s
  | (d, t) :: r, s => asgS r ((d, match look s t with | some av => av | none => .no) :: s)
def parT : List Tmp → List Value → Array Value → Array Value
  | p :: ps, v :: vs, tm => parT ps vs (tm.setIfInBounds p v)
  | _, _, tm => tm
def parS : List Tmp → List CV → AS → AS
  | p :: ps, c :: cs, s => parS ps cs ((p, .val c) :: s)
  | _, _, s => s
def SlOk (R : AV → Value → Prop) (s : AS) (tm : Array Value) : Prop := ∀ d av, look s d = some av → ∃ v, tm[d]? = some v ∧ R av v
section
variable {P : Program} {w0 : World} {U0 : UX} {nt : Nat} {s : AS}
def AWpM (P : Program) (w0 : World) (U0 : UX) (nt : Nat) (c : Code) (Q : Exit → AS → Nat → Prop) (s : AS) : Prop :=
  ∀ a w, Sim w0 U0 nt s a w → c.wpIn Fence.wide 1 P (fun e a' w' => ∃ s' a'' g, Q e s' g ∧ Sim w0 U0 nt s' a'' w' ∧ a' = wdA a'' [⟨.collected g, #[]⟩] ∧ look s' 299999 = some (.ob g 0)) a w
end
section
variable {P : Program} {w0 : World} {U0 : UX} {nt : Nat} {ops : Array Oper} {o : Oper} {S : Nat → Option AV} {gs : List Nat} {d : Nat} {s : AS} {a : Act} {w : World} {D : Nat → Nat → Prop} {hv : Nat → Value}
end
def HandsV {α : Type} (P : Program) (gf : Nat) (caps : List CV) (m : Nat) (encC : α → List CV) (xs : List α) : Prop :=
  ∀ (w : World) (lb : List Value) (R : Nat → Nat → Prop), VReps R w caps lb → ∃ vals : Nat → List Value, (∀ k, (vals k).length = m) ∧ (∀ k x, xs[k]? = some x → VReps R w (encC x) (vals k)) ∧
    Gives P gf lb.toArray (fun k => (vals k).toArray) (fun pre k _ => k = pre.length ∧ k < xs.length) (KpX w.heap.size fun b => ¬ ∃ o, R b o) (fun ys => ys = List.range xs.length) w
section
variable {P : Program} {w0 : World} {U0 : UX} {nt : Nat} {s : AS}
end
end Go.Proofs.YtmeegdomncadpaaGreat
namespace Go.Proofs.YtmeegdomncadpaaGreat
open Go.RowKit Go.MapKept
open Go.ChangeMaps (setBlock)
set_option linter.unusedVariables false
set_option linter.unusedSimpArgs false
section
variable {P : Program} {w0 : World} {U0 : UX} {nt : Nat} {ops : Array Oper} {o : Oper} {S : Nat → Option AV} {gs : List Nat} {d : Nat} {s : AS} {a : Act} {w : World} {D : Nat → Nat → Prop} {hv : Nat → Value}

abbrev AV.stm (l : List CV) (b clock : Nat) (bs : List Nat) : AV := ⟨22, .lst l, 0, 0, b :: clock :: bs⟩
abbrev AV.itr (b since c0 : Nat) (seen : List Nat) : AV := ⟨21, .row [], 0, 0, b :: since :: c0 :: seen⟩

end
end Go.Proofs.YtmeegdomncadpaaGreat
namespace Go.Proofs.YtmeegdomncadpaaGreat
open Go.RowKit Go.MapKept
set_option linter.unusedVariables false
set_option linter.unusedSimpArgs false
set_option maxRecDepth 100000
section
variable {P : Program} {w0 : World} {U0 : UX} {nt : Nat} {ops : Array Oper} {o : Oper} {S : Nat → Option AV} {gs : List Nat} {d : Nat} {s : AS} {a : Act} {w : World} {D : Nat → Nat → Prop} {hv : Nat → Value}
theorem vrep_zT {U : Nat → Nat → Prop} {w : World} {v : Value} {et : TypeId} (hz2 : (P.info? et).map (·.zero) = some (some (.agg #[.int .i64 0, .slice none 0 0]))) (hr : Rep U w (.row [.i 0, .lst []]) v.cells.toList) (hh : ∃ it, P.info? et = some it ∧ it.zero = some v) : VRep U w (.row [.i 0, .lst []]) v := by
  obtain ⟨it, h1, h2⟩ := hh
  rw [h1, Option.map_some, h2] at hz2
  injection hz2 with hz2
  injection hz2 with hz2
  subst hz2
  exact ⟨_, rfl, hr⟩
end
end Go.Proofs.YtmeegdomncadpaaGreat
namespace Go.Proofs.YtmeegdomncadpaaGreat
open Go.RowKit Go.MapKept
set_option linter.unusedVariables false
set_option linter.unusedSimpArgs false
def QUp (q : (Nat → Nat → Prop) → World → Prop) : Prop := ∀ (U V : Nat → Nat → Prop) (w w' : World), q U w → Below w.heap.size w w' → (∀ b o, b < w.heap.size → U b o → V b o) → q V w'
def AFunQ (P : Program) (q : (Nat → Nat → Prop) → World → Prop) (f : FuncId) (args : List CV) (r : AV) : Prop :=
  EntF P f ∧ (r.t = 0 ∨ r.t = 4) ∧ r.n = 0 ∧ ∀ (U : Nat → Nat → Prop) (w : World) (vs : List Value), q U w → VReps U w args vs →
    Calls P f vs.toArray w fun e w' => ∃ v, e = .returned v ∧ RR (fun b o => U b o ∨ w.heap.size ≤ b) w' r v ∧ Below w.heap.size w w'
def AFunVQ (P : Program) (q : (Nat → Nat → Prop) → World → Prop) (fc : CV) (args : List CV) (r : AV) : Prop := ∃ f n l, fc = .fn f n l ∧ AFunQ P q f (l.take n ++ (args ++ l.drop n)) r

section
variable {P : Program} {w0 : World} {U0 : UX} {nt : Nat} {ops : Array Oper} {o : Oper} {S : Nat → Option AV} {gs : List Nat} {d : Nat} {s : AS} {a : Act} {w : World} {D : Nat → Nat → Prop} {hv : Nat → Value} {q : (Nat → Nat → Prop) → World → Prop}

theorem SimG.atQ {W : World} (h : SimG w0 U0 nt s a w D hv) (hQ : QUp q) (hW : Hw W w0 U0) (hq : q U0.m w0) : q (Us w0 U0 D) w :=
  hQ _ _ _ _ hq (h.below.below hW.2) fun b o hb hu => .inl ⟨hb, hu, hW.2 b⟩

theorem a_callQ {W : World} (hQ : QUp q) (hW : Hw W w0 U0) (hq : q U0.m w0) {f : FuncId} {xs : Array Operand} {ts : Array TypeId} {cs : List CV} {r : AV} (hg : Gd w0 U0 nt ops o gs S) (hd : o.dst = some d) (hn : Nat.blt d nt = true) (h5 : Nat.blt d 100000 = true)
    (ho : o.op = .call { callee := .value (.func f), args := xs, argTypes := ts }) (hx : evsO S xs.toList = some cs) (hc : AFunQ P q f cs r) : AOp P w0 U0 nt ops o (gs ++ rdl xs.toList) [] S [(d, r)] := by
  intro s hs _ a w ⟨D, hv, h⟩ Q K hK
  rw [if_pos (hg s (fun k hk => hs k (List.mem_append_left _ hk)) a w D hv h)]
  have hargs := evsO_rep h (fun k hk => hs k (List.mem_append_right _ hk)) hx
  obtain ⟨h1, h2, h3, h4⟩ := hc
  have hcall := h4 _ w _ (h.atQ hQ hW hq) hargs
  have he : (execOp a.eval o).run P w = .ok (.enter f (xs.toList.map a.eval).toArray) w := by
    have hf : a.eval (.func f) = .func (.func f) #[] #[] := rfl
    have hen := h1 (xs.map a.eval) w
    have harr : (xs.toList.map a.eval).toArray = xs.map a.eval := by apply Array.ext'; simp
    rw [harr]
    generalize a.eval = ρ at hf hen ⊢
    simp [execOp, ho, resolve, invoke, Deferred.ofValue, hf, hen]
  unfold Oper.wp
  rw [he, Oper.upon_enter]
  refine hcall.mono ?_
  rintro e w' ⟨v, rfl, h6, h7⟩
  rw [hd]
  refine hK _ _ ⟨Dn D w w', hv, (h.growN h7).put (bL hn) (bL h5) (avrep_rr h2 h3 (us_of_rr rfl h7.size h.below.size h6))⟩

theorem a_callvQ {W : World} (hQ : QUp q) (hW : Hw W w0 U0) (hq : q U0.m w0) {x : Operand} {xs : Array Operand} {ts : Array TypeId} {fc : CV} {cs : List CV} {r : AV} {n q' p} (hg : Gd w0 U0 nt ops o gs S) (hd : o.dst = some d) (hn : Nat.blt d nt = true) (h5 : Nat.blt d 100000 = true)
    (ho : o.op = .call { callee := .value x, args := xs, argTypes := ts }) (hf : ev S x = some ⟨0, fc, n, q', p⟩) (hx : evsO S xs.toList = some cs) (hc : AFunVQ P q fc cs r) : AOp P w0 U0 nt ops o (gs ++ (rd x ++ rdl xs.toList)) [] S [(d, r)] := by
  intro s hs _ a w ⟨D, hv, h⟩ Q K hK
  rw [if_pos (hg s (fun k hk => hs k (List.mem_append_left _ hk)) a w D hv h)]
  have hargs := evsO_rep h (fun k hk => hs k (List.mem_append_right _ (List.mem_append_right _ hk))) hx
  have hfv := ev_val h (fun k hk => hs k (List.mem_append_right _ (List.mem_append_left _ hk))) hf
  obtain ⟨f, m, l, rfl, h1, h2, h3, h4⟩ := hc
  obtain ⟨ys, zs, e1, e2, e3, e4⟩ := vrep_fn.1 hfv
  obtain ⟨s1, s2⟩ := VReps.split (sq_vreps e4 e3)
  rw [e2] at s1 s2
  have hcall := h4 _ w _ (h.atQ hQ hW hq) (s1.append (hargs.append s2))
  have he : (execOp a.eval o).run P w = .ok (.enter f (ys ++ (xs.toList.map a.eval ++ zs)).toArray) w := by
    have hen := h1 (ys.toArray ++ (xs.map a.eval ++ zs.toArray)) w
    have harr : (ys ++ (xs.toList.map a.eval ++ zs)).toArray = ys.toArray ++ (xs.map a.eval ++ zs.toArray) := by apply Array.ext'; simp
    rw [harr]
    generalize a.eval = ρ at e1 hen ⊢
    simp [execOp, ho, resolve, invoke, Deferred.ofValue, e1, hen]
  unfold Oper.wp
  rw [he, Oper.upon_enter]
  refine hcall.mono ?_
  rintro e w' ⟨v, rfl, h6, h7⟩
  rw [hd]
  refine hK _ _ ⟨Dn D w w', hv, (h.growN h7).put (bL hn) (bL h5) (avrep_rr h2 h3 (us_of_rr rfl h7.size h.below.size h6))⟩

def MapQ (b g : Nat) (l : List CV) (U : Nat → Nat → Prop) (w : World) : Prop :=
  w.cell? ⟨b, 0, none⟩ = some (.map (some g)) ∧ ∃ es clock, w.heap[g]? = some (.map es clock) ∧ Ents U w l es.toList
theorem mapQ_up (b g : Nat) (l : List CV) : QUp (MapQ b g l) := by
  rintro U V w w' ⟨h1, es, clock, h2, h3⟩ hb hU
  have hcell : ∀ (b o : Nat) (v : Value), w.cell? ⟨b, o, none⟩ = some v → b < w.heap.size ∧ w'.cell? ⟨b, o, none⟩ = some v := fun b o v hc => by
    have hlt := World.block_lt_of_cell? w _ hc
    refine ⟨hlt, ?_⟩
    have := hb.block b hlt
    simp only [World.cell?] at hc ⊢
    rw [this]
    exact hc
  have hg : g < w.heap.size := by
    rcases Nat.lt_or_ge g w.heap.size with h | h
    · exact h
    · rw [Array.getElem?_eq_none h] at h2; cases h2
  exact ⟨(hcell _ _ _ h1).2, es, clock, by rw [hb.block g hg]; exact h2, h3.keep fun b o v hu hc => ⟨hU b o (hcell b o v hc).1 hu, (hcell b o v hc).2⟩⟩

theorem a_loadQ {W : World} {b g : Nat} {l : List CV} (hW : Hw W w0 U0) (hq : MapQ b g l U0.m w0) (hg : Gd w0 U0 nt ops o gs S) (hd : o.dst = some d) (hn : Nat.blt d nt = true) (h5 : Nat.blt d 100000 = true) {x : Operand} {ty : TypeId} {ds : TypeDesc} {n q p} (ho : o.op = .load ty x) (hu : P.underlying ty = some ds) (hi : (P.info? ty).map (·.size) = some 1) (hx : ev S x = some ⟨0, .sc (.pointer (some ⟨b, 0, none⟩)), n, q, p⟩) (hk : aggB ds = false) : AOp P w0 U0 nt ops o (gs ++ rd x) [] S [(d, .val (.sc (.map (some g))))] :=
  aop_val hg hd hn h5 (fun k hk => List.mem_append_left _ hk) fun s hs a w D hv hm => by
    have h1 := ev_sc hm (fun k hk => hs k (List.mem_append_right _ hk)) hx
    obtain ⟨h2, _⟩ := hm.atQ (mapQ_up b g l) hW hq
    obtain ⟨v, h4, h6, _⟩ := run_loadTree (c := .sc (.map (some g))) (U := Us w0 U0 D) (w := w) (b := b) (off := 0) (xs := [.map (some g)]) hu hi hk rfl (rep_sc.2 ⟨rfl, rfl⟩) (fun i hi => by
      have : i = 0 := by simp at hi; omega
      subst this
      exact h2)
    refine ⟨v, ?_, avrep_val h6⟩
    generalize a.eval = ρ at h1 ⊢
    simp [execOp, ho, Instr.loadAt, Instr.sureAddr, h1, h4]

theorem a_lookupQ {W : World} {b g : Nat} {l : List CV} (hW : Hw W w0 U0) (hq : MapQ b g l U0.m w0) (hg : Gd w0 U0 nt ops o gs S) (hd : o.dst = some d) (hn : Nat.blt d nt = true) (h5 : Nat.blt d 100000 = true) {x y : Operand} {t kt et : TypeId} {k : IntKind} {i : Int} {n0 q0 p0 n' q' p'} (ho : o.op = .lookup t x y true) (hu : P.underlying t = some (.map kt et)) (huk : P.underlying kt = some (.int k)) (hz2 : (P.info? et).map (·.zero) = some (some (.agg #[.int .i64 0, .slice none 0 0]))) (hzc : zeroT P et = some (.row [.i 0, .lst []])) (hx : ev S x = some ⟨0, .sc (.map (some g)), n0, q0, p0⟩) (hy : ev S y = some ⟨0, .sc (.int k i), n', q', p'⟩) (hik : IntKeys k l) {r : Option CV} (hlr : lookR k i l = r) : AOp P w0 U0 nt ops o (gs ++ (rd x ++ rd y)) [] S [(d, .tup [r.getD (.row [.i 0, .lst []]), .b r.isSome])] :=
  aop_val hg hd hn h5 (fun k hk => List.mem_append_left _ hk) fun s hs a w D hv hm => by
    have h1 := ev_sc hm (fun k hk => hs k (List.mem_append_right _ (List.mem_append_left _ hk))) hx
    have e2 := ev_sc hm (fun k hk => hs k (List.mem_append_right _ (List.mem_append_right _ hk))) hy
    subst hlr
    obtain ⟨_, es, clock, g2, g3⟩ := hm.atQ (mapQ_up b g l) hW hq
    obtain ⟨it, zv, i1, i2, i3⟩ := zeroT_spec hzc
    have hck := run_checkKey (P := P) (w := w) huk (k := .int k i) rfl es.isEmpty 9999
    have hge := Go.MapKept.run_getObj_map (P := P) g2
    rcases find_spec 0 g3 hik (i := i) with ⟨f1, f2⟩ | ⟨j, e, c, f1, f2, f3, f4, f5, f6⟩
    · have hfk := run_findKey (P := P) (w := w) huk f1
      have hzv : (zeroValue et).run P w = .ok zv w := by simp [zeroValue, typeInfo, i1, i2]
      refine ⟨.tuple #[zv, .bool false], ?_, ?_⟩
      · generalize a.eval = ρ at h1 e2 ⊢
        simp [execOp, ho, Instr.lookup, run_underlying hu, h1, e2, hge, hck, hfk, hzv]
      · rw [f2]
        have hr := i3 (Us w0 U0 D) w
        exact ⟨[zv, .bool false], rfl, zv, [.bool false], rfl, vrep_zT hz2 hr ⟨it, i1, i2⟩, .bool false, [], rfl, vrep_sc.2 ⟨rfl, rfl⟩, rfl⟩
    · have hfk := run_findKey (P := P) (w := w) huk f1
      refine ⟨.tuple #[e.val, .bool true], ?_, ?_⟩
      · generalize a.eval = ρ at h1 e2 ⊢
        simp [execOp, ho, Instr.lookup, run_underlying hu, h1, e2, hge, hck, hfk]
      · rw [f6]
        exact ⟨[e.val, .bool true], rfl, e.val, [.bool true], rfl, f4, .bool true, [], rfl, vrep_sc.2 ⟨rfl, rfl⟩, rfl⟩

theorem afunQ_of {f : FuncId} {fn : Func} {c : Code} {args rs : List CV} (hf : P.funcs[f]? = some fn) (hn : fn.ntmps = nt) (hname : (fn.name == "runtime.NumGoroutine") = false) (hb : fn.body = some c) (hl : Nat.ble args.length nt = true) (hnt : Nat.blt nt 100000 = true)
    (h : ∀ (w : World) (U : UX), Hw w w U → q U.m w → AWp P w U nt c (fun e s' => (e = .normal ∨ e = .ret) ∧ resO P s' fn.results.toList = some rs) (argS args 0)) : AFunQ P q f args (resAV rs) := by
  have hr2 : ((resAV rs).t = 0 ∨ (resAV rs).t = 4) ∧ (resAV rs).n = 0 := by
    unfold resAV
    split
    · exact ⟨.inl rfl, rfl⟩
    · exact ⟨.inr rfl, rfl⟩
  refine ⟨ent_of hf hname (by rw [hb]; rfl), hr2.1, hr2.2, fun U w vs hq hargs => ?_⟩
  have hlen := hargs.len
  refine calls_of_wp hf hb ?_
  have hle := Nat.le_of_ble_eq_true hl
  have hnt := bL hnt
  have hno : ∀ {k av}, 100000 ≤ k → look (argS args 0) k = some av → False := fun {k av} h1 h2 => by rw [argS_none (by omega)] at h2; cases h2
  obtain ⟨V, hV⟩ : ∃ V : UX, V = ⟨U, fun _ => False, fun _ => none, fun _ _ h => by cases h⟩ := ⟨_, rfl⟩
  have hs : Sim w V nt (argS args 0) { tmps := vs.toArray ++ Array.replicate (fn.ntmps - vs.toArray.size) undef, defers := [] } w := by
    refine ⟨fun _ _ => False, fun _ => .slice none 0 0, BelowX.refl _ _, rfl, by simp [hn]; omega, fun d av h1 h2 => ?_, fun n o av h1 => (hno (by unfold fKey; omega) h1).elim, fun n o o' av av' h1 => (hno (by unfold fKey; omega) h1).elim, fun k av h1 h2 => (hno h2.1 h1).elim, fun k av g h1 h2 => (hno h2.1 h1).elim, fun k k' av av' g h1 h2 h3 => (hno h3.1 h1).elim, fun n g h1 => (by rw [hV] at h1; cases h1), fun b o hd => hd.elim⟩
    obtain ⟨_, c', h3, rfl⟩ := look_argS h1
    rw [Nat.sub_zero] at h3
    obtain ⟨v, h4, h5⟩ := hargs.at h3
    have hdl : d < vs.length := by
      rcases Nat.lt_or_ge d vs.length with h | h
      · exact h
      · rw [List.getElem?_eq_none h] at h4; cases h4
    refine ⟨v, ?_, avrep_val (h5.keep fun b o v hu hc => ⟨.inl ⟨World.block_lt_of_cell? w _ hc, by rw [hV]; exact ⟨hu, fun h => h⟩⟩, hc⟩)⟩
    rw [Array.getElem?_append_left (by simpa using hdl)]
    simpa using h4
  refine wp_mono ((h w V (by rw [hV]; exact ⟨fun _ => rfl, fun _ h => h⟩) (by rw [hV]; exact hq) ⟨none, []⟩ _ w hs).wp rfl (fun e a w ⟨s, _, h⟩ => h.df)) ?_
  rintro e a' w' ⟨s', ⟨h1, h2⟩, D, hv, h3⟩
  obtain ⟨v, h4, h5⟩ := res_run h3 h2
  have hR : RR (fun b o => U b o ∨ w.heap.size ≤ b) w' (resAV rs) v := by
    have hk : ∀ b o u, Us w V D b o → w'.cell? ⟨b, o, none⟩ = some u → (U b o ∨ w.heap.size ≤ b) ∧ w'.cell? ⟨b, o, none⟩ = some u := fun b o u hu hc => ⟨hu.imp (fun h => by rw [hV] at h; exact h.2.1) fun h => h.1, hc⟩
    unfold RR at h5 ⊢
    split
    · rename_i ht
      rw [if_pos ht] at h5
      obtain ⟨vs, h6, h7⟩ := h5
      exact ⟨vs, h6, h7.keep hk⟩
    · rename_i ht
      rw [if_neg ht] at h5
      exact h5.keep hk
  have hbw : Below w.heap.size w w' := h3.below.below (by rw [hV]; exact fun _ h => h)
  rcases h1 with rfl | rfl
  · exact ⟨h3.dfr, v, h4, v, rfl, hR, hbw⟩
  · exact ⟨h3.dfr, v, h4, v, rfl, hR, hbw⟩
end
end Go.Proofs.YtmeegdomncadpaaGreat
namespace Go.Proofs.YtmeegdomncadpaaGreat
open Go.RowKit
set_option linter.unusedVariables false
set_option linter.unusedSimpArgs false
set_option maxRecDepth 100000
noncomputable def imR (b : Bd) : CV := .row [.sc (.int .i64 b.v), b.t.cw]
theorem imR_keys (L : List Bd) : IntKeys .i64 (L.map imR) := fun r hr => by
  obtain ⟨b, _, rfl⟩ := List.mem_map.1 hr
  exact ⟨_, _, rfl⟩
theorem imR_look (v : Int) : ∀ L : List Bd, lookR .i64 v (L.map imR) = (findB L v).map Tm.cw
  | [] => rfl
  | b :: L => by
    rw [List.map_cons]
    unfold imR
    rw [lookR_row, findB]
    by_cases h : b.v = v
    · rw [if_pos h, if_pos h]; rfl
    · rw [if_neg h, if_neg h]; exact imR_look v L

-- 
theorem imgQ_abs (b g : Nat) (L : List Bd) (v : Int) (h1 : 0 ≤ v) (h2 : v ≤ 9223372036854775807) : AFunQ Tryz.prog (MapQ b g (L.map imR)) 110 [.i v, .sc (.pointer (some ⟨b, 0, none⟩))] (.val (imgB L v).cw) := by
  refine afunQ_of (rs := [(imgB L v).cw]) Tryz.func110 Tryz.ntmps110 rfl rfl rfl rfl ?_
  intro w U hW hq
  have hQ := mapQ_up b g (L.map imR)
  have hlk := imR_look v L
  refine aS (aR ?_)
  (refine nx (a_alloc (gN rfl) rfl rfl rfl rfl rfl rfl rfl rfl rfl rfl) rfl ?_)
  show AWp _ _ _ _ _ _ _
  unfold imgB
  cases hf : findB L v with
  | none =>
    rw [hf] at hlk
    refine aS (aS (aR ?_))
    (refine nx (a_loadQ hW hq (gN rfl) rfl rfl rfl rfl rfl rfl rfl rfl) rfl ?_)
    (refine nx (aM (gN rfl) rfl rfl rfl rfl rfl) rfl ?_)
    (refine nx (a_lookupQ hW hq (gN rfl) rfl rfl rfl rfl rfl rfl rfl rfl rfl rfl (imR_keys _) (hlk)) rfl ?_)
    (refine nx (aM (gN rfl) rfl rfl rfl rfl rfl) rfl ?_)
    (refine nx (aX (gN rfl) rfl rfl rfl rfl rfl rfl) rfl ?_)
    (refine nx (aX (gN rfl) rfl rfl rfl rfl rfl rfl) rfl ?_)
    (refine nx (a_alloc (gN rfl) rfl rfl rfl rfl rfl rfl rfl rfl rfl rfl) rfl ?_)
    (refine nx (aSt (gN rfl) rfl rfl rfl rfl rfl rfl rfl rfl rfl rfl) rfl ?_)
    (refine nx (aA (gN rfl) rfl rfl rfl rfl rfl) rfl ?_)
    show AWp _ _ _ _ _ _ _
    refine aS (aR ?_)
    (refine nx (aM (gN rfl) rfl rfl rfl rfl rfl) rfl ?_)
    show AWp _ _ _ _ _ _ _
    refine aC rfl (fun hc => ?_) (fun hc => ?_)
    · cases hc
    · refine aK ?_
      show AWp _ _ _ _ _ _ _
      refine aS (aR ?_)
      (refine nx (aM (gN rfl) rfl rfl rfl rfl rfl) rfl ?_)
      (refine nx (a_call (gN rfl) rfl rfl rfl rfl rfl (sVariable_abs w v h1 h2)) rfl ?_)
      (refine nx (aSt (gN rfl) rfl rfl rfl rfl rfl rfl rfl rfl rfl rfl) rfl ?_)
      show AWp _ _ _ _ _ _ _
      exact aT (And.intro (.inr rfl) rfl)
  | some t =>
    rw [hf] at hlk
    refine aS (aS (aR ?_))
    (refine nx (a_loadQ hW hq (gN rfl) rfl rfl rfl rfl rfl rfl rfl rfl) rfl ?_)
    (refine nx (aM (gN rfl) rfl rfl rfl rfl rfl) rfl ?_)
    (refine nx (a_lookupQ hW hq (gN rfl) rfl rfl rfl rfl rfl rfl rfl rfl rfl rfl (imR_keys _) (hlk)) rfl ?_)
    (refine nx (aM (gN rfl) rfl rfl rfl rfl rfl) rfl ?_)
    (refine nx (aX (gN rfl) rfl rfl rfl rfl rfl rfl) rfl ?_)
    (refine nx (aX (gN rfl) rfl rfl rfl rfl rfl rfl) rfl ?_)
    (refine nx (a_alloc (gN rfl) rfl rfl rfl rfl rfl rfl rfl rfl rfl rfl) rfl ?_)
    (refine nx (aSt (gN rfl) rfl rfl rfl rfl rfl rfl rfl rfl rfl rfl) rfl ?_)
    (refine nx (aA (gN rfl) rfl rfl rfl rfl rfl) rfl ?_)
    show AWp _ _ _ _ _ _ _
    refine aS (aR ?_)
    (refine nx (aM (gN rfl) rfl rfl rfl rfl rfl) rfl ?_)
    show AWp _ _ _ _ _ _ _
    refine aC rfl (fun hc => ?_) (fun hc => ?_)
    · refine aS (aR ?_)
      (refine nx (aL (gN rfl) rfl rfl rfl rfl rfl rfl rfl rfl rfl rfl rfl rfl) rfl ?_)
      (refine nx (aSt (gN rfl) rfl rfl rfl rfl rfl rfl rfl rfl rfl rfl) rfl ?_)
      show AWp _ _ _ _ _ _ _
      exact aT (And.intro (.inr rfl) rfl)
    · cases hc

-- 
theorem replaceQ_abs {q : (Nat → Nat → Prop) → World → Prop} (hQ : QUp q) (fc : CV) (img : Int → Tm) (hI : ∀ v, 0 ≤ v → v ≤ 9223372036854775807 → AFunVQ Tryz.prog q fc [.i v] (.val (img v).cw) ∧ (img v).rng ∧ (img v).size ≤ 90000000000) : ∀ t : Tm, t.rng → t.ok → AFunQ Tryz.prog q 83 [t.cw, fc] (.val (repT img t).cw) := by
  intro t
  induction t using Tm.ind with
  | h f l ih =>
  intro hr hok
  have hok := (Tm.ok_iff _).1 hok
  have hr := (Tm.rng_iff _).1 hr
  simp only at hok hr
  have hsz := Tm.size_all l
  refine afunQ_of (rs := [(repT img ⟨f, l⟩).cw]) Tryz.func83 Tryz.ntmps83 rfl rfl rfl rfl ?_
  intro w U hW hq
  refine aS (aR ?_)
  (refine nx (a_box (gN rfl) rfl rfl rfl rfl rfl) rfl ?_)
  (refine nx (a_alloc (gN rfl) rfl rfl rfl rfl rfl rfl rfl rfl rfl rfl) rfl ?_)
  show AWp _ _ _ _ _ _ _
  refine aS (aS (aR ?_))
  (refine nx (aL (gN rfl) rfl rfl rfl rfl rfl rfl rfl rfl rfl rfl rfl rfl) rfl ?_)
  (refine nx (a_call (gN rfl) rfl rfl rfl rfl rfl (sIsVar_abs w ⟨f, l⟩)) rfl ?_)
  show AWp _ _ _ _ _ _ _
  refine aC rfl (fun hc => ?_) (fun hc => ?_)
  · have hf : f < 0 := by simpa using hc
    rw [repT_var hf]
    obtain ⟨i1, i2, i3⟩ := hI (-1 - f) (by omega) (by omega)
    refine aS (aR ?_)
    (refine nx (aM (gN rfl) rfl rfl rfl rfl rfl) rfl ?_)
    (refine nx (aL (gN rfl) rfl rfl rfl rfl rfl rfl rfl rfl rfl rfl rfl rfl) rfl ?_)
    (refine nx (a_call (gN rfl) rfl rfl rfl rfl rfl (sNumber_abs w ⟨f, l⟩ hr.1.1 hf)) rfl ?_)
    (refine nx (a_callvQ hQ hW hq (gN rfl) rfl rfl rfl rfl rfl rfl (i1)) rfl ?_)
    (refine nx (a_call (gN rfl) rfl rfl rfl rfl rfl (clone_abs w i2 i3)) rfl ?_)
    (refine nx (aSt (gN rfl) rfl rfl rfl rfl rfl rfl rfl rfl rfl rfl) rfl ?_)
    show AWp _ _ _ _ _ _ _
    exact aT (And.intro (.inr rfl) rfl)
  · have hf : ¬ f < 0 := by simpa using hc
    rw [repT_sym hf]
    refine aK ?_
    show AWp _ _ _ _ _ _ _
    refine aS (aR ?_)
    (refine nx (aA (gN rfl) rfl rfl rfl rfl rfl) rfl ?_)
    show AWp _ _ _ _ _ _ _
    refine aS (aS (aR ?_))
    (refine nx (aF (gN rfl) rfl rfl rfl rfl rfl rfl rfl rfl rfl) rfl ?_)
    (refine nx (aLb (gN rfl) rfl rfl rfl rfl rfl rfl rfl rfl rfl rfl rfl rfl) rfl ?_)
    (refine nx (a_len (gN rfl) rfl rfl rfl rfl rfl rfl rfl) rfl ?_)
    (refine nx (aM (gN rfl) rfl rfl rfl rfl rfl) rfl ?_)
    show AWp _ _ _ _ _ _ _
    refine aB (awp_count l.length (fun k => [(1, .val fc), (2, .bp 2 0 []), (100002, .bx (Tm.cw ⟨f, l⟩)), (4, .bp 4 0 []), (100004, ⟨5, .row [.i 0, .lst []], 1, 0, [1]⟩), (5, .own (.lst ((l.take k).map fun t => (repT img t).cv)) 200027), (200027, .tok 61 2), (16, .val (.lst (l.map Tm.cv))), (17, .val (.i (l.map Tm.cv).length)), (18, .val (.i k))])
      ((wk_nil 5 200027 61 2 rfl rfl rfl rfl rfl rfl rfl).trans (wk_sub ⟨rfl, rfl, rfl, rfl, rfl, rfl, rfl, rfl, rfl, rfl, trivial⟩)) ?_)
    intro k hk
    refine aS (aR ?_)
    (refine nx (a_lss (gN rfl) rfl rfl rfl rfl rfl rfl) rfl ?_)
    show AWp _ _ _ _ _ _ _
    refine aS (aC rfl (fun hc => ?_) (fun hc => ?_))
    · have hkl : k < l.length := by
        simp only [List.length_map, decide_eq_true_eq] at hc
        omega
      obtain ⟨t, ht⟩ : ∃ t, l[k]? = some t := ⟨l[k], List.getElem?_eq_getElem hkl⟩
      have ht' := Tm.map_at ht
      have htm := List.mem_of_getElem? ht
      have hsz2 : ∀ c ∈ (l.take k).map fun t => (repT img t).cv, c.size = 2 := by
        intro c hc
        obtain ⟨t, _, rfl⟩ := List.mem_map.1 hc
        exact Tm.size_cv _
      refine aK ?_
      show AWp _ _ _ _ _ _ _
      refine aS (aB (aS (aR ?_)))
      (refine nx (a_index (gN rfl) rfl rfl rfl rfl rfl rfl rfl rfl rfl (by assumption) rfl (by first | assumption | exact sZ rfl | exact Tm.size_all _ | exact Bd.size_all _ | exact ints_size _ | exact bys_size _ | exact Lt.size_all _)) rfl ?_)
      (refine nx (a_load_ad (gN rfl) rfl rfl rfl rfl rfl rfl rfl rfl rfl) rfl ?_)
      (refine nx (a_alloc (gN rfl) rfl rfl rfl rfl rfl rfl rfl rfl rfl rfl) rfl ?_)
      (refine nx (aSt (gN rfl) rfl rfl rfl rfl rfl rfl rfl rfl rfl rfl) rfl ?_)
      show AWp _ _ _ _ _ _ _
      refine aR ?_
      (refine nx (aM (gN rfl) rfl rfl rfl rfl rfl) rfl ?_)
      (refine nx (aL (gN rfl) rfl rfl rfl rfl rfl rfl rfl rfl rfl rfl rfl rfl) rfl ?_)
      (refine nx (aM (gN rfl) rfl rfl rfl rfl rfl) rfl ?_)
      (refine nx (a_callQ hQ hW hq (gN rfl) rfl rfl rfl rfl rfl (ih t htm (hr.2 t htm) (hok.2 t htm))) rfl ?_)
      (refine nx (a_bslice (gN rfl) rfl rfl rfl rfl rfl rfl rfl rfl rfl rfl rfl rfl rfl) rfl ?_)
      (refine nx (a_app (gN rfl) rfl rfl rfl rfl rfl rfl rfl rfl rfl rfl rfl rfl rfl rfl rfl (by first | assumption | exact sZ rfl | exact Tm.size_all _ | exact Bd.size_all _ | exact ints_size _ | exact bys_size _ | exact Lt.size_all _) (by first | assumption | exact sZ rfl | exact Tm.size_all _ | exact Bd.size_all _ | exact ints_size _ | exact bys_size _ | exact Lt.size_all _) (by first | omega | (simp only [List.length_map, List.length_append, List.length_cons, List.length_nil] <;> omega) | (simp <;> omega))) rfl ?_)
      (refine nx (aA (gN rfl) rfl rfl rfl rfl rfl) rfl ?_)
      show AWp _ _ _ _ _ _ _
      refine aR ?_
      (refine nx (a_add (gN rfl) rfl rfl rfl rfl rfl rfl (by first | omega | (simp only [List.length_map, List.length_append, List.length_cons, List.length_nil] <;> omega) | (simp <;> omega))) rfl ?_)
      (refine nx (aM (gN rfl) rfl rfl rfl rfl rfl) rfl ?_)
      refine ⟨hkl, Wk.trans (wk_sub (s' := [(1, .val fc), (2, .bp 2 0 []), (100002, .bx (Tm.cw ⟨f, l⟩)), (4, .bp 4 0 []), (100004, ⟨5, .row [.i 0, .lst []], 1, 0, [1]⟩), (5, .own (.lst ((l.take (k + 1)).map fun t => (repT img t).cv)) 300027), (300027, .tok 61 2), (16, .val (.lst (l.map Tm.cv))), (17, .val (.i (l.map Tm.cv).length)), (18, .val (.i ((k + 1 : Nat) : Int)))]) ⟨rfl, rfl, rfl, rfl, rfl, ?_, rfl, rfl, rfl, rfl, trivial⟩) (wk_ren 300027 200027 rfl rfl rfl rfl)⟩
      rw [List.take_add_one, ht, List.map_append]
      simp only [Option.toList_some, List.map_cons, List.map_nil, Tm.cv_eq]
      rfl
    · have hkl : k = l.length := by
        simp only [List.length_map, decide_eq_false_iff_not] at hc
        omega
      subst hkl
      rw [List.take_length]
      refine aE ?_
      show AWp _ _ _ _ _ _ _
      refine aS (aR ?_)
      (refine nx (aF (gN rfl) rfl rfl rfl rfl rfl rfl rfl rfl rfl) rfl ?_)
      (refine nx (aLb (gN rfl) rfl rfl rfl rfl rfl rfl rfl rfl rfl rfl rfl rfl) rfl ?_)
      (refine nx (aM (gN rfl) rfl rfl rfl rfl rfl) rfl ?_)
      (refine nx (a_build (gN rfl) rfl rfl rfl rfl rfl rfl rfl rfl rfl rfl rfl) rfl ?_)
      (refine nx (aSt (gN rfl) rfl rfl rfl rfl rfl rfl rfl rfl rfl rfl) rfl ?_)
      show AWp _ _ _ _ _ _ _
      refine aT (And.intro (.inr rfl) ?_)
      unfold Tm.cw
      rw [List.map_map]
      rfl
end Go.Proofs.YtmeegdomncadpaaGreat
namespace Go.Proofs.YtmeegdomncadpaaGreat
open Go.RowKit Go.MapKept Go.Shelf
set_option linter.unusedVariables false
set_option linter.unusedSimpArgs false
attribute [local go_sem] Oper.semAt_some

set_option maxRecDepth 100000 in
set_option maxHeartbeats 2000000 in
theorem backB_in (l Bb ob n : Nat) (c0 c1 c2 : Nat → Value) (R : Nat → Nat → Prop) (w : World) (ao : Option Addr) (cap : Nat) (hbox : w.cell? ⟨Bb, ob, none⟩ = some (.slice ao n cap)) (hRb : R Bb ob) (hat : ∀ i, i < n → ∃ b off, ao = some ⟨b, off, none⟩ ∧ (R b (off + i * 3) ∧ w.cell? ⟨b, off + i * 3, none⟩ = some (c0 i)) ∧ (R b (off + i * 3 + 1) ∧ w.cell? ⟨b, off + i * 3 + 1, none⟩ = some (c1 i)) ∧ (R b (off + i * 3 + 2) ∧ w.cell? ⟨b, off + i * 3 + 2, none⟩ = some (c2 i))) (hl : n ≤ 1000000000)
    (J : List Nat → World → Prop) (hJ : ∀ pre A B, J pre A → Below A.heap.size A B → J pre B)
    (hY : ∀ pre (x : Nat) V, J pre V → x = pre.length ∧ x < n → YieldAt Fence.wide 1 Tryz.prog l #[.int .i64 ((n : Int) - 1 - x), .agg #[c0 (n - 1 - x), c1 (n - 1 - x), c2 (n - 1 - x)]] V fun e V' => e = .returned (.bool true) ∧ J (pre ++ [x]) V' ∧ KpX w.heap.size (fun b => ¬ ∃ o, R b o) V V')
    (W : World) (hW : Below w.heap.size w W) (h0 : J [] W) :
    CallsIn Fence.wide 2 Tryz.prog 144 #[.func (.yield l) #[] #[], .pointer (some ⟨Bb, ob, none⟩)] W fun e W' => (∃ v, e = .returned v) ∧ ∃ ys, ys = List.range n ∧ J ys W' := by
  have hcs : ∀ {V : World}, KpX w.heap.size (fun b => ¬ ∃ o, R b o) w V → V.cell? ⟨Bb, ob, none⟩ = some (.slice ao n cap) ∧ ∀ i, i < n → ∃ b off, ao = some ⟨b, off, none⟩ ∧ V.cell? ⟨b, off + i * 3, none⟩ = some (c0 i) ∧ V.cell? ⟨b, off + i * 3 + 1, none⟩ = some (c1 i) ∧ V.cell? ⟨b, off + i * 3 + 2, none⟩ = some (c2 i) := fun {V} hV => by
    have hkeep : ∀ b o u, R b o → w.cell? ⟨b, o, none⟩ = some u → V.cell? ⟨b, o, none⟩ = some u := fun b o u hr hc => by
      have hb : b < w.heap.size := World.block_lt_of_cell? w _ hc
      rw [World.cell?_of_block (w := w) (hV b hb (fun hn => hn ⟨o, hr⟩))]
      exact hc
    refine ⟨hkeep _ _ _ hRb hbox, fun i hi => ?_⟩
    obtain ⟨b, off, h1, ⟨g1, g2⟩, ⟨g3, g4⟩, g5, g6⟩ := hat i hi
    exact ⟨b, off, h1, hkeep _ _ _ g1 g2, hkeep _ _ _ g3 g4, hkeep _ _ _ g5 g6⟩
  have hW0 : KpX w.heap.size (fun b => ¬ ∃ o, R b o) w W := fun b hb _ => hW.block b hb
  have HC : Hid (∀ {V : World}, KpX w.heap.size (fun b => ¬ ∃ o, R b o) w V → V.cell? ⟨Bb, ob, none⟩ = some (.slice ao n cap) ∧ ∀ i, i < n → ∃ b off, ao = some ⟨b, off, none⟩ ∧ V.cell? ⟨b, off + i * 3, none⟩ = some (c0 i) ∧ V.cell? ⟨b, off + i * 3 + 1, none⟩ = some (c1 i) ∧ V.cell? ⟨b, off + i * 3 + 2, none⟩ = some (c2 i)) := fun {V} h => hcs h
  clear hcs hbox hat hRb
  obtain ⟨hb0, _⟩ := HC.out hW0
  refine callsIn_of_wp Tryz.func144 rfl trivial ?_ rfl
  simp only [Tryz.ntmps144, List.size_toArray, List.length_cons, List.length_nil, Nat.reduceAdd, Nat.reduceSub, Array.replicate_succ, Array.replicate_zero, List.push_toArray, List.append_toArray, List.nil_append, List.cons_append]
  gi_wp2
  gi_loopw [3] (fun iv wr => ∃ (z : Int) (k : Nat), iv = .int .i64 z ∧ z = (n : Int) - 1 - k ∧ k ≤ n ∧ J (List.range k) wr ∧ KpX w.heap.size (fun b => ¬ ∃ o, R b o) w wr) (fun iv wr => (intOf iv + 1).toNat)
  case atStart => exact ⟨_, 0, rfl, by omega, by omega, by simpa using h0, hW0⟩
  case round =>
    obtain ⟨z, k, rfl, hz, hk, hJr, hKr⟩ := hrel
    clear hb0 h0 hW0
    obtain ⟨hb1, hc1⟩ := HC.out hKr
    by_cases hkn : k = n
    · have hz1 : z = -1 := by omega
      subst hz1
      gi_wp2
      go_end0
      refine ⟨⟨_, rfl⟩, _, rfl, ?_⟩
      rw [hkn] at hJr
      exact hJr
    · obtain ⟨j, hj⟩ : ∃ j : Nat, j = n - 1 - k := ⟨_, rfl⟩
      have hzj : z = (j : Int) := by omega
      have hjn : j < n := by omega
      subst hzj
      obtain ⟨b, off, rfl, hc2, hc3, hc4⟩ := hc1 j hjn
      obtain ⟨fn, tmps, assign, body, hy, hR⟩ := hY (List.range k) k _ hJr ⟨by simp, by omega⟩
      rw [show (n : Int) - 1 - k = (j : Int) by omega, show n - 1 - k = j from hj.symm] at hy
      obtain ⟨v0, hv0⟩ : ∃ v, v = c0 j := ⟨_, rfl⟩
      obtain ⟨v1, hv1⟩ : ∃ v, v = c1 j := ⟨_, rfl⟩
      obtain ⟨v2, hv2⟩ : ∃ v, v = c2 j := ⟨_, rfl⟩
      rw [← hv0] at hc2 hy
      rw [← hv1] at hc3 hy
      rw [← hv2] at hc4 hy
      clear hc1 hv0 hv1 hv2
      have hy : Sem.run Tryz.prog (Instr.yield l #[.int .i64 (j : Int), .agg #[v0, v1, v2]]) wr = .ok (.round l fn tmps assign body) wr := hy
      have HJ : Hid (j = n - 1 - k ∧ k < n) := ⟨hj, by omega⟩
      clear hj hz hkn hk
      gi_wp2
      refine hR.mono ?_
      rintro e V3 ⟨rfl, hJ3, hk3⟩
      gi_wp2
      go_roundw
      case rel => exact ⟨_, k + 1, rfl, by have := HJ.out; omega, by have := HJ.out; omega, by rw [List.range_succ]; exact hJ3, fun b' hb' hx' => (hk3 b' hb' hx').trans (hKr b' hb' hx')⟩
      case measure => simp [intOf]

theorem sq3 {R : Nat → Nat → Prop} {w : World} : ∀ {L : List Bd} {ys : List Value}, Sq ((L.map Bd.cv).map fun c => Rep R w c) ys → ys.length = 3 * L.length ∧ ∀ i b, L[i]? = some b → Rep R w b.cw [ys.getD (i * 3) undef, ys.getD (i * 3 + 1) undef, ys.getD (i * 3 + 2) undef]
  | [], ys, h => by
    have h : ys = [] := h
    subst h
    exact ⟨rfl, fun i b h => by simp at h⟩
  | x :: L, ys, ⟨us, bs, e, h1, h2⟩ => by
    obtain ⟨ih1, ih2⟩ := sq3 (L := L) h2
    have hlen : us.length = 3 := h1.len
    obtain ⟨u0, u1, u2, rfl⟩ : ∃ u0 u1 u2, us = [u0, u1, u2] := by
      match us, hlen with
      | [u0, u1, u2], _ => exact ⟨u0, u1, u2, rfl⟩
    subst e
    refine ⟨by simp; omega, fun i b hi => ?_⟩
    cases i with
    | zero =>
      simp at hi
      subst hi
      exact h1
    | succ i =>
      have := ih2 i b (by simpa using hi)
      have hg : ∀ k, ([u0, u1, u2] ++ bs).getD (k + 3) undef = bs.getD k undef := fun k => by simp [List.getD_eq_getElem?_getD]
      rw [show (i + 1) * 3 = i * 3 + 3 by omega, show i * 3 + 3 + 1 = i * 3 + 1 + 3 by omega, show i * 3 + 3 + 2 = i * 3 + 2 + 3 by omega, hg, hg, hg]
      exact this

theorem backB_gives {R : Nat → Nat → Prop} {w : World} {L : List Bd} {Bb ob : Nat} {ao : Option Addr} {cap : Nat} (hl : L.length ≤ 1000000000) (hbox : w.cell? ⟨Bb, ob, none⟩ = some (.slice ao L.length cap)) (hRb : R Bb ob) (hv : VRep R w (.lst (L.map Bd.cv)) (.slice ao L.length cap)) :
    ∃ c0 c1 c2 : Nat → Value, (∀ i b, L[i]? = some b → VRep R w b.cw (.agg #[c0 i, c1 i, c2 i])) ∧
      Gives Tryz.prog 144 #[.pointer (some ⟨Bb, ob, none⟩)] (fun x : Nat => #[.int .i64 ((L.length : Int) - 1 - x), .agg #[c0 (L.length - 1 - x), c1 (L.length - 1 - x), c2 (L.length - 1 - x)]]) (fun pre x _ => x = pre.length ∧ x < L.length) (KpX w.heap.size fun b => ¬ ∃ o, R b o) (fun ys => ys = List.range L.length) w := by
  obtain ⟨a', n', c', e0, e1, e2, e3, e4, ys, e5, e6⟩ := vrep_lst.1 hv
  injection e0 with e0 _ _
  subst e0
  obtain ⟨s1, s2⟩ := sq3 e6
  refine ⟨fun i => ys.getD (i * 3) undef, fun i => ys.getD (i * 3 + 1) undef, fun i => ys.getD (i * 3 + 2) undef, fun i b hb => ⟨_, rfl, s2 i b hb⟩, ?_⟩
  intro l J W hW hJ hY h0
  refine backB_in l Bb ob L.length (fun i => ys.getD (i * 3) undef) (fun i => ys.getD (i * 3 + 1) undef) (fun i => ys.getD (i * 3 + 2) undef) R w ao cap hbox hRb (fun i hi => ?_) hl J hJ hY W hW h0
  rcases e5 with h1 | ⟨b, off, h1, h2⟩
  · rw [h1] at s1; simp at s1; omega
  · have hk : ∀ k, k < ys.length → R b (off + k) ∧ w.cell? ⟨b, off + k, none⟩ = some (ys.getD k undef) := fun k hk => by
      obtain ⟨g1, g2⟩ := h2 k hk
      exact ⟨g1, by rw [g2, List.getD_eq_getElem?_getD, List.getElem?_eq_getElem hk]; rfl⟩
    exact ⟨b, off, h1, hk (i * 3) (by omega), hk (i * 3 + 1) (by omega), hk (i * 3 + 2) (by omega)⟩

def putB (b : Bd) : List Bd → List Bd
  | [] => [b]
  | x :: M => if x.v = b.v then b :: M else x :: putB b M
theorem putB_row (b : Bd) : ∀ M : List Bd, putR .i64 b.v b.t.cw (M.map imR) = (putB b M).map imR
  | [] => rfl
  | x :: M => by
    rw [List.map_cons, putB]
    have h1 := putR_row (k := .i64) (i := b.v) (j := x.v) (c := b.t.cw) (c' := x.t.cw) (l := M.map imR)
    by_cases h : x.v = b.v
    · rw [if_pos h] at h1 ⊢; exact h1
    · rw [if_neg h] at h1 ⊢
      rw [putB_row b M] at h1
      exact h1
theorem putB_find (b : Bd) (v : Int) : ∀ M : List Bd, findB (putB b M) v = if b.v = v then some b.t else findB M v
  | [] => rfl
  | x :: M => by
    rw [putB]
    by_cases h : x.v = b.v
    · rw [if_pos h, findB, findB]
      by_cases h2 : b.v = v
      · rw [if_pos h2, if_pos h2]
      · rw [if_neg h2, if_neg h2, if_neg (by omega)]
    · rw [if_neg h, findB, findB, putB_find b v M]
      by_cases h2 : b.v = v
      · rw [if_pos h2, if_pos h2, if_neg (by omega)]
      · rw [if_neg h2, if_neg h2]
def mapB (L : List Bd) (k : Nat) : List Bd := (L.reverse.take k).foldl (fun M b => putB b M) []
theorem mapB_succ {L : List Bd} {k : Nat} {b : Bd} (h : L[L.length - 1 - k]? = some b) (hk : k < L.length) : mapB L (k + 1) = putB b (mapB L k) := by
  unfold mapB
  rw [List.take_add_one, List.getElem?_reverse hk, h, List.foldl_append]
  rfl
theorem mapB_find : ∀ (L : List Bd) (v : Int), findB (mapB L L.length) v = findB L v := by
  intro L v
  have : ∀ L : List Bd, findB (L.reverse.foldl (fun M b => putB b M) []) v = findB L v := by
    intro L
    induction L with
    | nil => rfl
    | cons b L ih =>
      rw [List.reverse_cons, List.foldl_append]
      show findB (putB b _) v = _
      rw [putB_find, ih, findB]
  unfold mapB
  rw [← List.length_reverse, List.take_length]
  exact this L
attribute [local go_sem] Oper.semAt_some

theorem map_put {P : Program} {w : World} {U : Nat → Nat → Prop} {t kt et : TypeId} {k : IntKind} {i : Int} {l : List CV} {g clock : Nat} {es : Array MapEntry} {val : Value} {c : CV} (hu : P.underlying t = some (.map kt et)) (huk : P.underlying kt = some (.int k)) (g2 : w.heap[g]? = some (.map es clock)) (g3 : Ents U w l es.toList) (hik : IntKeys k l) (e3 : VRep U w c val) :
    ∃ es' clock', (Instr.mapUpdate t (.map (some g)) (.int k i) val).run P w = .ok () { w with heap := w.heap.setIfInBounds g (.map es' clock') } ∧ Ents U w (putR k i c l) es'.toList := by
  have hck := run_checkKey (P := P) (w := w) huk (k := .int k i) rfl false 9999
  have hge := Go.MapKept.run_getObj_map (P := P) g2
  obtain ⟨p1, p2'⟩ := putR_spec (i := i) c hik
  rcases find_spec 0 g3 hik (i := i) with ⟨f1, f2⟩ | ⟨j, e, c', f1, f2, f3, f4, f5, f6⟩
  · have hfk := run_findKey (P := P) (w := w) huk f1
    refine ⟨es.push { key := .int k i, val := val, born := clock }, clock + 1, ?_, ?_⟩
    · have hso := run_setObj_map (P := P) (Obj.map (es.push { key := .int k i, val := val, born := clock }) (clock + 1)) g2
      simp [Instr.mapUpdate, run_underlying hu, hge, hck, hfk, hso]
    · rw [p1 f2, Array.toList_push]
      exact ents_snoc g3 ⟨.sc (.int k i), c, rfl, rfl, rfl, e3⟩
  · have hfk := run_findKey (P := P) (w := w) huk f1
    rw [Nat.zero_add] at hfk
    have hjl : j < es.size := by
      have := (List.getElem?_eq_some_iff.1 f2).1
      simpa using this
    have hej : es[j]? = some e := by rw [← Array.getElem?_toList]; exact f2
    have hmod : (es.modify j fun e => { e with key := .int k i, val := val }).toList = es.toList.set j { e with key := .int k i, val := val } := by
      rw [Array.toList_modify]
      apply List.ext_getElem?
      intro q
      rw [List.getElem?_modify, List.getElem?_set]
      by_cases hq : j = q
      · subst hq
        have : es[j] = e := (Array.getElem?_eq_some_iff.1 hej).2
        simp [hjl, this]
      · simp [hq]
    refine ⟨es.modify j fun e => { e with key := .int k i, val := val }, clock, ?_, ?_⟩
    · have hso := run_setObj_map (P := P) (Obj.map (es.modify j fun e => { e with key := .int k i, val := val }) clock) g2
      have hst : (Instr.keyThatStays (.int k i) (.int k i)).run P w = .ok (.int k i) w := by simp [Instr.keyThatStays, Instr.sameBits]
      simp [Instr.mapUpdate, run_underlying hu, hge, hck, hfk, hso, hej, f5, hst]
    · rw [hmod, p2' j c' f3 (find_first 0 (j := j) g3 hik f1)]
      exact ents_set g3 ⟨.sc (.int k i), c, rfl, rfl, rfl, e3⟩

theorem wpListIn_mapRun {F : Fence} {nF : Nat} {P : Program} (w : World) {ops : Array Oper} {rest : List Oper} {o : Oper} {a : Act} {Q : Exit → Act → World → Prop}
    (hg : o.guard = none) (m x v : Operand) (t : TypeId) (hop : o.op = Op.mapUpdate t m x v) {mv key val : Value} (hm : a.eval m = mv) (hx : a.eval x = key) (hv : a.eval v = val) {w' : World} (hrun : (Instr.mapUpdate t mv key val).run P w = .ok () w')
    (hK : wpListIn F nF P ops Q rest (a.put o.dst undef) w') : wpListIn F nF P ops Q (o :: rest) a w := by
  refine wpListIn_plain hg fun K' hK' => ?_
  unfold Oper.wpIn
  refine ⟨by simp [Oper.about, hop], ?_⟩
  rw [Oper.semAt_plain F _ _ (by rw [hop]; intro c hc'; cases hc')]
  simp [execOp, hop, hm, hx, hv, hrun, Result.andThen]
  exact hK' _ _ hK

theorem backB_call (ao : Option Addr) (n c : Nat) (w : World) :
    CallsIn Fence.wide 2 Tryz.prog 109 #[.slice ao n c] w fun e w' => e = .returned (.func (.func 144) #[] #[.pointer (some ⟨w.heap.size, 0, none⟩)]) ∧ w' = w.alloc (.cells #[.slice ao n c] 49) := by
  refine callsIn_of_wp Tryz.func109 rfl trivial ?_ rfl
  simp only [Tryz.ntmps109, List.size_toArray, List.length_cons, List.length_nil, Nat.reduceAdd, Nat.reduceSub, Array.replicate_succ, Array.replicate_zero, List.push_toArray, List.append_toArray, List.nil_append, List.cons_append]
  gi_wp2
  go_ret
  exact ⟨rfl, rfl⟩

theorem vrep_bd {R : Nat → Nat → Prop} {w : World} {b : Bd} {u0 u1 u2 : Value} (h : VRep R w b.cw (.agg #[u0, u1, u2])) : u0 = .int .i64 b.v ∧ VRep R w b.t.cw (.agg #[u1, u2]) := by
  obtain ⟨xs, e, h1⟩ := vrep_row.1 h
  have hxs : xs = [u0, u1, u2] := by
    injection e with e
    have := congrArg Array.toList e
    simpa using this.symm
  subst hxs
  obtain ⟨us, bs, e1, k1, us', bs', e2, k3, k4⟩ := h1
  have hus : us = [.int .i64 b.v] := (rep_sc.1 k1).1
  have hbs : bs' = [] := k4
  subst hus; subst hbs; subst e2
  simp at e1
  obtain ⟨e3, e4⟩ := e1
  subst e4
  exact ⟨e3, _, rfl, k3⟩
theorem vrep_tm2 {R : Nat → Nat → Prop} {w : World} {t : Tm} {u1 u2 : Value} (h : VRep R w t.cw (.agg #[u1, u2])) : u1 = .int .i64 t.f ∧ ∃ a m c, u2 = .slice a m c := by
  obtain ⟨xs, e, h1⟩ := vrep_row.1 h
  have hxs : xs = [u1, u2] := by
    injection e with e
    have := congrArg Array.toList e
    simpa using this.symm
  subst hxs
  obtain ⟨us, bs, e1, k1, us', bs', e2, k3, k4⟩ := h1
  have hus : us = [.int .i64 t.f] := (rep_sc.1 k1).1
  have hbs : bs' = [] := k4
  subst hus; subst hbs; subst e2
  simp at e1
  obtain ⟨e3, e4⟩ := e1
  subst e4
  obtain ⟨a, m, c, e5, _⟩ := rep_lst.1 k3
  simp at e5
  exact ⟨e3, a, m, c, e5⟩
theorem gives_congr {α : Type} {P : Program} {gf : Nat} {lb : Array Value} {encs encs' : α → Array Value} {Ok : List α → α → World → Prop} {Kp : World → World → Prop} {S : List α → Prop} {w : World} (he : ∀ pre x V, Ok pre x V → encs x = encs' x) (h : Gives P gf lb encs Ok Kp S w) : Gives P gf lb encs' Ok Kp S w :=
  fun l J W hW hJ hY h0 => h l J W hW hJ (fun pre x V hj hok => by rw [he pre x V hok]; exact hY pre x V hj hok) h0
theorem backB_plain {R : Nat → Nat → Prop} {w : World} {L : List Bd} {Bb ob n : Nat} {ao : Option Addr} {cap : Nat} (hn : n = L.length) (hl : L.length ≤ 1000000000) (hbox : w.cell? ⟨Bb, ob, none⟩ = some (.slice ao n cap)) (hRb : R Bb ob) (hv : VRep R w (.lst (L.map Bd.cv)) (.slice ao L.length cap)) :
    ∃ (v f : Nat → Int) (a : Nat → Option Addr) (m c : Nat → Nat), (∀ x b, x < n → L[n - 1 - x]? = some b → VRep R w b.cw (.agg #[.int .i64 (v x), .int .i64 (f x), .slice (a x) (m x) (c x)])) ∧
      Gives Tryz.prog 144 #[.pointer (some ⟨Bb, ob, none⟩)] (fun x : Nat => #[.int .i64 ((n : Int) - 1 - x), .agg #[.int .i64 (v x), .int .i64 (f x), .slice (a x) (m x) (c x)]]) (fun pre x _ => x = pre.length ∧ x < n) (KpX w.heap.size fun b => ¬ ∃ o, R b o) (fun ys => ys = List.range n) w := by
  subst hn
  obtain ⟨c0, c1, c2, hc, hG⟩ := backB_gives hl hbox hRb hv
  have hx : ∀ x : Nat, ∃ (q : Int × Int × Option Addr × Nat × Nat), x < L.length → c0 (L.length - 1 - x) = .int .i64 q.1 ∧ c1 (L.length - 1 - x) = .int .i64 q.2.1 ∧ c2 (L.length - 1 - x) = .slice q.2.2.1 q.2.2.2.1 q.2.2.2.2 := fun x => by
    by_cases h : x < L.length
    · obtain ⟨bd, hbd⟩ : ∃ bd, L[L.length - 1 - x]? = some bd := ⟨L[L.length - 1 - x]'(by omega), List.getElem?_eq_getElem _⟩
      obtain ⟨g0, g1⟩ := vrep_bd (hc _ _ hbd)
      obtain ⟨g2, a, m, c, g3⟩ := vrep_tm2 g1
      exact ⟨⟨bd.v, bd.t.f, a, m, c⟩, fun _ => ⟨g0, g2, g3⟩⟩
    · exact ⟨⟨0, 0, none, 0, 0⟩, fun h2 => absurd h2 h⟩
  obtain ⟨q, hq⟩ : ∃ q : Nat → Int × Int × Option Addr × Nat × Nat, ∀ x : Nat, x < L.length → c0 (L.length - 1 - x) = .int .i64 (q x).1 ∧ c1 (L.length - 1 - x) = .int .i64 (q x).2.1 ∧ c2 (L.length - 1 - x) = .slice (q x).2.2.1 (q x).2.2.2.1 (q x).2.2.2.2 := ⟨fun x => (hx x).choose, fun x => (hx x).choose_spec⟩
  clear hx
  refine ⟨fun x => (q x).1, fun x => (q x).2.1, fun x => (q x).2.2.1, fun x => (q x).2.2.2.1, fun x => (q x).2.2.2.2, fun x b hxl hb => ?_, gives_congr (fun pre x V hok => ?_) hG⟩
  · obtain ⟨g1, g2, g3⟩ := hq x hxl
    have := hc _ _ hb
    rw [g1, g2, g3] at this
    exact this
  · obtain ⟨g1, g2, g3⟩ := hq x hok.2
    rw [g1, g2, g3]
def ImR (w : World) (R : Nat → Nat → Prop) (b o : Nat) : Prop := (R b o ∧ b < w.heap.size) ∨ b = w.heap.size + 1 + 1
def ImI (w wl : World) (R : Nat → Nat → Prop) (L : List Bd) (k : Nat) (W : World) : Prop :=
  W.heap[w.heap.size + 1]? = some (.cells #[.map (some w.heap.size)] 139 (0, 0)) ∧ (∃ es clock, W.heap[w.heap.size]? = some (.map es clock) ∧ Ents (ImR w R) W ((mapB L k).map imR) es.toList) ∧ Below w.heap.size w W ∧ w.heap.size + 3 ≤ W.heap.size ∧ KpX (w.heap.size + 3) (fun b => ¬ ∃ o, ImR w R b o) wl W
theorem imR_lt {w : World} {R : Nat → Nat → Prop} {b o : Nat} (h : ImR w R b o) : b < w.heap.size + 3 ∧ b ≠ w.heap.size := by
  rcases h with h | h
  · have := h.2; omega
  · omega
theorem ImI.up {w wl : World} {R : Nat → Nat → Prop} {L : List Bd} {k : Nat} {W W' : World} (h : ImI w wl R L k W) (hb : ∀ b, b < w.heap.size + 3 → W'.heap[b]? = W.heap[b]?) (hB : Below w.heap.size W W') : ImI w wl R L k W' := by
  obtain ⟨h1, ⟨es, clock, h2, h3⟩, h4, h5, h6⟩ := h
  refine ⟨by rw [hb _ (by omega)]; exact h1, ⟨es, clock, by rw [hb _ (by omega)]; exact h2, h3.keep fun b o u hu hc => ⟨hu, ?_⟩⟩, h4.trans hB, Nat.le_trans h5 hB.size, fun b hb' hx => (hb b hb').trans (h6 b hb' hx)⟩
  rw [World.cell?_of_block (w := W) (hb b (imR_lt hu).1)]
  exact hc
theorem ImI.put {w wl : World} {R : Nat → Nat → Prop} {L : List Bd} {k : Nat} {W : World} (h : ImI w wl R L k W) {bd : Bd} (hbd : L[L.length - 1 - k]? = some bd) (hk : k < L.length) {es : Array MapEntry} {clock : Nat} (hE : Ents (ImR w R) W (putR .i64 bd.v bd.t.cw ((mapB L k).map imR)) es.toList) : ImI w wl R L (k + 1) { W with heap := W.heap.setIfInBounds w.heap.size (.map es clock) } := by
  obtain ⟨h1, ⟨es0, clock0, h2, h3⟩, h4, h5, h6⟩ := h
  obtain ⟨q1, q2⟩ := heap_set (o' := Obj.map es clock) h2
  have hE : Ents (ImR w R) W ((mapB L (k + 1)).map imR) es.toList := by rw [mapB_succ hbd hk, ← putB_row]; exact hE
  refine ⟨by rw [q2 _ (by omega)]; exact h1, ⟨es, clock, q1, hE.keep fun b o u hu hc => ⟨hu, ?_⟩⟩, ⟨h4.os, h4.tape, h4.output, by simpa using h4.size, fun b hb => (q2 b (by omega)).trans (h4.block b hb)⟩, by simpa using h5, fun b hb' hx => ?_⟩
  · rw [World.cell?_of_block (w := W) (q2 b (imR_lt hu).2)]
    exact hc
  · obtain ⟨o, ho⟩ := Classical.not_not.1 hx
    exact (q2 b (imR_lt ho).2).trans (h6 b hb' hx)

set_option maxRecDepth 100000 in
set_option maxHeartbeats 4000000 in
theorem images_in (L : List Bd) {R : Nat → Nat → Prop} {w : World} {ao : Option Addr} {n cap : Nat} (hn : n = L.length) (hv : VRep R w (.lst (L.map Bd.cv)) (.slice ao L.length cap)) (h64 : 64 < n) (hl : n ≤ 1000000000) :
    CallsIn Fence.wide 3 Tryz.prog 86 #[.slice ao n cap] w fun e W' => ∃ b g, e = .returned (.func (.func 110) #[] #[.pointer (some ⟨b, 0, none⟩)]) ∧ MapQ b g ((mapB L L.length).map imR) (fun b o => R b o ∨ w.heap.size ≤ b) W' ∧ Below w.heap.size w W' := by
  have hmm : ∀ w : World, Sem.run Tryz.prog (Instr.makeMap 139 (some (.int .i64 (n : Int)))) w = .ok (.map (some w.heap.size)) (w.alloc (.map #[] 0)) := fun w => by
    simp [Instr.makeMap, run_underlying Tryz.underlying139, asInt, asIntOf, run_newObj_alloc]
  have HL := hid hn
  have HV := hid hv
  clear hn hv
  refine callsIn_of_wp_marks Tryz.func86 rfl trivial ?_ rfl
  simp only [Tryz.ntmps86, List.size_toArray, List.length_cons, List.length_nil, Nat.reduceAdd, Nat.reduceSub, Array.replicate_succ, Array.replicate_zero, List.push_toArray, List.append_toArray, List.nil_append, List.cons_append]
  gi_wp2_with (refine ⟨trivial, ?_⟩; gi_at_call 109; refine (backB_call _ _ _ _).mono ?_; rintro e w' ⟨rfl, rfl⟩)
  obtain ⟨w1, hw1⟩ : ∃ w1, w1 = w.alloc (.map #[] 0) := ⟨_, rfl⟩
  obtain ⟨w2, hw2⟩ : ∃ w2, w2 = w1.alloc (.cells #[.map (some w.heap.size)] 139) := ⟨_, rfl⟩
  obtain ⟨wl, hwl⟩ : ∃ wl, wl = w2.alloc (.cells #[.slice ao n cap] 49) := ⟨_, rfl⟩
  have s1 : w1.heap.size = w.heap.size + 1 := by rw [hw1]; simp
  have s2 : w2.heap.size = w.heap.size + 1 + 1 := by rw [hw2]; simp; omega
  have hsz : wl.heap.size = w.heap.size + 3 := by rw [hwl]; simp; omega
  have k1 : Below w.heap.size w w1 := by rw [hw1]; exact bA (bW _) _
  have k2 : Below w1.heap.size w1 w2 := by rw [hw2]; exact bA (bW _) _
  have k3 : Below w2.heap.size w2 wl := by rw [hwl]; exact bA (bW _) _
  have hb0 : Below w.heap.size w wl := bN (bN k1 k2) k3
  have hbx : wl.cell? ⟨w.heap.size + 1 + 1, 0, none⟩ = some (.slice ao n cap) := by
    have : wl.heap[w.heap.size + 1 + 1]? = some (.cells #[.slice ao n cap] 49 (0, 0)) := by rw [hwl, ← s2]; exact World.alloc_heap_new _ _
    simp [World.cell?, this]
  have hI0 : ImI w wl R L 0 wl := by
    refine ⟨?_, ⟨#[], 0, ?_, rfl⟩, hb0, by omega, fun b hb hx => rfl⟩
    · rw [k3.block _ (by omega), hw2, ← s1]; exact World.alloc_heap_new _ _
    · rw [k3.block _ (by omega), k2.block _ (by omega), hw1]; exact World.alloc_heap_new _ _
  have hv' : VRep (ImR w R) wl (.lst (L.map Bd.cv)) (.slice ao L.length cap) := HV.out.keep fun b o u hu hc => by
    have hlt := World.block_lt_of_cell? w _ hc
    refine ⟨.inl ⟨hu, hlt⟩, ?_⟩
    rw [World.cell?_of_block (w := w) (hb0.block b hlt)]
    exact hc
  obtain ⟨zv, zf, za, zm, zc, hc, hG⟩ := backB_plain (R := ImR w R) (w := wl) (L := L) (Bb := w.heap.size + 1 + 1) (ob := 0) HL.out (by have := HL.out; omega) hbx (.inr rfl) hv'
  rw [← hw1, ← hw2, ← hwl]
  clear hwl hw1 hw2 s1 s2 k1 k2 k3 hv' hbx hmm
  refine wp_collectH (gf := 144) (lb := #[.pointer (some ⟨w.heap.size + 1 + 1, 0, none⟩)]) rfl (enters_of Tryz.func144 (by kernel_rfl) rfl)
    hG (fun {A B C} h1 h2 b hb hx => (h2 b hb hx).trans (h1 b hb hx)) (fun W l o o' hl h ho b hb hx => World.putObj_heap_other (by omega)) (fun pre x W l o o' hl hx h ho => hx) (fun x => rfl)
    (fun pre W => ImI w wl R L pre.length W) (fun pre A B h hb => h.up (fun b hb' => hb.block b (by have := h.2.2.2.1; omega)) ⟨hb.os, hb.tape, hb.output, hb.size, fun b hb' => hb.block b (by have := h.2.2.2.1; omega)⟩) (fun pre A l o o' h hl h1 h2 => h.up (fun b hb' => World.putObj_heap_other (by omega)) (kpt_put o' (by omega) h1 h2).1) hI0
    (fun x b => { tmps := #[.slice ao n cap, undef, .nilFunc, .pointer (some ⟨w.heap.size + 1, 0, none⟩), undef, .pointer (some ⟨b, 0, none⟩), .slice ao n cap, .int .i64 n, .bool (decide ((n : Int) ≤ 64)), undef, undef, .slice ao n cap, .int .i64 n, .map (some w.heap.size), .slice ao n cap, .func (.func 144) #[] #[.pointer (some ⟨w.heap.size + 1 + 1, 0, none⟩)], .int .i64 ((n : Int) - 1 - x), .agg #[.int .i64 (zv x), .int .i64 (zf x), .slice (za x) (zm x) (zc x)], undef, undef, undef, undef, undef, undef], defers := [] })
    (fun x => .cells #[.int .i64 (zv x), .int .i64 (zf x), .slice (za x) (zm x) (zc x)] 85 (0, 0)) (fun V x hV b hb hx => (bA (bW V) _).block b (by omega)) (fun pre x V hx => hx) ?assign ?body ?done
  case assign =>
    intro l x W K hK
    gi_wp2
    exact hK
  case body =>
    rintro l pre x W b hb hbx' hI ⟨hx, hxl⟩
    obtain ⟨bd, hbd⟩ : ∃ bd, L[n - 1 - x]? = some bd := ⟨L[n - 1 - x]'(by have := HL.out; omega), List.getElem?_eq_getElem _⟩
    obtain ⟨g0, g1⟩ := vrep_bd (hc _ _ hxl hbd)
    have hvW : VRep (ImR w R) W bd.t.cw (.agg #[.int .i64 (zf x), .slice (za x) (zm x) (zc x)]) := by
      refine g1.keep fun b o u hu hcc => ⟨hu, ?_⟩
      rw [World.cell?_of_block (w := wl) (hI.2.2.2.2 b (imR_lt hu).1 fun hn => hn ⟨o, hu⟩)]
      exact hcc
    rw [g0] at hbx'
    rw [g0]
    have HI := hid hI
    obtain ⟨i1, ⟨es, clock, i2, i3⟩, i4, i5, i6⟩ := hI
    obtain ⟨es', clock', hrun, hE⟩ := map_put (P := Tryz.prog) (t := 139) (k := .i64) (i := bd.v) Tryz.underlying139 Tryz.underlying3 i2 i3 (imR_keys _) hvW
    have e0 : W.cell? ⟨b, 0, none⟩ = some (.int .i64 bd.v) := by simp [World.cell?, hbx']
    have e1 : W.cell? ⟨b, 1, none⟩ = some (.int .i64 (zf x)) := by simp [World.cell?, hbx']
    have e2 : W.cell? ⟨b, 2, none⟩ = some (.slice (za x) (zm x) (zc x)) := by simp [World.cell?, hbx']
    have em : W.cell? ⟨w.heap.size + 1, 0, none⟩ = some (.map (some w.heap.size)) := by simp [World.cell?, i1]
    have HX : Hid (x = pre.length ∧ x < n) := ⟨hx, hxl⟩
    have HB := hid hbd
    have HE := hid hE
    have H2 := hid i2
    clear hx hxl hbd hE i1 i2 i3 i4 i6 hc hG hI0 g0 g1 hvW hbx'
    gi_wp2_with (gi_at_mapUpdate; refine wpListIn_mapRun _ rfl _ _ _ 139 rfl rfl rfl rfl hrun ?_)
    obtain ⟨hx, hxl⟩ := HX.out
    obtain ⟨q1, q2⟩ := heap_set (o' := Obj.map es' clock') H2.out
    refine ⟨⟨by simp, fun g o hg1 hg2 ho => by rw [q2 g (by omega)]; exact hg2⟩, fun b hb hx => ?_, ?_⟩
    · obtain ⟨o, ho⟩ := Classical.not_not.1 hx
      exact q2 b (imR_lt ho).2
    · rw [List.length_append]
      have hB2 := HB.out
      rw [HL.out, hx] at hB2
      exact ImI.put HI.out hB2 (by have := HL.out; omega) HE.out
  case done =>
    rintro D xs W hD hS hI hK
    gi_wp2
    refine ⟨by simp, .inl ⟨_, _, rfl, run_takeDeferred hK, ?_⟩⟩
    have hI2 := hI.up (W' := W.putObj D (.deferred none)) (fun b hb' => World.putObj_heap_other (by omega)) (kpt_put _ (by omega) hK rfl).1
    rw [hS, List.length_range, HL.out] at hI2
    obtain ⟨j1, ⟨es, clock, j2, j3⟩, j4, _, _⟩ := hI2
    refine ⟨_, results_tmp rfl _ _ _, w.heap.size + 1, w.heap.size, rfl, ⟨by simp [World.cell?, j1], es, clock, j2, j3.keep fun b o u hu hc => ⟨?_, hc⟩⟩, j4⟩
    rcases hu with h | h
    · exact .inl h.1
    · exact .inr (by omega)
theorem step_call2 {P : Program} (w : World) {ops : Array Oper} {o : Oper} {a : Act} {K : Act → World → Prop} {Q : Exit → Act → World → Prop} {E : Prop} (hgd : Region.wanted o (yielded ops a.tmps) = true) (f : Nat) (x y : Operand) (ts : Array TypeId)
    (ho : o.op = .call { callee := .value (.func f), args := #[x, y], argTypes := ts }) (eg : ∀ args w, (callFunc f args).run P w = .ok (.enter f args) w) (v u : Value) (hx : a.eval x = v) (hy : a.eval y = u) {R : Ending → World → Prop} (hc : Calls P f #[v, u] w R) (h : ∀ e w', R e w' → ∃ u, e = .returned u ∧ K (a.put o.dst u) w') :
    if Region.wanted o (yielded ops a.tmps) = true then Oper.wp P o a w K Q else E := by
  rw [if_pos hgd]
  unfold Oper.wp
  have he : (execOp a.eval o).run P w = .ok (.enter f #[v, u]) w := by
    have hf : a.eval (.func f) = .func (.func f) #[] #[] := rfl
    generalize a.eval = ρ at hf hx hy ⊢
    simp [execOp, ho, resolve, invoke, Deferred.ofValue, hf, hx, hy, eg]
  rw [he, Oper.upon_enter]
  refine hc.mono ?_
  rintro e w' hr
  obtain ⟨u, rfl, hk⟩ := h e w' hr
  exact hk

theorem results_apM {tmps : Array Value} {w : World} {g : Nat} {x y : Value} (hp : tmps.getD 4 undef = .pointer (some ⟨g, 0, none⟩)) (hg : w.heap[g]? = some (.cells #[x, y] 61 (0, 0))) :
    (results Tryz.f49 tmps).run Tryz.prog w = .ok (.agg #[x, y]) w := by
  have hp' : tmps[4]?.getD undef = .pointer (some ⟨g, 0, none⟩) := by simpa using hp
  simp [results, hp', asAddr, run_loadVar_row w g _ 61 #[x, y] (0, 0) _ hg Tryz.underlying61 rfl info_tm_size]

set_option maxRecDepth 100000 in
set_option maxHeartbeats 4000000 in
theorem applyM_abs (W : World) (L : List Bd) (t : Tm) (hl : 64 < L.length) (hl2 : L.length ≤ 1000000000) (hb : bdsOk L) (hr : t.rng) (hok : t.ok) : AFun Tryz.prog W 49 [.lst (L.map Bd.cv), t.cw] (.val (repT (imgB L) t).cw) := by
  refine ⟨ent_of Tryz.func49 rfl rfl, .inl rfl, rfl, fun U w vs _ hv => ?_⟩
  obtain ⟨sv, vs1, rfl, hv1, tv, vs2, rfl, hv2, hv3⟩ := hv
  have hv3 : vs2 = [] := hv3
  subst hv3
  obtain ⟨ao, n, cap, e1, e2, _⟩ := vrep_lst.1 hv1
  subst e1
  rw [List.length_map] at e2
  obtain ⟨xs, e3, hx3⟩ := vrep_row.1 hv2
  obtain ⟨u1, u2, rfl⟩ : ∃ u1 u2, xs = [u1, u2] := by
    have h3 : xs.length = 2 := (rep_row.2 hx3).len
    match xs, h3 with
    | [u1, u2], _ => exact ⟨u1, u2, rfl⟩
  subst e3
  obtain ⟨g1, ta, tm, tc, g2⟩ := vrep_tm2 hv2
  subst g1; subst g2
  have hv1' : VRep U w (.lst (L.map Bd.cv)) (.slice ao L.length cap) := by rw [← e2]; exact hv1
  have HImg : Hid (∀ V : World, Below w.heap.size w V → w.heap.size + 2 ≤ V.heap.size → Calls Tryz.prog 86 #[.slice ao n cap] V fun e W' => ∃ b g, e = .returned (.func (.func 110) #[] #[.pointer (some ⟨b, 0, none⟩)]) ∧ MapQ b g ((mapB L L.length).map imR) (fun b o => (U b o ∧ b < w.heap.size) ∨ w.heap.size + 2 ≤ b) W' ∧ Below V.heap.size V W') := fun V hV hV2 =>
    Calls.mono (callsIn_wide.1 (images_in (R := fun b o => U b o ∧ b < w.heap.size) L e2 (hv1'.keep fun b o u hu hc => ⟨⟨hu, World.block_lt_of_cell? w _ hc⟩, by
      rw [World.cell?_of_block (w := w) (hV.block b (World.block_lt_of_cell? w _ hc))]; exact hc⟩) (by omega) (by omega))) fun e W' ⟨b, g, k1, ⟨k2, es, ck, k3, k4⟩, k5⟩ => ⟨b, g, k1, ⟨k2, es, ck, k3, k4.keep fun b o u hu hc => ⟨hu.imp id fun h => by omega, hc⟩⟩, k5⟩
  have HRep : Hid (∀ (V : World) (b g : Nat), Below w.heap.size w V → w.heap.size + 2 ≤ V.heap.size → MapQ b g ((mapB L L.length).map imR) (fun b o => (U b o ∧ b < w.heap.size) ∨ w.heap.size + 2 ≤ b) V → Calls Tryz.prog 83 #[.agg #[.int .i64 t.f, .slice ta tm tc], .func (.func 110) #[] #[.pointer (some ⟨b, 0, none⟩)]] V fun e W' => ∃ a m c, e = .returned (.agg #[.int .i64 (repT (imgB L) t).f, .slice a m c]) ∧ VRep (fun b o => (U b o ∧ b < w.heap.size) ∨ w.heap.size + 2 ≤ b) W' (repT (imgB L) t).cw (.agg #[.int .i64 (repT (imgB L) t).f, .slice a m c]) ∧ Below V.heap.size V W') := fun V b g hV hV2 hq => by
    have hI : ∀ v, 0 ≤ v → v ≤ 9223372036854775807 → AFunVQ Tryz.prog (MapQ b g ((mapB L L.length).map imR)) (.fn 110 0 [.sc (.pointer (some ⟨b, 0, none⟩))]) [.i v] (.val (imgB L v).cw) ∧ (imgB L v).rng ∧ (imgB L v).size ≤ 90000000000 := fun v h1 h2 => by
      refine ⟨⟨_, _, _, rfl, ?_⟩, imgB_ok hb h1 h2⟩
      have h3 := imgQ_abs b g (mapB L L.length) v h1 h2
      rw [show imgB (mapB L L.length) v = imgB L v by unfold imgB; rw [mapB_find]] at h3
      exact h3
    have h4 := (replaceQ_abs (mapQ_up b g _) _ (imgB L) hI t hr hok).2.2.2 (fun b o => (U b o ∧ b < w.heap.size) ∨ w.heap.size + 2 ≤ b) V [.agg #[.int .i64 t.f, .slice ta tm tc], .func (.func 110) #[] #[.pointer (some ⟨b, 0, none⟩)]] hq ⟨_, _, rfl, hv2.keep fun b o u hu hc => ⟨.inl ⟨hu, World.block_lt_of_cell? w _ hc⟩, by
      rw [World.cell?_of_block (w := w) (hV.block b (World.block_lt_of_cell? w _ hc))]; exact hc⟩, _, _, rfl, vrep_fn.2 ⟨[], [.pointer (some ⟨b, 0, none⟩)], rfl, rfl, ⟨[_], [], rfl, rep_sc.2 ⟨rfl, rfl⟩, rfl⟩, fun c hc => by simp at hc; subst hc; simp [CV.sc]⟩, rfl⟩
    refine Calls.mono h4 ?_
    rintro e W' ⟨v, rfl, hR, hB⟩
    have hR : VRep (fun b o => ((U b o ∧ b < w.heap.size) ∨ w.heap.size + 2 ≤ b) ∨ V.heap.size ≤ b) W' (repT (imgB L) t).cw v := hR
    have hR := hR.keep (V := fun b o => (U b o ∧ b < w.heap.size) ∨ w.heap.size + 2 ≤ b) (w' := W') fun b o u hu hc => ⟨hu.elim id fun h => .inr (by omega), hc⟩
    obtain ⟨xs, e3, hx3⟩ := vrep_row.1 hR
    obtain ⟨u1, u2, rfl⟩ : ∃ u1 u2, xs = [u1, u2] := by
      have h3 : xs.length = 2 := (rep_row.2 hx3).len
      match xs, h3 with
      | [u1, u2], _ => exact ⟨u1, u2, rfl⟩
    subst e3
    obtain ⟨g1, a, m, c, g2⟩ := vrep_tm2 hR
    subst g1; subst g2
    exact ⟨a, m, c, rfl, hR, hB⟩
  clear hv1 hv1' hv2 hx3 hb hr hok hl hl2 e2
  show Calls Tryz.prog 49 #[.slice ao n cap, .agg #[.int .i64 t.f, .slice ta tm tc]] w _
  refine calls_of_wp Tryz.func49 rfl ?_
  simp only [Tryz.ntmps49, List.size_toArray, List.length_cons, List.length_nil, Nat.reduceAdd, Nat.reduceSub, Array.replicate_succ, Array.replicate_zero, List.push_toArray, List.append_toArray, List.nil_append, List.cons_append]
  go_wp2_with fail
  obtain ⟨w2, hw2⟩ : ∃ w2, w2 = (w.alloc (.cells #[.int .i64 t.f, .slice ta tm tc] 61)).alloc (.cells #[.int .i64 0, .slice none 0 0] 61) := ⟨_, rfl⟩
  have hsz : w2.heap.size = w.heap.size + 2 := by rw [hw2]; simp
  have hb2 : Below w.heap.size w w2 := by rw [hw2]; exact bA (bA (bW _) _) _
  have y1 : w2.heap[w.heap.size]? = some (.cells #[.int .i64 t.f, .slice ta tm tc] 61 (0, 0)) := by
    rw [hw2, Below.heap_alloc _ _ _ (by simp)]; exact World.alloc_heap_new _ _
  have y2 : w2.heap[w.heap.size + 1]? = some (.cells #[.int .i64 0, .slice none 0 0] 61 (0, 0)) := by
    rw [hw2, show w.heap.size + 1 = (w.alloc (.cells #[.int .i64 t.f, .slice ta tm tc] 61)).heap.size by simp]; exact World.alloc_heap_new _ _
  have hs3 : w2.drew.heap.size = w.heap.size + 2 := hsz
  have hb3 : Below w.heap.size w w2.drew := hb2.drew
  have HB3 := hid hb3
  have HY1 := hid (show w2.drew.heap[w.heap.size]? = _ from y1)
  have HY2 := hid (show w2.drew.heap[w.heap.size + 1]? = _ from y2)
  obtain ⟨d1, d2⟩ := cell2 (show w2.drew.heap[w.heap.size]? = _ from y1)
  rw [← hw2]
  clear hw2 hb2 hb3 y1 y2
  go_region_law (first
    | (refine step_call _ rfl 86 _ _ rfl (enters_of Tryz.func86 (by kernel_rfl) rfl) (.slice ao n cap) rfl (HImg.out _ HB3.out (by omega)) ?_; rintro e w5 ⟨b, g, rfl, hq5, hb5⟩; refine ⟨_, rfl, ?_⟩; have hB5 : Below w.heap.size w w5 := HB3.out.trans (hb5.mono (by omega)); have hs5 := hb5.size; have x2 := (hb5.block _ (by omega)).trans HY2.out; obtain ⟨f1, f2⟩ := cell2 ((hb5.block _ (by omega)).trans HY1.out))
    | (refine step_call2 _ rfl 83 _ _ _ rfl (enters_of Tryz.func83 (by kernel_rfl) rfl) (.agg #[.int .i64 t.f, .slice ta tm tc]) (.func (.func 110) #[] #[.pointer (some ⟨b, 0, none⟩)]) rfl rfl (HRep.out _ b g hB5 (by omega) hq5) ?_; rintro e w6 ⟨a6, m6, c6, rfl, hR6, hb6⟩; refine ⟨_, rfl, ?_⟩; have hB6 : Below w.heap.size w w6 := hB5.trans (hb6.mono (by omega)); have z6 := (hb6.block _ (by omega)).trans x2; obtain ⟨f3, f4⟩ := cell2 z6; obtain ⟨f5, f6⟩ := frozen_box z6))
  all_goals go_wp2_with fail
  all_goals refine bodyPost_ret (results_apM (g := w.heap.size + 1) rfl (two_block z6 _ _)) rfl ?_
  all_goals refine ⟨_, rfl, ?_, (hB6.setCell (p := ⟨w.heap.size + 1, 0, none⟩) (by show w.heap.size ≤ w.heap.size + 1; omega) _).setCell (p := ⟨w.heap.size + 1, 1, none⟩) (by show w.heap.size ≤ w.heap.size + 1; omega) _⟩
  all_goals refine VRep.keep (fun b' o u hu hc => ⟨hu.elim (fun h => .inl h.1) (fun h => .inr (by omega)), ?_⟩) hR6
  all_goals have hne : b' ≠ w.heap.size + 1 := by rcases hu with h | h <;> omega
  all_goals rw [World.cell?_of_block (w := w6) (by rw [Below.heap_setCell _ _ _ _ hne, Below.heap_setCell _ _ _ _ hne])]
  all_goals exact hc

theorem applyG_abs (W : World) (L : List Bd) (t : Tm) (hl : L.length ≤ 1000000000) (hb : bdsOk L) (hr : t.rng) (hok : t.ok) : AFun Tryz.prog W 49 [.lst (L.map Bd.cv), t.cw] (.val (repT (imgB L) t).cw) := by
  by_cases h : L.length ≤ 64
  · exact apply_abs W L t h hb hr hok
  · exact applyM_abs W L t (by omega) hl hb hr hok
end Go.Proofs.YtmeegdomncadpaaGreat
