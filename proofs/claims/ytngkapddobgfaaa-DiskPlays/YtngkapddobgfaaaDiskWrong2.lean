/-
  What the document's wrong returns, in one word.
-/
import Derived.Test.YtngkapddobgfaaaDiskWrong
namespace Go.Proofs.Ytngkapddobgfaaa
open Go.RowKit Go.Maps
set_option linter.unusedVariables false

theorem findZ_cases (rs : List FRef) (name : List UInt8) : (∃ (i : Nat) (f : FRef), findZ (rs.map FRef.file) name = (i : Int) ∧ i < rs.length ∧ rs[i]? = some f ∧ (getG (rs.map FRef.file) name).isSome = true ∧ bytesF (rs.map FRef.file) name = f.zs) ∨ (findZ (rs.map FRef.file) name = -1 ∧ (getG (rs.map FRef.file) name).isSome = false) := by
  have hfg := find_get (rs.map FRef.file) name
  cases hff : findF (rs.map FRef.file) name with
  | none => exact .inr ⟨by simp [findZ, hff], by rw [← hfg, hff]; rfl⟩
  | some i =>
    obtain ⟨i', h1, h2, h3⟩ := findZ_some (fs := rs.map FRef.file) (name := name) (by rw [hff]; rfl)
    rw [List.length_map] at h3
    refine .inl ⟨i', rs[i']'h3, h2, h3, List.getElem?_eq_getElem h3, by rw [← hfg, hff]; rfl, ?_⟩
    unfold bytesF
    rw [h1]
    simp [h3, FRef.file]

theorem wrong_any (room : Nat) (la : Option Addr) (ln lc : Nat) (wa : Option Addr) (wn wc : Nat) (armed : Int) (down : Bool) (deeds : Int) (a : Option Addr) (n c : Nat) (rs : List FRef) (r : ARef) (w : World) (hf : Fs w a n c rs) (hn : n ≤ 1000) (hu : usedF (rs.map FRef.file) ≤ 4294967296) (hroom : room ≤ 1073741824) (hrn : r.n ≤ 1000) (hrz : r.zs.length = r.n)
    (hk : 0 ≤ r.kind ∧ r.kind ≤ 8 ∧ r.kind ≠ 6 ∧ r.kind ≠ 7) :
    Calls Try.prog 35 #[refDisk (room : Int) la ln lc wa wn wc armed down deeds, .slice a n c, r.val] w fun e w' => e = .returned (.int .i64 (wrongR room down (rs.map FRef.file) r.act)) ∧ Below w.heap.size w w' := by
  obtain ⟨W, hW⟩ : ∃ W, W = wrongR room down (rs.map FRef.file) r.act := ⟨_, rfl⟩
  rw [← hW]
  unfold wrongR at hW
  cases down with
  | true => exact wrong_first room la ln lc wa wn wc armed true deeds a n c r w W (.inl ⟨rfl, by simpa using hW⟩)
  | false =>
  rw [if_neg (by simp)] at hW
  by_cases k5 : r.kind = 5
  · rw [if_pos (show r.act.kind = 5 from k5)] at hW
    exact wrong_first room la ln lc wa wn wc armed false deeds a n c r w W (.inr (.inl ⟨rfl, k5, hW⟩))
  rw [if_neg (show ¬ r.act.kind = 5 from k5)] at hW
  have hwl : W = if badN r.name.toList || (decide (r.kind = 3) && badN r.to.toList) then 1
      else if r.kind = 0 then (if (getG (rs.map FRef.file) r.name.toList).isSome then 6 else if 64 ≤ (rs.map FRef.file).length then 4 else 0)
      else if r.kind = 2 ∧ (r.num < 0 ∨ ((getG (rs.map FRef.file) r.name.toList).isSome = true ∧ ((bytesF (rs.map FRef.file) r.name.toList).length : Int) < r.num)) then 1
      else if (getG (rs.map FRef.file) r.name.toList).isSome = false then 5
      else if r.kind = 1 ∧ room < usedF (rs.map FRef.file) + r.zs.length then 4 else 0 := hW
  clear hW
  have hnl : r.name.toList.length = r.name.size := size_list _
  have htl : r.to.toList.length = r.to.size := size_list _
  cases hbn : badN r.name.toList with
  | true => exact wrong_first room la ln lc wa wn wc armed false deeds a n c r w W (.inr (.inr ⟨rfl, k5, by rw [hwl, hbn]; rfl, .inl hbn⟩))
  | false =>
  cases hbt : (decide (r.kind = 3) && badN r.to.toList) with
  | true =>
    have h3 := Bool.and_eq_true_iff.1 hbt
    exact wrong_first room la ln lc wa wn wc armed false deeds a n c r w W (.inr (.inr ⟨rfl, k5, by rw [hwl, hbn, hbt]; rfl, .inr ⟨hbn, of_decide_eq_true h3.1, h3.2⟩⟩))
  | false =>
  rw [if_neg (by rw [hbn, hbt]; simp)] at hwl
  have hg : r.name.toList.length ≠ 0 ∧ ¬ 16 < r.name.toList.length := by
    unfold badN at hbn
    rw [Bool.or_eq_false_iff, decide_eq_false_iff_not, decide_eq_false_iff_not] at hbn
    omega
  have hb1 : (r.name.toList == []) = false := by
    have : ¬ r.name.toList = [] := fun h => hg.1 (by rw [h]; rfl)
    simpa using this
  have t2 : ¬ (16 : Int) < (r.name.size : Int) := by omega
  have hnr : n = rs.length := hf.1
  have hfc := findZ_cases rs r.name.toList
  obtain ⟨Z, hZ⟩ : ∃ Z, Z = findZ (rs.map FRef.file) r.name.toList := ⟨_, rfl⟩
  rw [← hZ] at hfc
  by_cases k0 : r.kind = 0
  · rw [if_pos k0, List.length_map] at hwl
    refine wrong_k0 room la ln lc wa wn wc armed deeds a n c rs r w W Z hf hn hZ hb1 t2 k0 ?_
    rcases hfc with ⟨i, f, h1, h2, h3, h4, h5⟩ | ⟨h1, h4⟩
    · exact .inl ⟨by omega, by rw [hwl, if_pos h4]⟩
    · rw [if_neg (by rw [h4]; simp)] at hwl
      by_cases h64 : 64 ≤ rs.length
      · exact .inr (.inl ⟨by omega, by omega, by rw [hwl, if_pos h64]⟩)
      · exact .inr (.inr ⟨by omega, by omega, by rw [hwl, if_neg h64]⟩)
  rw [if_neg k0] at hwl
  by_cases k2 : r.kind = 2
  · refine wrong_k2 room la ln lc wa wn wc armed deeds a n c rs r w W Z hf hn hZ hb1 t2 k2 ?_
    by_cases hneg : r.num < 0
    · exact .inl ⟨hneg, by rw [hwl, if_pos ⟨k2, .inl hneg⟩]⟩
    rcases hfc with ⟨i, f, h1, h2, h3, h4, h5⟩ | ⟨h1, h4⟩
    · have hfn : f.zs.length = f.n := (hf.2.2.2.2 f (List.mem_of_getElem? h3)).2.2.2.1
      rw [h5, hfn] at hwl
      by_cases hlt : (f.n : Int) < r.num
      · exact .inr (.inr (.inl ⟨i, f, by omega, h1, by omega, h3, hlt, by rw [hwl, if_pos ⟨k2, .inr ⟨h4, hlt⟩⟩]⟩))
      · refine .inr (.inr (.inr ⟨i, f, by omega, h1, by omega, h3, by omega, ?_⟩))
        rw [hwl, if_neg (by rintro ⟨_, h | ⟨_, h⟩⟩ <;> omega), if_neg (by rw [h4]; simp), if_neg (by omega)]
    · refine .inr (.inl ⟨by omega, h1, ?_⟩)
      rw [hwl, if_neg (by rintro ⟨_, h | ⟨h, _⟩⟩; exact hneg h; rw [h4] at h; cases h), if_pos h4]
  rw [if_neg (fun h => k2 h.1)] at hwl
  by_cases k1 : r.kind = 1
  · refine wrong_k1 room la ln lc wa wn wc armed deeds a n c rs r w W Z hf hn hZ hb1 t2 k1 _ rfl hu hroom hrn ?_
    rcases hfc with ⟨i, f, h1, h2, h3, h4, h5⟩ | ⟨h1, h4⟩
    · rw [if_neg (by rw [h4]; simp), hrz] at hwl
      by_cases hlt : room < usedF (rs.map FRef.file) + r.n
      · exact .inr (.inl ⟨by omega, hlt, by rw [hwl, if_pos ⟨k1, hlt⟩]⟩)
      · exact .inr (.inr ⟨by omega, by omega, by rw [hwl, if_neg (fun h => hlt h.2)]⟩)
    · exact .inl ⟨by omega, by rw [hwl, if_pos h4]⟩
  refine wrong_k348 room la ln lc wa wn wc armed deeds a n c rs r w W Z hf hn hZ hb1 t2 (by omega) (fun k3 => ?_) ?_
  · have hbt' : badN r.to.toList = false := by simpa [k3] using hbt
    unfold badN at hbt'
    rw [Bool.or_eq_false_iff, decide_eq_false_iff_not, decide_eq_false_iff_not] at hbt'
    refine ⟨?_, by omega⟩
    have : ¬ r.to.toList = [] := fun h => by rw [h] at hbt'; simp at hbt'
    simpa using this
  · rcases hfc with ⟨i, f, h1, h2, h3, h4, h5⟩ | ⟨h1, h4⟩
    · exact .inr ⟨by omega, by rw [hwl, if_neg (by rw [h4]; simp), if_neg (fun h => k1 h.1)]⟩
    · exact .inl ⟨by omega, by rw [hwl, if_pos h4]⟩
end Go.Proofs.Ytngkapddobgfaaa
