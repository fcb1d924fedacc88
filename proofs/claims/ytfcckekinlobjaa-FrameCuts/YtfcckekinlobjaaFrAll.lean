/-
  What frame.Get returns, in one word; the iterator of frame.frames and frame.All.
-/
import Derived.Test.YtfcckekinlobjaaFrGet
import Derived.Test.YtfcckekinlobjaaFrRange
import Derived.Maps.AppendAt
namespace Go.Proofs.Ytfcckekinlobjaa
open Go.RowKit Go.Shelf
set_option linter.unusedVariables false
attribute [local go_sem] Oper.semAt_some

theorem getF_le {l r : List Int} {n : Nat} (hwf : ∀ z ∈ l, 0 ≤ z ∧ z ≤ 255) (h : getF l = some (r, n)) : 5 ≤ n ∧ n ≤ l.length ∧ r.length ≤ 65536 ∧ ∀ z ∈ r, 0 ≤ z ∧ z ≤ 255 := by
  unfold getF at h
  split at h
  · cases h
  split at h
  · cases h
  split at h
  · cases h
  split at h
  · rename_i h1 h2 h3 h4
    obtain ⟨v, c, er, he⟩ : ∃ v c er, rdU l = (v, c, er) := ⟨_, _, _, rfl⟩
    rw [he] at h h1 h2 h3
    simp only [ne_eq, Decidable.not_not] at h1
    subst h1
    have hb := rdU_bounds hwf he
    simp only [Option.some.injEq, Prod.mk.injEq] at h h2 h3
    obtain ⟨rfl, rfl⟩ := h
    refine ⟨by omega, by omega, ?_, fun z hz => hwf z (List.mem_of_mem_drop (List.mem_of_mem_take hz))⟩
    rw [List.length_take]
    omega
  · cases h

/-- The record that Get hands over, where it lies. -/
structure Rc where
  nx : Nat
  a : Option Addr
  c : Nat
  zs : List Int

def Rc.piece (x : Rc) : Piece := ⟨x.a, x.zs.length, x.c, x.zs⟩
def Rc.ok (x : Rc) (w : World) : Prop := Piece.ok w x.piece ∧ Bt8 w x.a x.zs.length
def Rc.v (x : Rc) : Value := .slice x.a x.zs.length x.c

theorem get_any (a : Option Addr) (k cap p : Nat) (zs : List Int) (w : World) (hb : Bs w a k zs) (hk : k ≤ 1000000) (hkc : k ≤ cap) (hp : p ≤ k) :
    Calls Try.prog 14 #[.slice a k cap, .int .i64 (p : Int)] w fun e w' => Below w.heap.size w w' ∧
      ((getF (zs.drop p) = none ∧ ∃ er : Int, er ≠ 0 ∧ e = .returned (.tuple #[.slice none 0 0, .int .i64 0, .int .u8 er])) ∨
       ∃ (x : Rc) (n : Nat), getF (zs.drop p) = some (x.zs, n) ∧ x.nx = p + n ∧ x.ok w' ∧ e = .returned (.tuple #[x.v, .int .i64 (x.nx : Int), .int .u8 0])) := by
  obtain ⟨v, c, er, he⟩ : ∃ v c er, rdU (zs.drop p) = (v, c, er) := ⟨_, _, _, rfl⟩
  have hwf : ∀ z ∈ zs.drop p, 0 ≤ z ∧ z ≤ 255 := fun z hz => hb.2.1 z (List.mem_of_mem_drop hz)
  have hl : (zs.drop p).length = k - p := by rw [List.length_drop, hb.1]
  by_cases her : er = 0
  · subst her
    have hcb := rdU_bounds hwf he
    by_cases h1 : 65536 < v
    · refine (get_large a k cap p v c zs w hb hk hkc hp he h1).mono ?_
      rintro e w' ⟨rfl, rfl⟩
      exact ⟨Below.refl _ _, .inl ⟨by simp [getF, he, h1], 9, by decide, rfl⟩⟩
    by_cases h2 : k < p + c + 4 + v
    · refine (get_short a k cap p v c zs w hb hk hkc hp he (by omega) h2).mono ?_
      rintro e w' ⟨rfl, rfl⟩
      refine ⟨Below.refl _ _, .inl ⟨?_, 10, by decide, rfl⟩⟩
      unfold getF
      rw [he]
      simp only [hl]
      rw [if_neg (by simp), if_neg h1, if_pos (by omega)]
    · refine (get_whole a k cap p v c zs w hb hk hkc hp he (by omega) (by omega)).mono ?_
      rintro e w' (⟨hne, rfl, hbw⟩ | ⟨heq, a', c', rfl, hok, ht, hbw⟩)
      · refine ⟨hbw, .inl ⟨?_, 8, by decide, rfl⟩⟩
        unfold getF
        rw [he]
        simp only [hl]
        rw [if_neg (by simp), if_neg h1, if_neg (by omega), if_neg hne]
      · have hlen : (((zs.drop p).drop (c + 4)).take v).length = v := hok.2.1.1
        refine ⟨hbw, .inr ⟨⟨p + (c + 4 + v), a', c', ((zs.drop p).drop (c + 4)).take v⟩, c + 4 + v, ?_, rfl, ⟨?_, ?_⟩, ?_⟩⟩
        · unfold getF
          rw [he]
          simp only [hl]
          rw [if_neg (by simp), if_neg h1, if_neg (by omega), if_pos heq]
        · unfold Rc.piece; rw [hlen]; exact hok
        · show Bt8 w' a' _; rw [hlen]; exact ht
        · unfold Rc.v; rw [hlen]
  · have h0 : v = 0 ∧ c = 0 := by
      unfold rdU at he
      split at he
      · cases he; exact ⟨rfl, rfl⟩
      · split at he
        · cases he; omega
        · cases he; exact ⟨rfl, rfl⟩
    obtain ⟨rfl, rfl⟩ := h0
    refine (get_err a k cap p er zs w hb hk hkc hp he her).mono ?_
    rintro e w' ⟨rfl, rfl⟩
    exact ⟨Below.refl _ _, .inl ⟨by simp [getF, he, her], (er : Int), by omega, rfl⟩⟩

/-- All records from a place on, each with the place behind its frame. -/
def allF (zs : List Int) : Nat → Nat → List (Nat × List Int)
  | 0, _ => []
  | f + 1, p => match getF (zs.drop p) with
    | none => []
    | some (r, n) => (p + n, r) :: allF zs f (p + n)

theorem allF_more {zs : List Int} (hwf : ∀ z ∈ zs, 0 ≤ z ∧ z ≤ 255) : ∀ (f f' p : Nat), zs.length - p < f → f ≤ f' → p ≤ zs.length → allF zs f' p = allF zs f p
  | 0, _, _, h, _, _ => by omega
  | f + 1, 0, _, _, h, _ => by omega
  | f + 1, f' + 1, p, h1, h2, h3 => by
    unfold allF
    cases hg : getF (zs.drop p) with
    | none => rfl
    | some x =>
      obtain ⟨r, n⟩ := x
      have hb := getF_le (fun z hz => hwf z (List.mem_of_mem_drop hz)) hg
      rw [List.length_drop] at hb
      simp only
      rw [allF_more hwf f f' (p + n) (by omega) (by omega) (by omega)]

def allOf (zs : List Int) (p : Nat) : List (Nat × List Int) := allF zs (zs.length + 1) p

theorem allOf_none {zs : List Int} {p : Nat} (h : getF (zs.drop p) = none) : allOf zs p = [] := by unfold allOf allF; rw [h]
theorem allOf_some {zs : List Int} (hwf : ∀ z ∈ zs, 0 ≤ z ∧ z ≤ 255) {p n : Nat} {r : List Int} (hp : p ≤ zs.length) (h : getF (zs.drop p) = some (r, n)) : allOf zs p = (p + n, r) :: allOf zs (p + n) := by
  have hb := getF_le (fun z hz => hwf z (List.mem_of_mem_drop hz)) h
  rw [List.length_drop] at hb
  unfold allOf
  rw [show allF zs (zs.length + 1) p = (p + n, r) :: allF zs zs.length (p + n) from by rw [allF, h]]
  rw [allF_more hwf zs.length (zs.length + 1) (p + n) (by omega) (by omega) (by omega)]
end Go.Proofs.Ytfcckekinlobjaa
