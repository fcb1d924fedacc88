/-
  ClWith SrtGen ClNmM AbKind CodeMath CodeLen CodePut CodePutMore RefSame CodeRef CodeAlive CodeReadMath CodeRead CodeUint CodeText CodeBackMath ClBy ClCode ClPut ClGet ClGet2 ClA ClB ClNmN EqMath EqWays EqConcat ClSort AbZero ClNmW AbNilF EqFns EqFac KbRef KbRef2 OrRef OrRef2 OrCom OrLw
-/
import Derived.Test.YtglmoficcjphaaaGreatMg10
import Derived.Test.YtglmoficcjphaaaGreatMg4
import Derived.Test.YtglmoficcjphaaaGreatMg3
import Derived.WalkKit
import Derived.Test.YtglmoficcjphaaaGreatChecked
import Derived.WalkLawsBesides
import Derived.WalkSpells
import Derived.Test.YtglmoficcjphaaaGreatMg1
import Derived.Laws.BitsAllLaws
import Derived.Deep.QuietTactic
import Derived.BigQuiet
import Derived.Laws.BytesArg
import Derived.Test.YtglmoficcjphaaaGreatMg2
import Derived.Test.YtglmoficcjphaaaGreatMg9
import Derived.Test.YtglmoficcjphaaaGreatMg8
namespace Go.Proofs.YtglmoficcjphaaaGreat
open Go.RowKit
set_option linter.unusedVariables false
set_option linter.unusedSimpArgs false
set_option maxRecDepth 100000
theorem sidL_at : ∀ {c : List Lt} {k : Nat} {l : Lt}, c[k]? = some l → (sidL c)[2 * k]? = some l.a ∧ (sidL c)[2 * k + 1]? = some l.b
  | [], k, l, h => by simp at h
  | x :: c, 0, l, h => by
    simp at h
    subst h
    exact ⟨rfl, rfl⟩
  | x :: c, k + 1, l, h => by
    have := sidL_at (c := c) (k := k) (l := l) (by simpa using h)
    have e : sidL (x :: c) = x.a :: x.b :: sidL c := rfl
    rw [e, show 2 * (k + 1) = 2 * k + 1 + 1 by omega]
    simpa using this

-- 
theorem cWith_abs (W : World) (c d : List Lt) (f : Int) (hn : c.length ≤ 1000000) (hcd : d.map Lt.neg = c.map Lt.neg) : AFun Tryz.prog W 39 [.lst (c.map Lt.cv), Tm.cw ⟨f, sidL d⟩] (.val (.lst (d.map Lt.cv))) := by
  have hsz := Lt.size_all c
  have hszT := Tm.size_all (sidL d)
  have hlen : d.length = c.length := by have := congrArg List.length hcd; simpa using this
  refine afun_of (rs := [.lst (d.map Lt.cv)]) Tryz.func39 Tryz.ntmps39 rfl rfl rfl rfl ?_
  intro w U hW
  refine aS (aR ?_)
  (refine nx (a_box (gN rfl) rfl rfl rfl rfl rfl) rfl ?_)
  (refine nx (aA (gN rfl) rfl rfl rfl rfl rfl) rfl ?_)
  show AWp _ _ _ _ _ _ _
  refine aS (aR ?_)
  (refine nx (aA (gN rfl) rfl rfl rfl rfl rfl) rfl ?_)
  show AWp _ _ _ _ _ _ _
  refine aS (aS (aR ?_))
  (refine nx (aM (gN rfl) rfl rfl rfl rfl rfl) rfl ?_)
  (refine nx (a_len (gN rfl) rfl rfl rfl rfl rfl rfl rfl) rfl ?_)
  (refine nx (aM (gN rfl) rfl rfl rfl rfl rfl) rfl ?_)
  show AWp _ _ _ _ _ _ _
  refine aB (awp_count c.length (fun k => [(3, .bp 3 0 []), (100003, .bx (Tm.cw ⟨f, sidL d⟩)), (5, .own (.lst ((d.take k).map Lt.cv)) 200033), (200033, .tok 44 5), (8, .val (.lst (c.map Lt.cv))), (9, .val (.i (c.map Lt.cv).length)), (10, .val (.i k))])
    ((wk_nil 5 200033 44 5 rfl rfl rfl rfl rfl rfl rfl).trans (wk_sub ⟨rfl, rfl, rfl, rfl, rfl, rfl, rfl, trivial⟩)) ?_)
  intro k hk
  refine aS (aR ?_)
  (refine nx (a_lss (gN rfl) rfl rfl rfl rfl rfl rfl) rfl ?_)
  show AWp _ _ _ _ _ _ _
  refine aS (aC rfl (fun hlt => ?_) (fun hlt => ?_))
  · have hkl : k < c.length := by simpa using hlt
    obtain ⟨x, hx⟩ : ∃ x, c[k]? = some x := ⟨c[k], List.getElem?_eq_getElem hkl⟩
    obtain ⟨y, hy⟩ : ∃ y, d[k]? = some y := ⟨d[k], List.getElem?_eq_getElem (by omega)⟩
    have hneg : x.neg = y.neg := by
      have := congrArg (fun l => l[k]?) hcd
      simp only [List.getElem?_map, hx, hy, Option.map_some] at this
      injection this with this
      exact this.symm
    obtain ⟨n1, a1, b1⟩ := x
    simp only at hneg
    subst hneg
    have hx' := Lt.map_at hx
    obtain ⟨ha, hb⟩ := sidL_at hy
    have ha' := Tm.map_at ha
    have hb' := Tm.map_at hb
    have hsz2 : ∀ z ∈ (d.take k).map Lt.cv, z.size = 5 := Lt.size_all _
    have hl3 : ((d.take k).map Lt.cv).length ≤ 1000000 := by rw [List.length_map, List.length_take]; omega
    refine aK ?_
    show AWp _ _ _ _ _ _ _
    refine aS (aB (aS (aR ?_)))
    (refine nx (aM (gN rfl) rfl rfl rfl rfl rfl) rfl ?_)
    (refine nx (a_index (j := k) (gN rfl) rfl rfl rfl rfl rfl rfl rfl rfl rfl (hx') rfl (hsz)) rfl ?_)
    (refine nx (a_load_ad (gN rfl) rfl rfl rfl rfl rfl rfl rfl rfl rfl) rfl ?_)
    (refine nx (a_alloc (gN rfl) rfl rfl rfl rfl rfl rfl rfl rfl rfl rfl) rfl ?_)
    (refine nx (aA (gN rfl) rfl rfl rfl rfl rfl) rfl ?_)
    (refine nx (aSt (gN rfl) rfl rfl rfl rfl rfl rfl rfl rfl rfl rfl) rfl ?_)
    show AWp _ _ _ _ _ _ _
    refine aD (by kernel_rfl) (by kernel_rfl) ?_
    (refine nx (aM (gN rfl) rfl rfl rfl rfl rfl) rfl ?_)
    (refine nx (aF (gN rfl) rfl rfl rfl rfl rfl rfl rfl rfl rfl) rfl ?_)
    (refine nx (aLb (gN rfl) rfl rfl rfl rfl rfl rfl rfl rfl rfl rfl rfl rfl) rfl ?_)
    (refine nx (aF (gN rfl) rfl rfl rfl rfl rfl rfl rfl rfl rfl) rfl ?_)
    (refine nx (aLb (gN rfl) rfl rfl rfl rfl rfl rfl rfl rfl rfl rfl rfl rfl) rfl ?_)
    (refine nx (aM (gN rfl) rfl rfl rfl rfl rfl) rfl ?_)
    (refine nx (a_mul (gN rfl) rfl rfl rfl rfl rfl rfl (by first | omega | (simp only [List.length_map, List.length_append, List.length_cons, List.length_nil] <;> omega) | (simp <;> omega))) rfl ?_)
    (refine nx (a_index (j := (2 * k)) (gN rfl) rfl rfl rfl rfl rfl rfl rfl rfl rfl (ha') rfl (hszT)) rfl ?_)
    (refine nx (a_load_ad (gN rfl) rfl rfl rfl rfl rfl rfl rfl rfl rfl) rfl ?_)
    (refine nx (aF (gN rfl) rfl rfl rfl rfl rfl rfl rfl rfl rfl) rfl ?_)
    (refine nx (aLb (gN rfl) rfl rfl rfl rfl rfl rfl rfl rfl rfl rfl rfl rfl) rfl ?_)
    (refine nx (aM (gN rfl) rfl rfl rfl rfl rfl) rfl ?_)
    (refine nx (a_mul (gN rfl) rfl rfl rfl rfl rfl rfl (by first | omega | (simp only [List.length_map, List.length_append, List.length_cons, List.length_nil] <;> omega) | (simp <;> omega))) rfl ?_)
    (refine nx (a_add (gN rfl) rfl rfl rfl rfl rfl rfl (by first | omega | (simp only [List.length_map, List.length_append, List.length_cons, List.length_nil] <;> omega) | (simp <;> omega))) rfl ?_)
    (refine nx (a_index (j := (2 * k + 1)) (gN rfl) rfl rfl rfl rfl rfl rfl rfl rfl rfl (hb') rfl (hszT)) rfl ?_)
    (refine nx (a_load_ad (gN rfl) rfl rfl rfl rfl rfl rfl rfl rfl rfl) rfl ?_)
    (refine nx (a_build (gN rfl) rfl rfl rfl rfl rfl rfl rfl rfl rfl rfl rfl) rfl ?_)
    (refine nx (a_bslice (gN rfl) rfl rfl rfl rfl rfl rfl rfl rfl rfl rfl rfl rfl rfl) rfl ?_)
    (refine nx (a_app (gN rfl) rfl rfl rfl rfl rfl rfl rfl rfl rfl rfl rfl rfl rfl rfl rfl (by first | assumption | exact sZ rfl | exact Tm.size_all _ | exact Bd.size_all _ | exact ints_size _ | exact bys_size _ | exact Lt.size_all _) (by first | assumption | exact sZ rfl | exact Tm.size_all _ | exact Bd.size_all _ | exact ints_size _ | exact bys_size _ | exact Lt.size_all _) (by first | omega | (simp only [List.length_map, List.length_append, List.length_cons, List.length_nil] <;> omega) | (simp <;> omega))) rfl ?_)
    (refine nx (aA (gN rfl) rfl rfl rfl rfl rfl) rfl ?_)
    refine ⟨by kernel_rfl, ?_⟩
    show AWp _ _ _ _ _ _ _
    refine aR ?_
    (refine nx (a_add (gN rfl) rfl rfl rfl rfl rfl rfl (by first | omega | (simp only [List.length_map, List.length_append, List.length_cons, List.length_nil] <;> omega) | (simp <;> omega))) rfl ?_)
    (refine nx (aM (gN rfl) rfl rfl rfl rfl rfl) rfl ?_)
    refine ⟨hkl, Wk.trans (wk_sub (s' := [(3, .bp 3 0 []), (100003, .bx (Tm.cw ⟨f, sidL d⟩)), (5, .own (.lst ((d.take (k + 1)).map Lt.cv)) 300033), (300033, .tok 44 5), (8, .val (.lst (c.map Lt.cv))), (9, .val (.i (c.map Lt.cv).length)), (10, .val (.i ((k + 1 : Nat) : Int)))]) ⟨rfl, rfl, ?_, rfl, rfl, rfl, rfl, trivial⟩) (wk_ren 300033 200033 rfl rfl rfl rfl)⟩
    rw [List.take_add_one, hy]
    simp only [Option.toList_some, List.map_append, List.map_cons, List.map_nil]
    rfl
  · have hkl : k = d.length := by
      have : ¬ k < c.length := by simpa using hlt
      omega
    subst hkl
    rw [List.take_length]
    refine aE ?_
    show AWp _ _ _ _ _ _ _
    refine aS (aR ?_)
    (refine nx (aM (gN rfl) rfl rfl rfl rfl rfl) rfl ?_)
    (refine nx (aA (gN rfl) rfl rfl rfl rfl rfl) rfl ?_)
    show AWp _ _ _ _ _ _ _
    exact aT (And.intro (.inr rfl) rfl)

def Lt.rep (img : Int → Tm) (l : Lt) : Lt := ⟨l.neg, repT img l.a, repT img l.b⟩
theorem sidL_rep (img : Int → Tm) : ∀ c : List Lt, (sidL c).map (repT img) = sidL (c.map (Lt.rep img))
  | [] => rfl
  | l :: c => by
    show repT img l.a :: repT img l.b :: (sidL c).map (repT img) = _
    rw [sidL_rep img c]
    rfl
theorem rep_sides (img : Int → Tm) (c : List Lt) : repT img ⟨0, sidL c⟩ = ⟨0, sidL (c.map (Lt.rep img))⟩ := by
  rw [repT_sym (show ¬ (0 : Int) < 0 by decide), sidL_rep]
theorem rep_neg (img : Int → Tm) (c : List Lt) : (c.map (Lt.rep img)).map Lt.neg = c.map Lt.neg := by
  rw [List.map_map]; rfl

-- 
theorem cApply_abs (W : World) (L : List Bd) (c : List Lt) (hn : c.length ≤ 1000000) (hl : L.length ≤ 1000000000) (hb : bdsOk L) (hr : (⟨0, sidL c⟩ : Tm).rng) (hok : (⟨0, sidL c⟩ : Tm).ok) : AFun Tryz.prog W 28 [.lst (L.map Bd.cv), .lst (c.map Lt.cv)] (.val (.lst ((c.map (Lt.rep (imgB L))).map Lt.cv))) := by
  have h2 := fun w => applyG_abs w L ⟨0, sidL c⟩ hl hb hr hok
  rw [rep_sides] at h2
  refine afun_of (rs := [.lst ((c.map (Lt.rep (imgB L))).map Lt.cv)]) Tryz.func28 Tryz.ntmps28 rfl rfl rfl rfl ?_
  intro w U hW
  refine aS (aR ?_)
  (refine nx (aA (gN rfl) rfl rfl rfl rfl rfl) rfl ?_)
  show AWp _ _ _ _ _ _ _
  refine aS (aR ?_)
  (refine nx (aM (gN rfl) rfl rfl rfl rfl rfl) rfl ?_)
  (refine nx (aM (gN rfl) rfl rfl rfl rfl rfl) rfl ?_)
  (refine nx (aM (gN rfl) rfl rfl rfl rfl rfl) rfl ?_)
  (refine nx (a_call (gN rfl) rfl rfl rfl rfl rfl (cSides_abs w c hn)) rfl ?_)
  (refine nx (a_call (gN rfl) rfl rfl rfl rfl rfl (h2 w)) rfl ?_)
  (refine nx (a_call (gN rfl) rfl rfl rfl rfl rfl (cWith_abs w c _ 0 hn (rep_neg _ c))) rfl ?_)
  (refine nx (aA (gN rfl) rfl rfl rfl rfl rfl) rfl ?_)
  show AWp _ _ _ _ _ _ _
  exact aT (And.intro (.inr rfl) rfl)

-- 
theorem cRename_abs (W : World) (c : List Lt) (by_ : Int) (hn : c.length ≤ 1000000) (hr : (⟨0, sidL c⟩ : Tm).rng) (hok : (⟨0, sidL c⟩ : Tm).ok) : AFun Tryz.prog W 20 [.lst (c.map Lt.cv), .i by_] (.val (.lst ((c.map (Lt.rep fun v => varT (upV (max by_ 0) v))).map Lt.cv))) := by
  have h2 := fun w => rename_abs w ⟨0, sidL c⟩ by_ hr hok
  rw [rep_sides] at h2
  refine afun_of (rs := [.lst ((c.map (Lt.rep fun v => varT (upV (max by_ 0) v))).map Lt.cv)]) Tryz.func20 Tryz.ntmps20 rfl rfl rfl rfl ?_
  intro w U hW
  refine aS (aR ?_)
  (refine nx (aA (gN rfl) rfl rfl rfl rfl rfl) rfl ?_)
  show AWp _ _ _ _ _ _ _
  refine aS (aR ?_)
  (refine nx (aM (gN rfl) rfl rfl rfl rfl rfl) rfl ?_)
  (refine nx (aM (gN rfl) rfl rfl rfl rfl rfl) rfl ?_)
  (refine nx (a_call (gN rfl) rfl rfl rfl rfl rfl (cSides_abs w c hn)) rfl ?_)
  (refine nx (aM (gN rfl) rfl rfl rfl rfl rfl) rfl ?_)
  (refine nx (a_call (gN rfl) rfl rfl rfl rfl rfl (h2 w)) rfl ?_)
  (refine nx (a_call (gN rfl) rfl rfl rfl rfl rfl (cWith_abs w c _ 0 hn (rep_neg _ c))) rfl ?_)
  (refine nx (aA (gN rfl) rfl rfl rfl rfl rfl) rfl ?_)
  show AWp _ _ _ _ _ _ _
  exact aT (And.intro (.inr rfl) rfl)
end Go.Proofs.YtglmoficcjphaaaGreat
namespace Go.Proofs.YtglmoficcjphaaaGreat
open Go.RowKit
set_option linter.unusedVariables false
set_option linter.unusedSimpArgs false
section
variable {α β : Type}
def kDn (p : α → Bool) (l : List α) : Nat → Nat
  | 0 => 0
  | k + 1 => match l[k]? with
    | some y => if p y = true then kDn p l k else k + 1
    | none => k + 1
def insD (lt : α → α → Bool) (l : List α) (x : α) : List α := l.take (kDn (lt x) l l.length) ++ x :: l.drop (kDn (lt x) l l.length)
def srtD (lt : α → α → Bool) (c : List α) : List α := c.foldl (insD lt) []
def cptG (q : α → α → Bool) (L : List α) : Nat → List α
  | 0 => []
  | 1 => L.take 1
  | m + 2 => match L[m + 1]?, L[m]? with
    | some x, some y => if q x y = true then cptG q L (m + 1) else cptG q L (m + 1) ++ [x]
    | _, _ => cptG q L (m + 1)
def dedD (q : α → α → Bool) (c : List α) : List α := c.foldl (fun out x => if out.any (fun y => q y x) then out else out ++ [x]) []
end
def sgZ (b : Bool) : Int := if b then 1 else 0
def cmpLt (x y : Lt) : Int := if cmpZ (sgZ x.neg) (sgZ y.neg) ≠ 0 then cmpZ (sgZ x.neg) (sgZ y.neg) else cmpS x y
def litAt (c : List Lt) (m : Int) : Lt := (c[m.toNat]?).getD ⟨false, ⟨0, []⟩, ⟨0, []⟩⟩
def ltI (c : List Lt) (m n : Int) : Bool := decide (cmpLt (litAt c m) (litAt c n) < 0)
def sameI (c : List Lt) (m n : Int) : Bool := decide (cmpLt (litAt c m) (litAt c n) = 0)
def plc1 (c : List Lt) : List Int := srtD (ltI c) (nums c.length)
def plc2 (c : List Lt) : List Int := cptG (sameI c) (plc1 c) (plc1 c).length
def plc3 (c : List Lt) : List Int := srtD (fun m n : Int => decide (m < n)) (plc2 c)
def wdL (c : List Lt) : List Lt := (plc3 c).map (litAt c)
def RI (c : List Lt) (m n : Int) : Prop := cmpLt (litAt c m) (litAt c n) < 0 ∨ (cmpLt (litAt c m) (litAt c n) = 0 ∧ m < n)
def fstI (c : List Lt) (m : Int) : Prop := ∀ k : Int, 0 ≤ k → k < m → cmpLt (litAt c k) (litAt c m) ≠ 0
open Classical in
noncomputable def fsts (c : List Lt) (k : Nat) : List Int := (nums k).filter fun m => decide (fstI c m)
def smL (x y : Lt) : Bool := decide (cmpLt x y = 0)
section
variable {P : Program} {w0 : World} {U0 : UX} {nt : Nat} {ops : Array Oper} {o : Oper} {S : Nat → Option AV} {gs : List Nat} {d : Nat}
variable (hg : Gd w0 U0 nt ops o gs S) (hd : o.dst = some d) (hn : Nat.blt d nt = true) (h5 : Nat.blt d 100000 = true)
include hg hd hn h5
end
end Go.Proofs.YtglmoficcjphaaaGreat
namespace Go.Proofs.YtglmoficcjphaaaGreat
set_option linter.unusedVariables false
def ub : Nat → Nat → List Int
  | 0, n => [(n : Int)]
  | k + 1, n => if n < 128 then [(n : Int)] else ((128 + n % 128 : Nat) : Int) :: ub k (n / 128)

def ubytes (n : Nat) : List Int := ub 9 n

def lenz (n : Nat) : Nat := if n = 0 then 0 else (ubytes n).length

def zz (n : Int) : Nat := if 0 ≤ n then (2 * n).toNat else (-2 * n - 1).toNat
end Go.Proofs.YtglmoficcjphaaaGreat
namespace Go.Proofs.YtglmoficcjphaaaGreat
open Go.RowKit
set_option linter.unusedVariables false






def lastAt : List Int → Option Nat
  | [] => none
  | b :: r => if b < 128 then some 0 else (lastAt r).map (· + 1)

def lastInt (l : List Int) : Int := match lastAt l with | none => -1 | some i => (i : Int)

def val : List Int → Nat
  | [] => 0
  | b :: r => (b % 128).toNat + 128 * val r

def okNum (l : List Int) : Bool := decide (l.length ≤ 10 ∧ (l.length = 10 → l.getD (l.length - 1) 0 ≤ 1) ∧ (l.getD (l.length - 1) 0 ≠ 0 ∨ l.length = 1))

def unzz (n : Nat) : Int := if n % 2 = 0 then ((n / 2 : Nat) : Int) else -((n / 2 : Nat) : Int) - 1


def rdU (l : List Int) : Nat × Nat × Nat :=
  match lastAt l with
  | none => (0, 0, 10)
  | some i => if okNum (l.take (i + 1)) then (val (l.take (i + 1)), i + 1, 0) else (0, 0, 7)
def canon : List Int → Prop
  | [] => False
  | b :: r => match r with
    | [] => 0 < b ∧ b < 128
    | _ :: _ => 128 ≤ b ∧ b ≤ 255 ∧ canon r
end Go.Proofs.YtglmoficcjphaaaGreat
namespace Go.Proofs.YtglmoficcjphaaaGreat
set_option linter.unusedVariables false
set_option linter.unusedSimpArgs false
def wT : Tm → List Int
  | ⟨f, l⟩ => ubytes (zz f) ++ (if f < 0 then [] else ubytes l.length ++ (l.map wT).flatten)
def wL (l : Lt) : List Int := (if l.neg then 1 else 0) :: (wT l.a ++ wT l.b)
def wC (c : List Lt) : List Int := ubytes c.length ++ c.flatMap wL

def rN (most : Nat) (l : List Int) : Except Nat (Nat × Nat) := match rdU l with
  | (v, c, 0) => if v > most then .error 7 else .ok (v, c)
  | (_, _, e + 1) => .error (e + 1)
def rH (l : List Int) : Except Nat (Int × Nat) := match rdU l with
  | (v, c, 0) => if -2147483648 ≤ unzz v ∧ unzz v ≤ 2147483647 then .ok (unzz v, c) else .error 7
  | (_, _, e + 1) => .error (e + 1)
def rMany {α : Type} (g : List Int → Except Nat (α × Nat)) : Nat → List Int → Except Nat (List α × Nat)
  | 0, _ => .ok ([], 0)
  | n + 1, l => match g l with
    | .error e => .error e
    | .ok (x, c) => match rMany g n (l.drop c) with
      | .error e => .error e
      | .ok (xs, c') => .ok (x :: xs, c + c')
def rList {α : Type} (g : List Int → Except Nat (α × Nat)) (l : List Int) : Except Nat (List α × Nat) := match rN 4096 l with
  | .error e => .error e
  | .ok (n, c) => match rMany g n (l.drop c) with
    | .error e => .error e
    | .ok (xs, c') => .ok (xs, c + c')
def rT : Nat → List Int → Except Nat (Tm × Nat)
  | 0, _ => .error 7
  | d + 1, l => match rH l with
    | .error e => .error e
    | .ok (f, c) => if f < 0 then .ok (⟨f, []⟩, c) else match rList (rT d) (l.drop c) with
      | .error e => .error e
      | .ok (xs, c') => .ok (⟨f, xs⟩, c + c')
def rL (l : List Int) : Except Nat (Lt × Nat) := match rN 1 l with
  | .error e => .error e
  | .ok (n, c) => match rT 257 (l.drop c) with
    | .error e => .error e
    | .ok (a, c1) => match rT 257 (l.drop (c + c1)) with
      | .error e => .error e
      | .ok (b, c2) => .ok (⟨decide (n = 1), a, b⟩, c + c1 + c2)
def rC (l : List Int) : Except Nat (List Lt × Nat) := rList rL l

def wfB (l : List Int) : Prop := ∀ z ∈ l, 0 ≤ z ∧ z ≤ 255
def Rt {α : Type} (w : α → List Int) (l : List Int) (r : Except Nat (α × Nat)) : Prop := ∀ x c, r = .ok (x, c) → c ≤ l.length ∧ w x = l.take c
def Er {α : Type} (r : Except Nat (α × Nat)) : Prop := ∀ e, r = .error e → e = 7 ∨ e = 10
structure Thru {α : Type} (g : List Int → Except Nat (α × Nat)) (w : List Int) (x : α) : Prop where
  back : ∀ r, g (w ++ r) = .ok (x, w.length)
  cut : ∀ j, j < w.length → g (w.take j) = .error 10
end Go.Proofs.YtglmoficcjphaaaGreat
namespace Go.Proofs.YtglmoficcjphaaaGreat
open Go.RowKit
set_option linter.unusedVariables false
set_option linter.unusedSimpArgs false
set_option maxRecDepth 100000
abbrev by8 (z : Int) : CV := .sc (.int .u8 z)
def gU (zs : List Int) (p : Int) : Int × Int × Int :=
  if p < 0 ∨ p > zs.length then (0, 0, 1) else match rdU (zs.drop p.toNat) with
    | (v, c, 0) => (v, p + c, 0)
    | (_, _, e + 1) => (0, 0, ((e + 1 : Nat) : Int))
def gI (zs : List Int) (p : Int) : Int × Int × Int :=
  if p < 0 ∨ p > zs.length then (0, 0, 1) else match rdU (zs.drop p.toNat) with
    | (v, c, 0) => (unzz v, p + c, 0)
    | (_, _, e + 1) => (0, 0, ((e + 1 : Nat) : Int))
noncomputable abbrev rB (zs : List Int) : AS := [(300001, .mrow 5 1 (zs.map by8))]
def zT : Tm := ⟨0, []⟩
def zL : Lt := ⟨false, zT, zT⟩
def okP {α : Type} (q : Nat) : Except Nat (α × Nat) → Int
  | .ok (_, c) => ((q + c : Nat) : Int)
  | .error _ => 0
def okE {α : Type} : Except Nat (α × Nat) → Int
  | .ok _ => 0
  | .error e => (e : Int)
def okN : Except Nat (Nat × Nat) → Int
  | .ok (v, _) => (v : Int)
  | .error _ => 0
noncomputable def okT : Except Nat (Tm × Nat) → CV
  | .ok (x, _) => x.cw
  | .error _ => .row [.i 0, .lst []]
noncomputable def okG : Except Nat (Lt × Nat) → CV
  | .ok (x, _) => x.cw
  | .error _ => .row [.b false, .row [.i 0, .lst []], .row [.i 0, .lst []]]
noncomputable def okLT : Except Nat (List Tm × Nat) → List CV
  | .ok (x, _) => x.map Tm.cv
  | .error _ => []
noncomputable def okLG : Except Nat (List Lt × Nat) → List CV
  | .ok (x, _) => x.map Lt.cv
  | .error _ => []
noncomputable abbrev tupN (q : Nat) (r : Except Nat (Nat × Nat)) : List CV := [.sc (.int .u64 (okN r)), .i (okP q r), by8 (okE r)]
noncomputable abbrev tupT (q : Nat) (r : Except Nat (Tm × Nat)) : List CV := [okT r, .i (okP q r), by8 (okE r)]
noncomputable abbrev tupG (q : Nat) (r : Except Nat (Lt × Nat)) : List CV := [okG r, .i (okP q r), by8 (okE r)]
noncomputable abbrev tupLT (q : Nat) (r : Except Nat (List Tm × Nat)) : List CV := [.lst (okLT r), .i (okP q r), by8 (okE r)]
noncomputable abbrev tupLG (q : Nat) (r : Except Nat (List Lt × Nat)) : List CV := [.lst (okLG r), .i (okP q r), by8 (okE r)]
def rHd (l : List Int) : Except Nat (Tm × Nat) := match rH l with
  | .error e => .error e
  | .ok (f, c) => .ok (⟨f, []⟩, c)
def cmb {α : Type} (xs : List α) (q0 q : Nat) : Except Nat (List α × Nat) → Except Nat (List α × Nat)
  | .error e => .error e
  | .ok (ys, c) => .ok (xs ++ ys, q - q0 + c)
def gC (zs : List Int) (p : Int) : Except Nat (List Lt × Nat) := if p < 0 ∨ p > zs.length then .error 1 else rC (zs.drop p.toNat)
def exC : Lt := ⟨false, ⟨3, [⟨-1, []⟩]⟩, ⟨1, []⟩⟩
def finL (size : Int) (l : Lt) : Bool := decide (0 ≤ smallT l.a size 8) && decide (0 ≤ smallT l.b size 8)
def fineC (c : List Lt) (most : Nat) (size : Int) : Bool := decide (c.length ≤ most) && c.all (finL size)
-- 
set_option maxHeartbeats 1000000 in
theorem fine11_abs (W : World) (c : List Lt) (most : Nat) (size : Int) (hm : most ≤ 1000) (h0 : 0 ≤ size) (h1 : size ≤ 60) (hr : okC c) : AFun Tryz.prog W 8 [.lst (c.map Lt.cv), .i (most : Int), .i size] (.val (.b (fineC c most size))) := by
  have hsz := Lt.size_all c
  refine afun_of (rs := [.b (fineC c most size)]) Tryz.func8 Tryz.ntmps8 rfl rfl rfl rfl ?_
  intro w U hW
  refine aS (aR ?_)
  (refine nx (aA (gN rfl) rfl rfl rfl rfl rfl) rfl ?_)
  show AWp _ _ _ _ _ _ _
  refine aS (aS (aR ?_))
  (refine nx (aM (gN rfl) rfl rfl rfl rfl rfl) rfl ?_)
  (refine nx (a_len (gN rfl) rfl rfl rfl rfl rfl rfl rfl) rfl ?_)
  (refine nx (aM (gN rfl) rfl rfl rfl rfl rfl) rfl ?_)
  (refine nx (a_gtr (gN rfl) rfl rfl rfl rfl rfl rfl) rfl ?_)
  show AWp _ _ _ _ _ _ _
  refine aC rfl (fun hc => ?_) (fun hc => ?_)
  · have hno : fineC c most size = false := by
      have := of_decide_eq_true hc
      rw [List.length_map] at this
      unfold fineC
      rw [show decide (c.length ≤ most) = false by rw [decide_eq_false_iff_not]; omega]
      rfl
    rw [hno]
    refine aS (aR ?_)
    (refine nx (aA (gN rfl) rfl rfl rfl rfl rfl) rfl ?_)
    show AWp _ _ _ _ _ _ _
    exact aT (And.intro (.inr rfl) rfl)
  have hl : c.length ≤ most := by
    have := of_decide_eq_false hc
    rw [List.length_map] at this
    omega
  refine aK ?_
  show AWp _ _ _ _ _ _ _
  refine aS (aS (aR ?_))
  (refine nx (aA (gN rfl) rfl rfl rfl rfl rfl) rfl ?_)
  show AWp _ _ _ _ _ _ _
  refine aB (awp_countI c.length (fun k => ∀ l ∈ c.take k, finL size l = true) (fun k => [(0, .val (.lst (c.map Lt.cv))), (2, .val (.i size)), (7, .val (.i k))]) (wk_sub ⟨rfl, rfl, rfl, trivial⟩) (by simp) ?_)
  intro k hk hI
  refine aS (aS (aR ?_))
  (refine nx (aM (gN rfl) rfl rfl rfl rfl rfl) rfl ?_)
  (refine nx (aM (gN rfl) rfl rfl rfl rfl rfl) rfl ?_)
  (refine nx (a_len (gN rfl) rfl rfl rfl rfl rfl rfl rfl) rfl ?_)
  (refine nx (a_lss (gN rfl) rfl rfl rfl rfl rfl rfl) rfl ?_)
  show AWp _ _ _ _ _ _ _
  refine aC rfl (fun hlt => ?_) (fun hlt => ?_)
  · have hkl : k < c.length := by simpa using hlt
    obtain ⟨x, hx⟩ : ∃ x, c[k]? = some x := ⟨c[k], List.getElem?_eq_getElem hkl⟩
    have hx' := Lt.map_at hx
    have hxm := List.mem_of_getElem? hx
    have sa := small_abs w x.a size 8 (hr x hxm).1 h0 h1 (by decide) (by decide)
    have sb := small_abs w x.b size 8 (hr x hxm).2 h0 h1 (by decide) (by decide)
    have hno : finL size x = false → fineC c most size = false := fun h => by
      unfold fineC
      rw [show c.all (finL size) = false from List.all_eq_false.2 ⟨x, hxm, by rw [h]; simp⟩, Bool.and_false]
    refine aK ?_
    show AWp _ _ _ _ _ _ _
    by_cases ha : smallT x.a size 8 < 0
    · have ga : decide (smallT x.a size 8 < 0) = true := by simpa using ha
      rw [hno (by unfold finL; rw [show decide (0 ≤ smallT x.a size 8) = false by rw [decide_eq_false_iff_not]; omega]; rfl)]
      refine aS (aB (aS (aR ?_)))
      (refine nx (aM (gN rfl) rfl rfl rfl rfl rfl) rfl ?_)
      (refine nx (aM (gN rfl) rfl rfl rfl rfl rfl) rfl ?_)
      (refine nx (a_index (j := k) (gN rfl) rfl rfl rfl rfl rfl rfl rfl rfl rfl (hx') rfl (hsz)) rfl ?_)
      (refine nx (a_field_ad (gN rfl) rfl rfl rfl rfl rfl rfl rfl rfl rfl rfl rfl) rfl ?_)
      (refine nx (a_load_ad (gN rfl) rfl rfl rfl rfl rfl rfl rfl rfl rfl) rfl ?_)
      (refine nx (aM (gN rfl) rfl rfl rfl rfl rfl) rfl ?_)
      (refine nx (a_call (gN rfl) rfl rfl rfl rfl rfl (sa)) rfl ?_)
      (refine nx (a_lss (gN rfl) rfl rfl rfl rfl rfl rfl) rfl ?_)
      (refine nx (aM (gN rfl) rfl rfl rfl rfl rfl) rfl ?_)
      (refine ⟨_, _, _, a_off (go_off rfl rfl rfl rfl (by first | rfl | assumption | (simp; done) | (simp [*]; done))) rfl rfl rfl, rfl, ?_⟩)
      (refine ⟨_, _, _, a_off (go_off rfl rfl rfl rfl (by first | rfl | assumption | (simp; done) | (simp [*]; done))) rfl rfl rfl, rfl, ?_⟩)
      (refine ⟨_, _, _, a_off (go_off rfl rfl rfl rfl (by first | rfl | assumption | (simp; done) | (simp [*]; done))) rfl rfl rfl, rfl, ?_⟩)
      (refine ⟨_, _, _, a_off (go_off rfl rfl rfl rfl (by first | rfl | assumption | (simp; done) | (simp [*]; done))) rfl rfl rfl, rfl, ?_⟩)
      (refine ⟨_, _, _, a_off (go_off rfl rfl rfl rfl (by first | rfl | assumption | (simp; done) | (simp [*]; done))) rfl rfl rfl, rfl, ?_⟩)
      (refine ⟨_, _, _, a_off (go_off rfl rfl rfl rfl (by first | rfl | assumption | (simp; done) | (simp [*]; done))) rfl rfl rfl, rfl, ?_⟩)
      (refine ⟨_, _, _, a_off (go_off rfl rfl rfl rfl (by first | rfl | assumption | (simp; done) | (simp [*]; done))) rfl rfl rfl, rfl, ?_⟩)
      (refine ⟨_, _, _, a_off (go_off rfl rfl rfl rfl (by first | rfl | assumption | (simp; done) | (simp [*]; done))) rfl rfl rfl, rfl, ?_⟩)
      (refine ⟨_, _, _, aPt (gN rfl) rfl rfl rfl rfl rfl ?hb rfl, rfl, ?_⟩; case hb => (first | rfl | assumption | (simp; done)))
      show AWp _ _ _ _ _ _ _
      refine aC rfl (fun hc2 => ?_) (fun hc2 => by cases hc2)
      refine aS (aR ?_)
      (refine nx (aA (gN rfl) rfl rfl rfl rfl rfl) rfl ?_)
      show AWp _ _ _ _ _ _ _
      exact aT (And.intro (.inr rfl) rfl)
    · have ga : decide (smallT x.a size 8 < 0) = false := by simpa using ha
      refine aS (aB (aS (aR ?_)))
      (refine nx (aM (gN rfl) rfl rfl rfl rfl rfl) rfl ?_)
      (refine nx (aM (gN rfl) rfl rfl rfl rfl rfl) rfl ?_)
      (refine nx (a_index (j := k) (gN rfl) rfl rfl rfl rfl rfl rfl rfl rfl rfl (hx') rfl (hsz)) rfl ?_)
      (refine nx (a_field_ad (gN rfl) rfl rfl rfl rfl rfl rfl rfl rfl rfl rfl rfl) rfl ?_)
      (refine nx (a_load_ad (gN rfl) rfl rfl rfl rfl rfl rfl rfl rfl rfl) rfl ?_)
      (refine nx (aM (gN rfl) rfl rfl rfl rfl rfl) rfl ?_)
      (refine nx (a_call (gN rfl) rfl rfl rfl rfl rfl (sa)) rfl ?_)
      (refine nx (a_lss (gN rfl) rfl rfl rfl rfl rfl rfl) rfl ?_)
      (refine nx (aM (gN rfl) rfl rfl rfl rfl rfl) rfl ?_)
      (refine nx (aM (gd_on rfl rfl rfl rfl (by first | rfl | assumption | (simp; done))) rfl rfl rfl rfl rfl) rfl ?_)
      (refine nx (aM (gd_on rfl rfl rfl rfl (by first | rfl | assumption | (simp; done))) rfl rfl rfl rfl rfl) rfl ?_)
      (refine nx (a_index (j := k) (gd_on rfl rfl rfl rfl (by first | rfl | assumption | (simp; done))) rfl rfl rfl rfl rfl rfl rfl rfl rfl (hx') rfl (hsz)) rfl ?_)
      (refine nx (a_field_ad (gd_on rfl rfl rfl rfl (by first | rfl | assumption | (simp; done))) rfl rfl rfl rfl rfl rfl rfl rfl rfl rfl rfl) rfl ?_)
      (refine nx (a_load_ad (gd_on rfl rfl rfl rfl (by first | rfl | assumption | (simp; done))) rfl rfl rfl rfl rfl rfl rfl rfl rfl) rfl ?_)
      (refine nx (aM (gd_on rfl rfl rfl rfl (by first | rfl | assumption | (simp; done))) rfl rfl rfl rfl rfl) rfl ?_)
      (refine nx (a_call (gd_on rfl rfl rfl rfl (by first | rfl | assumption | (simp; done))) rfl rfl rfl rfl rfl (sb)) rfl ?_)
      (refine nx (a_lss (gd_on rfl rfl rfl rfl (by first | rfl | assumption | (simp; done))) rfl rfl rfl rfl rfl rfl) rfl ?_)
      (refine ⟨_, _, _, aPf (gN rfl) rfl rfl rfl rfl rfl ?hb rfl, rfl, ?_⟩; case hb => (first | rfl | assumption | (simp; done)))
      show AWp _ _ _ _ _ _ _
      refine aC rfl (fun hc2 => ?_) (fun hc2 => ?_)
      · have hb := of_decide_eq_true hc2
        rw [hno (by unfold finL; rw [show decide (0 ≤ smallT x.b size 8) = false by rw [decide_eq_false_iff_not]; omega]; simp)]
        refine aS (aR ?_)
        (refine nx (aA (gN rfl) rfl rfl rfl rfl rfl) rfl ?_)
        show AWp _ _ _ _ _ _ _
        exact aT (And.intro (.inr rfl) rfl)
      · have hb := of_decide_eq_false hc2
        refine aK ?_
        show AWp _ _ _ _ _ _ _
        refine aR ?_
        (refine nx (aM (gN rfl) rfl rfl rfl rfl rfl) rfl ?_)
        (refine nx (a_add (gN rfl) rfl rfl rfl rfl rfl rfl (by first | omega | (simp only [List.length_map, List.length_append, List.length_cons, List.length_nil] <;> omega) | (simp <;> omega))) rfl ?_)
        (refine nx (aA (gN rfl) rfl rfl rfl rfl rfl) rfl ?_)
        refine ⟨hkl, ?_, wk_sub ⟨rfl, rfl, rfl, trivial⟩⟩
        intro y hy
        rw [List.take_add_one, hx, List.mem_append] at hy
        rcases hy with hy | hy
        · exact hI y hy
        · simp at hy
          rw [hy]
          unfold finL
          rw [show decide (0 ≤ smallT x.a size 8) = true by rw [decide_eq_true_eq]; omega, show decide (0 ≤ smallT x.b size 8) = true by rw [decide_eq_true_eq]; omega]
          rfl
  · have hkl : k = c.length := by
      have : ¬ k < c.length := by simpa using hlt
      omega
    subst hkl
    rw [List.take_length] at hI
    have hyes : fineC c most size = true := by
      unfold fineC
      rw [show decide (c.length ≤ most) = true by simpa using hl, Bool.true_and]
      exact List.all_eq_true.2 hI
    rw [hyes]
    refine aE ?_
    show AWp _ _ _ _ _ _ _
    refine aS (aR ?_)
    (refine nx (aA (gN rfl) rfl rfl rfl rfl rfl) rfl ?_)
    show AWp _ _ _ _ _ _ _
    exact aT (And.intro (.inr rfl) rfl)
theorem fineC_facts {c : List Lt} {most : Nat} {size : Int} (h0 : 0 ≤ size) (h1 : size ≤ 60) (h : fineC c most size = true) : c.length ≤ most ∧ ∀ l ∈ c, ((l.a.sm ∧ l.a.rng ∧ l.a.ok) ∧ (l.a.wt : Int) ≤ size ∧ (l.a.size : Int) ≤ size) ∧ ((l.b.sm ∧ l.b.rng ∧ l.b.ok) ∧ (l.b.wt : Int) ≤ size ∧ (l.b.size : Int) ≤ size) := by
  unfold fineC at h
  rw [Bool.and_eq_true, decide_eq_true_eq] at h
  refine ⟨h.1, fun l hl => ?_⟩
  have hf := List.all_eq_true.1 h.2 l hl
  unfold finL at hf
  rw [Bool.and_eq_true, decide_eq_true_eq, decide_eq_true_eq] at hf
  have key : ∀ t : Tm, 0 ≤ smallT t size 8 → (t.sm ∧ t.rng ∧ t.ok) ∧ (t.wt : Int) ≤ size ∧ (t.size : Int) ≤ size := fun t ht => by
    have hsm := small_sm t _ _ ht
    have hwt : (t.wt : Int) ≤ size := by have := (small_bounds t size 8 h0).2.2 ht; omega
    have := t.size_wt
    exact ⟨⟨hsm, Tm.sm_rng hsm, Tm.wt_ok (t := t) (by omega)⟩, hwt, by omega⟩
  exact ⟨key _ hf.1, key _ hf.2⟩
-- 
set_option maxHeartbeats 1000000 in
theorem of11I_abs (W : World) (c : List Lt) (hl : c.length ≤ 1000000) (hc : ∀ l ∈ c, l.a.ok ∧ l.b.ok) : AFun Tryz.prog W 9 [.lst (c.map Lt.cv)] (.val (.lst ((c.map id).map Lt.cv))) := by
  have hsz := Lt.size_all c
  refine afun_of (rs := [.lst ((c.map id).map Lt.cv)]) Tryz.func9 Tryz.ntmps9 rfl rfl rfl rfl ?_
  intro w U hW
  refine aS (aR ?_)
  (refine nx (aA (gN rfl) rfl rfl rfl rfl rfl) rfl ?_)
  show AWp _ _ _ _ _ _ _
  refine aS (aR ?_)
  (refine nx (aA (gN rfl) rfl rfl rfl rfl rfl) rfl ?_)
  show AWp _ _ _ _ _ _ _
  refine aS (aS (aR ?_))
  (refine nx (aA (gN rfl) rfl rfl rfl rfl rfl) rfl ?_)
  show AWp _ _ _ _ _ _ _
  refine aB (awp_count c.length (fun k => [(0, .val (.lst (c.map Lt.cv))), (3, .own (.lst (((c.take k).map id).map Lt.cv)) 200031), (200031, .tok 44 5), (4, .val (.i k))]) ((wk_nil 3 200031 44 5 rfl rfl rfl rfl rfl rfl rfl).trans (wk_sub ⟨rfl, rfl, rfl, rfl, trivial⟩)) ?_)
  intro k hk
  have hks := Lt.size_all ((c.take k).map id)
  refine aS (aS (aR ?_))
  (refine nx (aM (gN rfl) rfl rfl rfl rfl rfl) rfl ?_)
  (refine nx (aM (gN rfl) rfl rfl rfl rfl rfl) rfl ?_)
  (refine nx (a_len (gN rfl) rfl rfl rfl rfl rfl rfl rfl) rfl ?_)
  (refine nx (a_lss (gN rfl) rfl rfl rfl rfl rfl rfl) rfl ?_)
  show AWp _ _ _ _ _ _ _
  refine aC rfl (fun hlt => ?_) (fun hlt => ?_)
  · have hkl : k < c.length := by simpa using hlt
    obtain ⟨x, hx⟩ : ∃ x, c[k]? = some x := ⟨c[k], List.getElem?_eq_getElem hkl⟩
    have hx' := Lt.map_at hx
    have hxm := List.mem_of_getElem? hx
    have hkn : (((c.take k).map id).map Lt.cv).length ≤ 1000000 := by rw [List.length_map, List.length_map, List.length_take]; omega
    refine aK ?_
    show AWp _ _ _ _ _ _ _
    refine aS (aB (aD (by kernel_rfl) (by kernel_rfl) ?_))
    (refine nx (aM (gN rfl) rfl rfl rfl rfl rfl) rfl ?_)
    (refine nx (aM (gN rfl) rfl rfl rfl rfl rfl) rfl ?_)
    (refine nx (aM (gN rfl) rfl rfl rfl rfl rfl) rfl ?_)
    (refine nx (a_index (j := k) (gN rfl) rfl rfl rfl rfl rfl rfl rfl rfl rfl (hx') rfl (hsz)) rfl ?_)
    (refine nx (a_field_ad (gN rfl) rfl rfl rfl rfl rfl rfl rfl rfl rfl rfl rfl) rfl ?_)
    (refine nx (a_load_ad (gN rfl) rfl rfl rfl rfl rfl rfl rfl rfl rfl) rfl ?_)
    (refine nx (aM (gN rfl) rfl rfl rfl rfl rfl) rfl ?_)
    (refine nx (aM (gN rfl) rfl rfl rfl rfl rfl) rfl ?_)
    (refine nx (a_index (j := k) (gN rfl) rfl rfl rfl rfl rfl rfl rfl rfl rfl (hx') rfl (hsz)) rfl ?_)
    (refine nx (a_field_ad (gN rfl) rfl rfl rfl rfl rfl rfl rfl rfl rfl rfl rfl) rfl ?_)
    (refine nx (a_load_ad (gN rfl) rfl rfl rfl rfl rfl rfl rfl rfl rfl) rfl ?_)
    (refine nx (a_call (gN rfl) rfl rfl rfl rfl rfl (of_abs w x.a (hc x hxm).1)) rfl ?_)
    (refine nx (aM (gN rfl) rfl rfl rfl rfl rfl) rfl ?_)
    (refine nx (aM (gN rfl) rfl rfl rfl rfl rfl) rfl ?_)
    (refine nx (a_index (j := k) (gN rfl) rfl rfl rfl rfl rfl rfl rfl rfl rfl (hx') rfl (hsz)) rfl ?_)
    (refine nx (a_field_ad (gN rfl) rfl rfl rfl rfl rfl rfl rfl rfl rfl rfl rfl) rfl ?_)
    (refine nx (a_load_ad (gN rfl) rfl rfl rfl rfl rfl rfl rfl rfl rfl) rfl ?_)
    (refine nx (a_call (gN rfl) rfl rfl rfl rfl rfl (of_abs w x.b (hc x hxm).2)) rfl ?_)
    (refine nx (a_build (gN rfl) rfl rfl rfl rfl rfl rfl rfl rfl rfl rfl rfl) rfl ?_)
    (refine nx (a_bslice (gN rfl) rfl rfl rfl rfl rfl rfl rfl rfl rfl rfl rfl rfl rfl) rfl ?_)
    (refine nx (a_app (gN rfl) rfl rfl rfl rfl rfl rfl rfl rfl rfl rfl rfl rfl rfl rfl rfl (by first | assumption | exact sZ rfl | exact Tm.size_all _ | exact Bd.size_all _ | exact ints_size _ | exact bys_size _ | exact Lt.size_all _) (by first | assumption | exact sZ rfl | exact Tm.size_all _ | exact Bd.size_all _ | exact ints_size _ | exact bys_size _ | exact Lt.size_all _) (by first | omega | (simp only [List.length_map, List.length_append, List.length_cons, List.length_nil] <;> omega) | (simp <;> omega))) rfl ?_)
    (refine nx (aA (gN rfl) rfl rfl rfl rfl rfl) rfl ?_)
    refine ⟨by kernel_rfl, ?_⟩
    show AWp _ _ _ _ _ _ _
    refine aR ?_
    (refine nx (aM (gN rfl) rfl rfl rfl rfl rfl) rfl ?_)
    (refine nx (a_add (gN rfl) rfl rfl rfl rfl rfl rfl (by first | omega | (simp only [List.length_map, List.length_append, List.length_cons, List.length_nil] <;> omega) | (simp <;> omega))) rfl ?_)
    (refine nx (aA (gN rfl) rfl rfl rfl rfl rfl) rfl ?_)
    refine ⟨hkl, Wk.trans (wk_sub (s' := [(0, .val (.lst (c.map Lt.cv))), (3, .own (.lst (((c.take (k + 1)).map id).map Lt.cv)) 300031), (300031, .tok 44 5), (4, .val (.i ((k + 1 : Nat) : Int)))]) ⟨rfl, ?_, rfl, rfl, trivial⟩) (wk_ren 300031 200031 rfl rfl rfl rfl)⟩
    rw [List.take_add_one, hx, List.map_append, List.map_append]
    rfl
  · have hkl : k = c.length := by
      have : ¬ k < c.length := by simpa using hlt
      omega
    subst hkl
    rw [List.take_length]
    refine aE ?_
    show AWp _ _ _ _ _ _ _
    refine aS (aR ?_)
    (refine nx (aM (gN rfl) rfl rfl rfl rfl rfl) rfl ?_)
    (refine nx (aA (gN rfl) rfl rfl rfl rfl rfl) rfl ?_)
    show AWp _ _ _ _ _ _ _
    exact aT (And.intro (.inr rfl) rfl)
theorem of11_abs (W : World) (c : List Lt) (hl : c.length ≤ 1000000) (hc : ∀ l ∈ c, l.a.ok ∧ l.b.ok) : AFun Tryz.prog W 9 [.lst (c.map Lt.cv)] (.val (.lst (c.map Lt.cv))) := by
  have := of11I_abs W c hl hc
  rw [List.map_id] at this
  exact this
def sameL (x y : Lt) : Bool := (x.neg == y.neg) && (sameT x.a y.a && sameT x.b y.b)
def sameC : List Lt → List Lt → Bool
  | [], [] => true
  | x :: l, y :: m => sameL x y && sameC l m
  | _, _ => false
end Go.Proofs.YtglmoficcjphaaaGreat
namespace Go.Proofs.YtglmoficcjphaaaGreat
open Go.RowKit
set_option linter.unusedVariables false
set_option linter.unusedSimpArgs false
def lkT (t : Tm) : Tm := repT (fun _ => varT 0) t
def lkL (l : Lt) : Lt := Lt.rep (fun _ => varT 0) l
structure Sn where
  lit : Lt
  look : Lt
def trnS (l k : Lt) : Sn := if 0 ≤ cmpT k.a k.b then ⟨l, k⟩ else ⟨othL l, othL k⟩
def cmpSn (x y : Sn) : Int := cmpLt x.look y.look
def ltSn (x y : Sn) : Bool := decide (cmpSn x y < 0)
def inL (c : List Lt) : List Lt := (srtD ltSn (c.map fun l => trnS l (lkL l))).map Sn.lit
def sidT (c : List Lt) : Tm := ⟨0, sidL c⟩
def numB (c : List Lt) : List Bd := zipB (sidT c).nv (nums (sidT c).nv.length)
def nmP (c : List Lt) : List Lt := wdL ((inL c).map (Lt.rep (imgB (numB (inL c)))))
def rtL (l : Lt) : Lt := if cmpT (lkT l.a) (lkT l.b) < 0 then othL l else l
def befL (x y : Lt) : Bool := decide (cmpLt (lkL x) (lkL y) < 0)
def inD (c : List Lt) : List Lt := srtD befL (c.map rtL)
def whlL (l : Lt) : Tm := ⟨sgZ l.neg, [l.a, l.b]⟩
def whlT (c : List Lt) : Tm := ⟨0, c.map whlL⟩
def appL (s : List Bd) (l : Lt) : Lt := ⟨l.neg, appR s l.a, appR s l.b⟩
def nmD (c : List Lt) : List Lt := dedD sameL ((inD c).map (appL (numB (inD c))))
theorem rep_sid (img : Int → Tm) (c : List Lt) : repT img (sidT c) = sidT (c.map (Lt.rep img)) := rep_sides img c
def vntC (c d : List Lt) : Bool := decide (c.map Lt.neg = d.map Lt.neg) && vntB (sidT c) (sidT d)
end Go.Proofs.YtglmoficcjphaaaGreat
namespace Go.Proofs.YtglmoficcjphaaaGreat
open Go.RowKit
set_option linter.unusedVariables false
set_option linter.unusedSimpArgs false
set_option maxRecDepth 100000
theorem ToldU.uniq {l : List (Tm × Tm)} {r1 r2 : List Bd × Bool} (h1 : ToldU l r1) (h2 : ToldU l r2) : r1 = r2 := by
  rcases h1 with ⟨a1, a2, a3⟩ | ⟨a1, s, a2, a3, a4, a5⟩
  · rw [h2.no a3]
    cases r1
    simp only at a1 a2
    rw [a1, a2]
  · have h := (h2.yes a2 a3).1
    cases r1
    simp only at a1 a5
    rw [h, a1, a5]
noncomputable def mgT (a b : Tm) : List Bd × Bool := open Classical in if h : ∃ r, Tells8 [(a, b)] r then Classical.choose h else ([], false)
def Tm.ten (t : Tm) : Prop := (t.rng ∧ t.ok) ∧ t.size ≤ 10
def Lt.ten (l : Lt) : Prop := l.a.ten ∧ l.b.ten
theorem ten_tiny {a b : Tm} (ha : a.ten) (hb : b.ten) : Tiny2 [(a, b)] := fun p hp => by
  rw [List.mem_singleton] at hp
  subst hp
  exact ⟨⟨ha.1, Nat.le_trans ha.2 (by omega)⟩, hb.1, Nat.le_trans hb.2 (by omega)⟩
theorem mg_of {a b : Tm} {r : List Bd × Bool} (h : Tells8 [(a, b)] r) : mgT a b = r := by
  have he : ∃ r, Tells8 [(a, b)] r := ⟨r, h⟩
  unfold mgT
  rw [dif_pos he]
  exact (Classical.choose_spec he).told.uniq h.told
theorem mg_told {a b : Tm} (ha : a.ten) (hb : b.ten) : Tells8 [(a, b)] (mgT a b) := by
  obtain ⟨n, r, _, _, _, h⟩ := told_of (l := [(a, b)]) (by simp) (ten_tiny ha hb)
  rw [mg_of h]
  exact h
theorem all_orig (l : List (Tm × Tm)) (hl : l.length ≤ 2) (ht : Tiny2 l) : ∃ r : Option (List Bd), (r = none → ∀ τ, ¬ uni τ l) ∧ ∀ s, r = some s → Mgu (imgB s) l ∧ bareB s ∧ Orig (subsP l) (imgB s) := by
  have hV : ∀ v ∈ varsP l, 0 ≤ v := fun v hv => by
    obtain ⟨p, _, hv⟩ := List.mem_flatMap.1 hv
    rcases List.mem_append.1 hv with hv | hv <;> exact vs_nonneg _ v hv
  have hsub : ∀ p ∈ l, (∀ u ∈ p.1.vs, u ∈ varsP l) ∧ ∀ u ∈ p.2.vs, u ∈ varsP l := fun p hp => ⟨fun u hu => List.mem_flatMap.2 ⟨p, hp, List.mem_append_left _ hu⟩, fun u hu => List.mem_flatMap.2 ⟨p, hp, List.mem_append_right _ hu⟩⟩
  have h0 : Mgu (imgB []) [] := Mgu.nil
  obtain ⟨n, r, e, g1, g2⟩ := allR_spec hV l [] [] h0 (fun b hb => by cases hb) (fun b hb => by cases hb) hsub
  rw [List.nil_append] at g1 g2
  have hE : arA (subsP l) ≤ 60 := by
    have := subs_ar l fun p hp => ⟨(ht p hp).1.2, (ht p hp).2.2⟩
    omega
  have hvl := varsP_len l ht
  have hmid0 : MidU (varsP l) (subsP l) 64 [] ([] ++ []) := ⟨h0, (fun b hb => by cases hb), (fun b hb => by cases hb), (fun v hv hf => by exfalso; apply hf; show (varT v).f < 0; rw [varT_f]; omega), by
    have : frN (varsP l) [] ≤ (varsP l).length := filt_len _
    show 0 + _ ≤ 64
    omega, fun b hb => by cases hb⟩
  obtain ⟨c1, c2⟩ := rUs_mid (V := varsP l) (S := subsP l) (K := 64) (E := []) hV (rU_mid hV (subs_shut l) (by decide) hE n) l [] [] hmid0 (fun b hb => by cases hb) fun p hp => by
    obtain ⟨s1, s2⟩ := subs_has hp
    exact ⟨fun s1' F1 h1 => ⟨⟨(hsub p hp).1, p.1, s1, rfl⟩, ⟨(hsub p hp).2, p.2, s2, rfl⟩⟩, (ht p hp).1.1, (ht p hp).2.1⟩
  refine ⟨r, g1, fun s hs => ?_⟩
  obtain ⟨k1, k2, k3⟩ := g2 s hs
  rw [hs] at e
  exact ⟨k1, k2, (c2 s e).1.orig⟩
theorem big_18 {s E : Nat} (hE : E ≤ 18) (h : Big E s) : s ≤ 2955 := by
  have h := h.up hE
  unfold Big at h
  have e1 : (2 : Nat) ^ 18 = 262144 := by decide
  have e2 : (3 : Nat) ^ 18 = 387420489 := by decide
  rw [e1, e2] at h
  omega
theorem mg_img {a b : Tm} (ha : a.ten) (hb : b.ten) {v : Int} (hv : 0 ≤ v) : (imgB (mgT a b).1 v).size ≤ 2955 := by
  have hT := mg_told ha hb
  have hvar : ∀ u : Tm, u.f < 0 → u.size ≤ 2955 := fun u hu => by rw [Tm.size_var hu]; omega
  cases h2 : (mgT a b).2 with
  | false =>
    rw [(hT.no h2).1]
    exact hvar _ (by show (varT v).f < 0; rw [varT_f]; omega)
  | true =>
    have hm := hT.yes h2
    obtain ⟨r, g1, g2⟩ := all_orig [(a, b)] (by simp) (ten_tiny ha hb)
    cases r with
    | none => exact absurd hm.uni (g1 rfl _)
    | some s =>
      obtain ⟨k1, k2, k3⟩ := g2 s rfl
      rw [k1.one hm hv]
      by_cases hf : (imgB s v).f < 0
      · exact hvar _ hf
      · obtain ⟨q, hq, _, e⟩ := k3 v hv hf
        rw [← e]
        refine big_18 ?_ (hits_big (subs_shut _) k3 (fun v _ => bare_img k2 v) ⟨q, hq, rfl⟩)
        have e1 : subsP [(a, b)] = (a.flat ++ b.flat) ++ [] := rfl
        have e2 := arA_flat a
        have e3 := arA_flat b
        have e4 := ha.2
        have e5 := hb.2
        rw [e1, List.append_nil, arA_app]
        omega
theorem rep_big {σ : Int → Tm} {M : Nat} (hM : 1 ≤ M) (h : ∀ v, 0 ≤ v → (σ v).size ≤ M) (t : Tm) : (repT σ t).size ≤ M * t.size := by
  induction t using Tm.indp with
  | h t ih =>
    by_cases hf : t.f < 0
    · rw [repT_var hf, Tm.strip_size, Tm.size_var hf, Nat.mul_one]
      exact h _ (by omega)
    · have e1 : (repT σ t).size = 1 + ((t.l.map (repT σ)).map Tm.size).sum := by rw [repT_sym hf]; exact Tm.size_sym (t := ⟨t.f, t.l.map (repT σ)⟩) hf
      have e2 : t.size = 1 + (t.l.map Tm.size).sum := Tm.size_sym hf
      have hps : t.ps = t.l := Tm.ps_of_sym (by omega)
      rw [hps] at ih
      have : ∀ L : List Tm, (∀ s ∈ L, (repT σ s).size ≤ M * s.size) → ((L.map (repT σ)).map Tm.size).sum ≤ M * (L.map Tm.size).sum := fun L => by
        induction L with
        | nil => intro _; simp
        | cons x L ihL =>
          intro g
          rw [List.map_cons, List.map_cons, List.map_cons, List.sum_cons, List.sum_cons, Nat.mul_add]
          have a1 := g x (by simp)
          have a2 := ihL fun s hs => g s (List.mem_cons_of_mem _ hs)
          omega
      have h3 := this t.l ih
      rw [e1, e2, Nat.mul_add, Nat.mul_one]
      omega
noncomputable def mgS (a b : Tm) : Int → Tm := imgB (mgT a b).1
theorem mg_rep {a b : Tm} (ha : a.ten) (hb : b.ten) {t : Tm} (ht : t.ten) : (repT (mgS a b) t).rng ∧ (repT (mgS a b) t).ok ∧ (repT (mgS a b) t).size ≤ 29550 := by
  have hT := mg_told ha hb
  refine ⟨rep_rng hT.bdsOk ht.1.1, repT_ok ht.1.2 fun v => imgB_ok2 (fun b hb => (hT.ok b hb).2) v, ?_⟩
  have h1 := rep_big (M := 2955) (by omega) (fun v hv => mg_img ha hb hv) t
  have h2 : 2955 * t.size ≤ 2955 * 10 := Nat.mul_le_mul_left _ ht.2
  exact Nat.le_trans h1 h2
def offL (c : List Lt) (n : Nat) : List Lt := c.take n ++ c.drop (n + 1)
theorem offL_mem {c : List Lt} {n : Nat} {l : Lt} (h : l ∈ offL c n) : l ∈ c := by
  rcases List.mem_append.1 h with h | h
  · exact List.mem_of_mem_take h
  · exact List.mem_of_mem_drop h
theorem offL_len {c : List Lt} {n : Nat} (h : n < c.length) : (offL c n).length + 1 = c.length := by
  unfold offL
  rw [List.length_append, List.length_take, List.length_drop]
  omega
noncomputable def resC (c : List Lt) (n : Nat) : Option (List Lt) := match c[n]? with
  | some l => if l.neg = true ∧ (mgT l.a l.b).2 = true then some ((offL c n).map (Lt.rep (mgS l.a l.b))) else none
  | none => none
noncomputable def resA1 (c : List Lt) : List (List Lt) := (lokL c).filterMap fun z => resC c z.toNat
noncomputable def leadB (a b : Tm) : Bool := decide (kb a b = 1 ∨ kb a b = 2)
noncomputable def facC (p q : Tm × Tm) (rest : List Lt) : Option (List Lt) :=
  if (mgT p.1 q.1).2 = true ∧ leadB (repT (mgS p.1 q.1) p.1) (repT (mgS p.1 q.1) p.2) = true then some ((rest ++ [(⟨true, p.2, q.2⟩ : Lt)]).map (Lt.rep (mgS p.1 q.1))) else none
def wayL (l : Lt) : List (Tm × Tm) := [(l.a, l.b), (l.b, l.a)]
noncomputable def facI (p : Tm × Tm) (L : List (Tm × Tm)) (rest : List Lt) : List (List Lt) := L.filterMap fun q => facC p q rest
noncomputable def facO (L : List (Tm × Tm)) (o : Lt) (rest : List Lt) : List (List Lt) := L.flatMap fun p => facI p (wayL o) rest
noncomputable def facN (c : List Lt) (l : Lt) (n m : Nat) : List (List Lt) := match c[m]? with
  | some o => if m ≠ n ∧ o.neg = false then facO (wayL l) o (offL c n) else []
  | none => []
noncomputable def facL (c : List Lt) (n : Nat) : List (List Lt) := match c[n]? with
  | some l => if l.neg = true then [] else (List.range c.length).flatMap fun m => facN c l n m
  | none => []
noncomputable def facA (c : List Lt) : List (List Lt) := (lokL c).flatMap fun z => facL c z.toNat
theorem way_ten {l : Lt} (h : l.ten) : ∀ p ∈ wayL l, p.1.ten ∧ p.2.ten := fun p hp => by
  simp only [wayL, List.mem_cons, List.not_mem_nil, or_false] at hp
  rcases hp with rfl | rfl
  · exact h
  · exact ⟨h.2, h.1⟩
theorem facI_len (p : Tm × Tm) (L : List (Tm × Tm)) (rest : List Lt) : (facI p L rest).length ≤ L.length := List.length_filterMap_le _ _
theorem facO_len : ∀ (L : List (Tm × Tm)) (o : Lt) (rest : List Lt), (facO L o rest).length ≤ 2 * L.length
  | [], o, rest => by simp [facO]
  | p :: L, o, rest => by
    have h1 := facI_len p (wayL o) rest
    have h2 := facO_len L o rest
    have e : facO (p :: L) o rest = facI p (wayL o) rest ++ facO L o rest := List.flatMap_cons
    have h3 : (wayL o).length = 2 := rfl
    rw [e, List.length_append, List.length_cons]
    omega
end Go.Proofs.YtglmoficcjphaaaGreat
namespace Go.Proofs.YtglmoficcjphaaaGreat
open Go.RowKit Go.MapKept Go.Shelf
set_option linter.unusedVariables false
set_option linter.unusedSimpArgs false
attribute [local go_sem] Oper.semAt_some


noncomputable def encW (p : Tm × Tm) : List CV := [p.1.cw, p.2.cw]
def wayV (v1 v2 v3 v4 : Value) (x : Nat) : List Value := if x = 0 then [.agg #[v1, v2], .agg #[v3, v4]] else [.agg #[v3, v4], .agg #[v1, v2]]
set_option maxRecDepth 100000 in
set_option maxHeartbeats 2000000 in
theorem ways_in (l Bb ob : Nat) (v1 v2 v3 v4 : Value) (R : Nat → Nat → Prop) (w : World) (hc : (R Bb (ob + 1) ∧ w.cell? ⟨Bb, ob + 1, none⟩ = some v1) ∧ (R Bb (ob + 2) ∧ w.cell? ⟨Bb, ob + 2, none⟩ = some v2) ∧ (R Bb (ob + 3) ∧ w.cell? ⟨Bb, ob + 3, none⟩ = some v3) ∧ (R Bb (ob + 4) ∧ w.cell? ⟨Bb, ob + 4, none⟩ = some v4))
    (J : List Nat → World → Prop)
    (hY : ∀ pre (x : Nat) V, J pre V → x = pre.length ∧ x < 2 → YieldAt Fence.wide 1 Tryz.prog l (wayV v1 v2 v3 v4 x).toArray V fun e V' => e = .returned (.bool true) ∧ J (pre ++ [x]) V' ∧ KpX w.heap.size (fun b => ¬ ∃ o, R b o) V V')
    (W : World) (hW : Below w.heap.size w W) (h0 : J [] W) :
    CallsIn Fence.wide 2 Tryz.prog 81 #[.func (.yield l) #[] #[], .pointer (some ⟨Bb, ob, none⟩)] W fun e W' => (∃ v, e = .returned v) ∧ ∃ ys, ys = List.range 2 ∧ J ys W' := by
  have hcs : ∀ {V : World}, KpX w.heap.size (fun b => ¬ ∃ o, R b o) w V → V.cell? ⟨Bb, ob + 1, none⟩ = some v1 ∧ V.cell? ⟨Bb, ob + 2, none⟩ = some v2 ∧ V.cell? ⟨Bb, ob + 3, none⟩ = some v3 ∧ V.cell? ⟨Bb, ob + 4, none⟩ = some v4 := fun {V} hV => by
    have hkeep : ∀ b o u, R b o → w.cell? ⟨b, o, none⟩ = some u → V.cell? ⟨b, o, none⟩ = some u := fun b o u hr hc => by
      have hb : b < w.heap.size := World.block_lt_of_cell? w _ hc
      rw [World.cell?_of_block (w := w) (hV b hb (fun hn => hn ⟨o, hr⟩))]
      exact hc
    obtain ⟨⟨g1, g2⟩, ⟨g3, g4⟩, ⟨g5, g6⟩, g7, g8⟩ := hc
    exact ⟨hkeep _ _ _ g1 g2, hkeep _ _ _ g3 g4, hkeep _ _ _ g5 g6, hkeep _ _ _ g7 g8⟩
  have hW0 : KpX w.heap.size (fun b => ¬ ∃ o, R b o) w W := fun b hb _ => hW.block b hb
  have HC : Hid (∀ {V : World}, KpX w.heap.size (fun b => ¬ ∃ o, R b o) w V → V.cell? ⟨Bb, ob + 1, none⟩ = some v1 ∧ V.cell? ⟨Bb, ob + 2, none⟩ = some v2 ∧ V.cell? ⟨Bb, ob + 3, none⟩ = some v3 ∧ V.cell? ⟨Bb, ob + 4, none⟩ = some v4) := fun {V} h => hcs h
  clear hcs hc
  obtain ⟨c1, c2, c3, c4⟩ := HC.out hW0
  obtain ⟨fn, tmps, assign, body, hy, hR⟩ := hY [] 0 _ h0 ⟨rfl, by omega⟩
  have hy : Sem.run Tryz.prog (Instr.yield l #[.agg #[v1, v2], .agg #[v3, v4]]) W = .ok (.round l fn tmps assign body) W := hy
  refine callsIn_of_wp Tryz.func81 rfl trivial ?_ rfl
  simp only [Tryz.ntmps81, List.size_toArray, List.length_cons, List.length_nil, Nat.reduceAdd, Nat.reduceSub, Array.replicate_succ, Array.replicate_zero, List.push_toArray, List.append_toArray, List.nil_append, List.cons_append]
  gi_wp2
  refine hR.mono ?_
  rintro e V3 ⟨rfl, hJ3, hk3⟩
  have hK3 : KpX w.heap.size (fun b => ¬ ∃ o, R b o) w V3 := fun b' hb' hx' => (hk3 b' hb' hx').trans (hW0 b' hb' hx')
  clear c1 c2 c3 c4 hy hR
  obtain ⟨c1, c2, c3, c4⟩ := HC.out hK3
  obtain ⟨fn, tmps, assign, body, hy, hR⟩ := hY [0] 1 _ hJ3 ⟨rfl, by omega⟩
  have hy : Sem.run Tryz.prog (Instr.yield l #[.agg #[v3, v4], .agg #[v1, v2]]) V3 = .ok (.round l fn tmps assign body) V3 := hy
  gi_wp2
  refine hR.mono ?_
  rintro e V4 ⟨rfl, hJ4, hk4⟩
  gi_wp2
  go_end0
  exact ⟨⟨_, rfl⟩, _, rfl, hJ4⟩
theorem lt_cells {R : Nat → Nat → Prop} {w : World} {l : Lt} {xs : List Value} (h : Rep R w l.cw xs) : ∃ v0 v1 v2 v3 v4, xs = [v0, v1, v2, v3, v4] ∧ VRep R w l.a.cw (.agg #[v1, v2]) ∧ VRep R w l.b.cw (.agg #[v3, v4]) := by
  obtain ⟨x1, y1, rfl, h1, h2⟩ := rep_row.1 h
  obtain ⟨x2, y2, rfl, h3, h4⟩ := h2
  obtain ⟨x3, y3, rfl, h5, h6⟩ := h4
  have h6 : y3 = [] := h6
  subst h6
  have l1 : x1.length = 1 := h1.len
  have l2 : x2.length = 2 := h3.len
  have l3 : x3.length = 2 := h5.len
  match x1, x2, x3, l1, l2, l3 with
  | [v0], [v1, v2], [v3, v4], _, _, _ => exact ⟨v0, v1, v2, v3, v4, rfl, ⟨_, rfl, h3⟩, _, rfl, h5⟩
theorem ways_hands (l : Lt) : HandsV Tryz.prog 81 [.ptr l.cw] 2 encW (wayL l) := by
  rintro w lb R ⟨u, us, rfl, h1, h2⟩
  have h2 : us = [] := h2
  subst h2
  obtain ⟨b, off, xs, rfl, h3, h4⟩ := vrep_ptr.1 h1
  obtain ⟨v0, v1, v2, v3, v4, rfl, g1, g2⟩ := lt_cells h3
  have hc : ∀ i, i < 5 → R b (off + i) ∧ w.cell? ⟨b, off + i, none⟩ = [v0, v1, v2, v3, v4][i]? := fun i hi => h4 i hi
  refine ⟨wayV v1 v2 v3 v4, fun k => by unfold wayV; split <;> rfl, fun k x hx => ?_, fun l2 J W hW hJ hY h0 => ?_⟩
  · match k, hx with
    | 0, hx => cases hx; exact ⟨_, _, rfl, g1, _, _, rfl, g2, rfl⟩
    | 1, hx => cases hx; exact ⟨_, _, rfl, g2, _, _, rfl, g1, rfl⟩
    | k + 2, hx => cases hx
  · exact ways_in l2 b off v1 v2 v3 v4 R w ⟨hc 1 (by omega), hc 2 (by omega), hc 3 (by omega), hc 4 (by omega)⟩ J hY W hW h0
-- 
theorem eWays_abs (W : World) (l : Lt) : AFun Tryz.prog W 55 [l.cw] (.val (.fn 81 0 [.ptr l.cw])) := by
  refine afun_of (rs := [.fn 81 0 [.ptr l.cw]]) Tryz.func55 Tryz.ntmps55 rfl rfl rfl rfl ?_
  intro w U hW
  refine aS (aR ?_)
  (refine nx (a_box (gN rfl) rfl rfl rfl rfl rfl) rfl ?_)
  (refine nx (aA (gN rfl) rfl rfl rfl rfl rfl) rfl ?_)
  show AWp _ _ _ _ _ _ _
  refine AWp.wk (wk_freeze 1 rfl rfl rfl (s' := []) trivial rfl rfl rfl) ?_
  refine aS (aR ?_)
  (refine nx (a_mkfunc (gN rfl) rfl rfl rfl rfl rfl rfl) rfl ?_)
  (refine nx (aA (gN rfl) rfl rfl rfl rfl rfl) rfl ?_)
  show AWp _ _ _ _ _ _ _
  exact aT ⟨.inr rfl, rfl⟩
end Go.Proofs.YtglmoficcjphaaaGreat
namespace Go.Proofs.YtglmoficcjphaaaGreat
open Go.RowKit
set_option linter.unusedVariables false
set_option linter.unusedSimpArgs false
theorem info_lit : (Tryz.prog.info? 44).map (fun i => (i.zero, i.size, i.bytes)) = some (some (.agg #[.bool false, .int .i64 0, .slice none 0 0, .int .i64 0, .slice none 0 0]), 5, 72) := by kernel_rfl

set_option maxRecDepth 100000 in
set_option maxHeartbeats 400000 in
theorem growL_any (n : Nat) (hn : n ≤ 2199023255552) (w : World) :
    Calls Tryz.prog 76 #[.slice none 0 0, .int .i64 (n : Int)] w fun e w' => ∃ v, e = .returned v ∧ w'.ownsRow w.heap.size 44 5 v 0 [] ∧ Below w.heap.size w w' := by
  obtain ⟨i, hi1, hi2, hi3, hi4⟩ := info_parts info_lit
  rcases Nat.eq_zero_or_pos n with rfl | h0
  · go_enter Tryz.func76, Tryz.ntmps76
    go_wp2
    go_ret
    exact ⟨_, rfl, World.ownsRow_nil _ _ _ _, bW _⟩
  · have hr := Lib.run_append_nil_zeros (P := Tryz.prog) w 26 3 26 44 i (.agg #[.bool false, .int .i64 0, .slice none 0 0, .int .i64 0, .slice none 0 0]) .i64 .i64 Tryz.underlying26 Tryz.underlying3 hi1 hi2 n h0 (by rw [hi3]; omega) (by omega) (by rw [hi4]; omega)
    go_enter Tryz.func76, Tryz.ntmps76
    go_wp2_with (at_builtin; refine Lib.wpList_append_run _ rfl _ _ _ _ rfl _ _ rfl rfl _ _ hr ?_)
    go_wp2
    go_ret
    refine ⟨_, rfl, World.ownsRow_made w.drew _ _ (Nat.le_refl _) (grownCap_le_maxLen _ _ _ _ (by unfold maxLen; omega)) ?_, (Below.refl _ _).drew.alloc (Nat.le_refl _) _⟩
    have := grownCap_ge w n 0 44
    simp [size_zeroCells]
    try omega

set_option maxRecDepth 100000 in
set_option maxHeartbeats 800000 in
theorem concatL_any (a : Option Addr) (m c : Nat) (A : Nat → Option Addr) (L C : Nat → Nat) (R : Nat → List Value) (w : World) (hr : Rw 5 w a m A L C R) (hm : m ≤ 1000) (hs : lenJ L m ≤ 1099511627776) :
    Calls Tryz.prog 51 #[.slice a m c] w fun e w' => ∃ v, e = .returned v ∧ w'.ownsRow w.heap.size 44 5 v (lenJ L m) (joinV R m) ∧ Below w.heap.size w w' := by
  obtain ⟨J, hJ⟩ : ∃ J : Nat → List Value, J = joinV R := ⟨_, rfl⟩
  obtain ⟨N, hN⟩ : ∃ N : Nat → Nat, N = lenJ L := ⟨_, rfl⟩
  have HS : Hid (∀ k, J (k + 1) = J k ++ R k) := fun k => by rw [hJ]; rfl
  have HSN : Hid (∀ k, N (k + 1) = N k + L k) := fun k => by rw [hN]; rfl
  have HJ0 : Hid (J 0 = [] ∧ N 0 = 0) := by rw [hJ, hN]; exact ⟨rfl, rfl⟩
  have HL : Hid (∀ k, k ≤ m → N k ≤ 1099511627776) := fun k hk => by rw [hN]; exact Nat.le_trans (lenJ_le L hk) hs
  have HR : Hid (∀ B w', Below B w w' → w.heap.size ≤ B → Rw 5 w' a m A L C R) := fun B w' hb hB => hr.below hb hB
  have HR0 : Hid (Rw 5 w a m A L C R) := hr
  rw [← hJ, ← hN]
  clear hJ hs hr hN
  go_enter Tryz.func51, Tryz.ntmps51
  go_wp2
  go_loop [3, 11] (fun s i => ∃ k x : Nat, i = .int .i64 (k : Int) ∧ k ≤ m ∧ s = .int .i64 (x : Int) ∧ x = N k) (fun s i => m - (intOf i).toNat)
  case atStart => exact ⟨0, 0, rfl, by omega, rfl, by rw [HJ0.out.2]⟩
  case round =>
    obtain ⟨k, x, rfl, hk, rfl, hx⟩ := hrel
    have HX : Hid (x = N k) := hx
    have hx1 : x ≤ 1099511627776 := by rw [hx]; exact HL.out k hk
    clear hx
    by_cases hlt : k < m
    · rcases HR0.out.2 with h0 | ⟨b, off, rfl, hb, hc⟩
      · omega
      have hck := hc k hlt
      have HXX : Hid (x + L k = N (k + 1)) := by show x + L k = _; rw [HSN.out k, ← HX.out]
      have hx2 : x + L k ≤ 1099511627776 := by rw [HXX.out]; exact HL.out (k + 1) hlt
      obtain ⟨Lk, hLk⟩ : ∃ y, L k = y := ⟨_, rfl⟩
      obtain ⟨Ak, hAk⟩ : ∃ y, A k = y := ⟨_, rfl⟩
      obtain ⟨Ck, hCk⟩ : ∃ y, C k = y := ⟨_, rfl⟩
      rw [hLk] at HXX hx2
      rw [hLk, hAk, hCk] at hck
      clear hLk hAk hCk hc
      go_wp2
      refine ⟨⟨k + 1, x + Lk, by go_num, by omega, by go_num, HXX.out⟩, ?_⟩
      simp [intOf]; omega
    · obtain rfl : k = m := by omega
      go_wp2_with fail
      refine (growL_any x (by omega) w).mono ?_
      rintro e w1 ⟨v1, rfl, ho1, hb1⟩
      go_wp2
      go_loopw [6, 27] (fun u i wr => ∃ j : Nat, i = .int .i64 (j : Int) ∧ j ≤ k ∧ wr.ownsRow w.heap.size 44 5 u (N j) (J j) ∧ Below w.heap.size w wr) (fun _ i _ => k - (intOf i).toNat)
      case atStart => exact ⟨0, rfl, by omega, by rw [HJ0.out.1, HJ0.out.2]; exact ho1, hb1⟩
      case round =>
        obtain ⟨j, rfl, hj, hoj, hbj⟩ := hrel
        by_cases hlt : j < k
        · obtain ⟨hn1, hbs, hRl, hone⟩ := (HR.out _ _ hbj (Nat.le_refl _)).1 j hlt
          rcases (HR.out _ _ hbj (Nat.le_refl _)).2 with h0 | ⟨b, off, rfl, hb, hc⟩
          · omega
          have hck := hc j hlt
          have hJl : N j + L j ≤ 1099511627776 := by
            have := HL.out (j + 1) hlt
            rw [HSN.out j] at this
            exact this
          have HSj' : Hid (J (j + 1) = J j ++ R j ∧ N (j + 1) = N j + L j) := ⟨HS.out j, HSN.out j⟩
          obtain ⟨Lk, hLk⟩ : ∃ y, L j = y := ⟨_, rfl⟩
          obtain ⟨Ak, hAk⟩ : ∃ y, A j = y := ⟨_, rfl⟩
          obtain ⟨Ck, hCk⟩ : ∃ y, C j = y := ⟨_, rfl⟩
          obtain ⟨Rk, hRk⟩ : ∃ y, R j = y := ⟨_, rfl⟩
          obtain ⟨Jk, hJk⟩ : ∃ y, J j = y := ⟨_, rfl⟩
          obtain ⟨Nk, hNk⟩ : ∃ y, N j = y := ⟨_, rfl⟩
          rw [hAk, hRk] at hbs
          rw [hRk] at hone
          rw [hLk, hRk] at hRl
          rw [hLk, hAk, hCk] at hck
          rw [hLk, hAk, hCk] at hn1
          rw [hJk, hRk, hNk, hLk] at HSj'
          rw [hJk, hNk] at hoj
          rw [hNk, hLk] at hJl
          have hsz := hbj.size
          have HRl := hid hRl
          clear hLk hAk hCk hRk hJk hNk hc hRl
          go_wp2_with (at_builtin; refine wpList_append_cells _ rfl _ _ 26 rfl w.heap.size 44 (.agg #[.bool false, .int .i64 0, .slice none 0 0, .int .i64 0, .slice none 0 0]) 5 72 Tryz.underlying26 info_lit rfl (by decide) _ Nk Jk rfl hoj Ak Lk Ck Rk rfl hn1 hbs HRl.out hone ?d1 ?d2 hsz ?_)
          case d1 => unfold maxLen; omega
          case d2 => omega
          intro v2 w2 ho2 hg2
          have hb2 := hbj.trans (below_grown hoj hg2 hsz)
          clear hg2
          go_wp2
          go_roundw
          case rel => exact ⟨j + 1, by go_num, hlt, by rw [HSj'.out.1, HSj'.out.2]; exact ho2, hb2⟩
          case measure => simp [intOf]; omega
        · obtain rfl : j = k := by omega
          go_wp2
          go_ret
          exact ⟨_, rfl, hoj, hbj⟩

set_option maxRecDepth 100000
theorem sq_rowsL {U : Nat → Nat → Prop} {w : World} : ∀ {l : List (List Lt)} {ys : List Value}, Sq ((l.map fun x => CV.lst (x.map Lt.cv)).map fun c => Rep U w c) ys →
    ∃ (A : Nat → Option Addr) (L C : Nat → Nat) (R : Nat → List Value), ∀ r x, l[r]? = some x → ys[r]? = some (.slice (A r) (L r) (C r)) ∧ L r = x.length ∧ (A r = none → L r = 0 ∧ C r = 0) ∧ At U w (A r) (R r) ∧ Sq ((x.map Lt.cv).map fun c => Rep U w c) (R r)
  | [], ys, h => ⟨fun _ => none, fun _ => 0, fun _ => 0, fun _ => [], fun r x hx => by simp at hx⟩
  | x :: l, ys, h => by
    obtain ⟨y1, y2, rfl, h1, h2⟩ := h
    obtain ⟨a, n, c, rfl, g1, g2, g3, g4, zs, g5, g6⟩ := rep_lst.1 h1
    obtain ⟨A, L, C, R, hR⟩ := sq_rowsL (l := l) h2
    refine ⟨fun r => match r with | 0 => a | r + 1 => A r, fun r => match r with | 0 => n | r + 1 => L r, fun r => match r with | 0 => c | r + 1 => C r, fun r => match r with | 0 => zs | r + 1 => R r, fun r y hy => ?_⟩
    cases r with
    | zero =>
      simp at hy
      subst hy
      exact ⟨rfl, by rw [g1, List.length_map], g4, g5, g6⟩
    | succ r =>
      simp at hy
      exact hR r y hy
theorem sq_joinedL {U : Nat → Nat → Prop} {w : World} {l : List (List Lt)} {L : Nat → Nat} {R : Nat → List Value} (h : ∀ r x, l[r]? = some x → L r = x.length ∧ Sq ((x.map Lt.cv).map fun c => Rep U w c) (R r)) :
    ∀ k, k ≤ l.length → Sq (((l.take k).flatten.map Lt.cv).map fun c => Rep U w c) (joinV R k) ∧ lenJ L k = (l.take k).flatten.length := by
  intro k
  induction k with
  | zero => intro _; exact ⟨rfl, rfl⟩
  | succ k ih =>
    intro hk
    obtain ⟨h1, h2⟩ := ih (by omega)
    obtain ⟨x, hx⟩ : ∃ x, l[k]? = some x := ⟨l[k], List.getElem?_eq_getElem (by omega)⟩
    obtain ⟨h3, h4⟩ := h k x hx
    rw [List.take_add_one, hx, List.flatten_append, joinV, lenJ, List.map_append, List.map_append, List.length_append, h2, h3]
    simp only [Option.toList_some, List.flatten_cons, List.flatten_nil, List.append_nil]
    exact ⟨sq_append h1 h4, trivial⟩
theorem concatL_abs (W : World) (l : List (List Lt)) (hl : l.length ≤ 1000) (hs : l.flatten.length ≤ 1099511627776) : AFun Tryz.prog W 51 [.lst (l.map fun x => CV.lst (x.map Lt.cv))] (.val (.lst (l.flatten.map Lt.cv))) := by
  refine ⟨ent_of Tryz.func51 rfl rfl, .inl rfl, rfl, ?_⟩
  rintro U w vs hW ⟨u1, us1, rfl, h1, h3⟩
  have h3 : us1 = [] := h3
  subst h3
  obtain ⟨a, n, c, rfl, g1, g2, g3, g4, ys, g5, g6⟩ := vrep_lst.1 h1
  rw [List.length_map] at g1
  subst g1
  obtain ⟨A, L, C, R, hR⟩ := sq_rowsL g6
  obtain ⟨hj, hn⟩ := sq_joinedL (fun r x hx => ⟨(hR r x hx).2.1, (hR r x hx).2.2.2.2⟩) l.length (Nat.le_refl _)
  rw [List.take_length] at hj hn
  have hrw : Rw 5 w a l.length A L C R := by
    refine ⟨fun r hr => ?_, ?_⟩
    · obtain ⟨k1, k2, k3, k4, k5⟩ := hR r _ (List.getElem?_eq_getElem hr)
      refine ⟨k3, cs_of_at k4, ?_, rep_one_of k5⟩
      rw [sq_len (n := fun _ => 5) (fun c hc xs hx => by
        obtain ⟨t, ht, rfl⟩ := List.mem_map.1 hc
        rw [hx.len]
        exact Lt.size_all [t] _ (by simp)) k5, k2]
      rw [List.map_const', List.sum_replicate_nat]
      simp
    · by_cases hz : l.length = 0
      · exact .inl hz
      · refine .inr ?_
        have hc := cs_of_at g5
        have hy0 := (hR 0 _ (List.getElem?_eq_getElem (by omega : 0 < l.length))).1
        rcases hc with hc | ⟨b, off, ha, hb, hc⟩
        · rw [hc] at hy0; simp at hy0
        · refine ⟨b, off, ha, hb, fun r hr => ?_⟩
          have hy := (hR r _ (List.getElem?_eq_getElem hr)).1
          have hlt : r < ys.length := by
            rcases Nat.lt_or_ge r ys.length with h | h
            · exact h
            · rw [List.getElem?_eq_none h] at hy; cases hy
          rw [hc r hlt, hy]
  refine (concatL_any a l.length c A L C R w hrw hl (by rw [hn]; exact hs)).mono ?_
  rintro e w' ⟨v, rfl, ho, hb⟩
  obtain ⟨a', c', rfl, k1, k2, k3, k4⟩ := ownsRow_at ho
  refine ⟨_, rfl, vrep_lst.2 ⟨a', _, c', rfl, by rw [hn, List.length_map], k1, k2, k3, _, k4.keep fun b o v h1 h2 => ⟨.inr h1, h2⟩, hj.keep fun b o v h1 h2 => ⟨.inl h1, ?_⟩⟩, hb⟩
  rw [hb.cell (World.block_lt_of_cell? w _ h2)]
  exact h2
end Go.Proofs.YtglmoficcjphaaaGreat
namespace Go.Proofs.YtglmoficcjphaaaGreat
open Go.RowKit
set_option linter.unusedVariables false
set_option linter.unusedSimpArgs false
set_option maxRecDepth 100000
noncomputable abbrev Sn.cw (s : Sn) : CV := .row [s.lit.cw, s.look.cw]
noncomputable def Sn.cv (s : Sn) : CV := s.cw
def ltG {α : Type} (cmp : α → α → Int) (x y : α) : Bool := decide (cmp x y < 0)
def ltO (x y : Int) : Bool := decide (x < y)
end Go.Proofs.YtglmoficcjphaaaGreat
namespace Go.Proofs.YtglmoficcjphaaaGreat
open Go.RowKit
set_option linter.unusedVariables false
set_option linter.unusedSimpArgs false
def catO : List (Option (List Value)) → Option (List Value)
  | [] => some []
  | none :: _ => none
  | some x :: r => match catO r with | some y => some (x ++ y) | none => none
def plS (k : Nat) (v : Value) (l : List CV) (r : Option (List Value)) : Option (List Value) := match k, v, l with
  | 0, v, [] => match plainV v, isNil v with | true, false => some [v] | _, _ => none
  | 1, .nilFunc, [] => some [.slice none 0 0]
  | 2, .nilFunc, _ => r
  | _, _, _ => none
def plC : Nat → CV → Option (List Value)
  | 0, _ => none
  | n + 1, ⟨k, v, l⟩ => plS k v l (catO (l.map (plC n)))
theorem catO_spec {U : Nat → Nat → Prop} {w : World} {n : Nat} (ih : ∀ c vs, plC n c = some vs → Rep U w c vs ∧ vs.length = c.size) : ∀ {zs : List CV} {vs : List Value}, catO (zs.map (plC n)) = some vs → ∃ segs : List (List Value), segs.flatten = vs ∧ segs.map List.length = zs.map CV.size ∧ zs.length = segs.length ∧ ∀ (i : Nat) (c : CV), zs[i]? = some c → ∃ seg, segs[i]? = some seg ∧ Rep U w c seg
  | [], vs, h => by
    simp [catO] at h
    subst h
    exact ⟨[], rfl, rfl, rfl, fun i c hi => by simp at hi⟩
  | z :: zs, vs, h => by
    rw [List.map_cons] at h
    cases hz : plC n z with
    | none => rw [hz] at h; simp [catO] at h
    | some x =>
      rw [hz] at h
      unfold catO at h
      split at h
      · rename_i y hy
        cases h
        obtain ⟨segs, a1, a2, a3, a4⟩ := catO_spec ih hy
        obtain ⟨b1, b2⟩ := ih z x hz
        refine ⟨x :: segs, by simp [a1], by simp [a2, b2], by simp [a3], fun i c hi => ?_⟩
        cases i with
        | zero => simp at hi; subst hi; exact ⟨x, rfl, b1⟩
        | succ i => obtain ⟨seg, c1, c2⟩ := a4 i c (by simpa using hi); exact ⟨seg, by simpa using c1, c2⟩
      · cases h
theorem plC_spec {U : Nat → Nat → Prop} {w : World} : ∀ (n : Nat) (c : CV) (vs : List Value), plC n c = some vs → Rep U w c vs ∧ vs.length = c.size
  | 0, c, vs, h => by cases h
  | n + 1, ⟨k, v, l⟩, vs, h => by
    rw [plC] at h
    unfold plS at h
    split at h
    · split at h
      · rename_i h1 h2
        cases h
        exact ⟨(rep_cell h1).2 h2, rfl⟩
      · cases h
    · cases h
      exact ⟨rep_nil U w, rfl⟩
    · obtain ⟨segs, a1, a2, a3, a4⟩ := catO_spec (fun c vs h => plC_spec (U := U) (w := w) n c vs h) h
      refine ⟨?_, ?_⟩
      · show Rep U w (.row l) vs
        rw [rep_row, ← a1]
        exact sq_of_segs a3 a4
      · rw [CV.size_mk, if_pos rfl, ← a1, List.length_flatten, a2]
    · cases h

section
variable {P : Program} {w0 : World} {U0 : UX} {nt : Nat} {ops : Array Oper} {o : Oper} {S : Nat → Option AV} {gs : List Nat} {d : Nat}
theorem a_allocT (zs : List CV) (hg : Gd w0 U0 nt ops o gs S) (hd : o.dst = some d) (hn : Nat.blt d nt = true) (h5 : Nat.blt d 100000 = true) {ty : TypeId} {it : TypeInfo} {cs : Array Value} (ho : o.op = .alloc ty) (hi : P.info? ty = some it) (hz : it.zero = some (.agg cs)) (h0 : plC 6 (.row zs) = some cs.toList) : AOp P w0 U0 nt ops o gs [(d, [])] S [(d, .bp d 0 []), (100000 + d, .bx (.row zs))] := by
  intro s hs hN a w ⟨D, hv, h⟩ Q K hK
  rw [if_pos (hg s hs a w D hv h)]
  have hrep : Rep (Us w0 U0 D) w (.row zs) cs.toList := (plC_spec 6 _ _ h0).1
  have he : (execOp a.eval o).run P w = .ok (.value (.pointer (some ⟨w.heap.size, 0, none⟩))) (w.alloc (.cells cs ty)) := by
    simp [execOp, ho, Instr.alloc, zeroValue, typeInfo, hi, hz, run_newVar, Value.cells]
  unfold Oper.wp
  rw [he, Oper.upon_value, hd]
  have := h.newbox (d := d) (av := .bx (.row zs)) (hN (d, []) (by simp)).nr (bL hn) (bL h5) (.inl rfl) ty (fun _ => hrep) (fun _ hl => absurd hl not_live0)
  rw [Array.toArray_toList] at this
  exact hK _ _ ⟨_, _, this⟩
theorem a_buildT (zs : List CV) (hg : Gd w0 U0 nt ops o gs S) (hd : o.dst = some d) (hn : Nat.blt d nt = true) (h5 : Nat.blt d 100000 = true) {t : TypeId} {parts : Array (Nat × Operand)} {fs : Array Field} {it : TypeInfo} {cs : Array Value} {sz : List Nat} {r : List CV} (ho : o.op = .build t parts) (hu : P.underlying t = some (.struct fs)) (hi : P.info? t = some it) (hz : it.zero = some (.agg cs)) (hsz : szO P fs.toList 0 = some sz) (hzz : zs.map CV.size = sz) (h0 : catO (zs.map (plC 6)) = some cs.toList) (hr : setsO S parts.toList zs = some r) :
    AOp P w0 U0 nt ops o (gs ++ rds parts.toList) [] S [(d, .val (.row r))] :=
  aop_val hg hd hn h5 (fun k hk => List.mem_append_left _ hk) fun s hs a w D hv hm => by
    obtain ⟨segs, e1, e2, e4, e5⟩ := catO_spec (U := Us w0 U0 D) (w := w) (plC_spec 6) h0
    obtain ⟨g1, g2⟩ := setsO_spec (U := Us w0 U0 D) (w := w) (ρ := a.eval) (segs := segs) hr (fun x hx c n q p hev => ev_val hm (fun k hk => hs k (List.mem_append_right _ (mem_rds hx k hk))) hev) e4 e2 e5
    obtain ⟨pl, h1, h2⟩ := szO_spec hsz
    have hfill := fill_segs (place := fun i => pl.toArray[i]?) sz (fun i z hz => by rw [List.getElem?_toArray, h2 i z hz, Nat.zero_add]) (parts.toList.map fun x => (x.1, a.eval x.2)) segs cs e1.symm (by rw [e2, hzz]) (fun x hx => by rw [← hzz]; exact g1 x hx)
    refine ⟨.agg (setAll segs (parts.toList.map fun x => (x.1, a.eval x.2))).flatten.toArray, ?_, avrep_val (vrep_row.2 ⟨_, rfl, g2⟩)⟩
    have hb : P.built t (parts.map fun x => (x.1, a.eval x.2)).toList = some (setAll segs (parts.toList.map fun x => (x.1, a.eval x.2))).flatten.toArray := by
      unfold Program.built
      rw [hi, hu]
      simp only [hz, h1]
      rw [Array.toList_map]
      exact hfill
    have := run_build w t _ _ hb
    generalize a.eval = ρ at this ⊢
    simp [execOp, ho, this]
end
end Go.Proofs.YtglmoficcjphaaaGreat
namespace Go.Proofs.YtglmoficcjphaaaGreat
open Go.RowKit
set_option linter.unusedVariables false
set_option linter.unusedSimpArgs false
set_option maxRecDepth 100000
def eqF (p : Lt → Lt → Bool) : List Lt → List Lt → Bool
  | [], [] => true
  | x :: c, y :: d => p x y && eqF p c d
  | _, _ => false
theorem eqF_len {p : Lt → Lt → Bool} : ∀ {c d : List Lt}, c.length ≠ d.length → eqF p c d = false
  | [], [], h => absurd rfl h
  | [], _ :: _, _ => rfl
  | _ :: _, [], _ => rfl
  | x :: c, y :: d, h => by rw [eqF, eqF_len (c := c) (d := d) (by simpa using h), Bool.and_false]
theorem eqF_no {p : Lt → Lt → Bool} : ∀ {c d : List Lt} {k : Nat} {x y : Lt}, c[k]? = some x → d[k]? = some y → p x y = false → eqF p c d = false
  | [], _, k, _, _, h, _, _ => by simp at h
  | _ :: _, [], k, _, _, _, h, _ => by simp at h
  | a :: c, b :: d, 0, x, y, h1, h2, h => by
    simp at h1 h2
    subst h1 h2
    rw [eqF, h, Bool.false_and]
  | a :: c, b :: d, k + 1, x, y, h1, h2, h => by rw [eqF, eqF_no (c := c) (d := d) (k := k) (by simpa using h1) (by simpa using h2) h, Bool.and_false]
theorem eqF_yes {p : Lt → Lt → Bool} : ∀ {c d : List Lt}, c.length = d.length → (∀ (k : Nat) (x y : Lt), c[k]? = some x → d[k]? = some y → p x y = true) → eqF p c d = true
  | [], [], _, _ => rfl
  | [], _ :: _, h, _ => by simp at h
  | _ :: _, [], h, _ => by simp at h
  | x :: c, y :: d, h, hp => by
    rw [eqF, hp 0 x y rfl rfl, Bool.true_and]
    exact eqF_yes (by simpa using h) fun k a b h1 h2 => hp (k + 1) a b (by simpa using h1) (by simpa using h2)
theorem eqF_sign (c d : List Lt) : eqF (fun x y => x.neg == y.neg) c d = decide (c.map Lt.neg = d.map Lt.neg) := by
  induction c generalizing d with
  | nil => cases d <;> simp [eqF]
  | cons x c ih => cases d with
    | nil => simp [eqF]
    | cons y d => rw [eqF, ih, Bool.eq_iff_iff]; simp
-- 
theorem eqF_abs (W : World) (p : Lt → Lt → Bool) (fc : CV) (c d : List Lt) (hl : c.length ≤ 1000000) (hc : ∀ W, ∀ x ∈ c, ∀ y ∈ d, AFunW Tryz.prog W fc [x.cw, y.cw] (.val (.b (p x y)))) : AFun Tryz.prog W 42 [.lst (c.map Lt.cv), .lst (d.map Lt.cv), fc] (.val (.b (eqF p c d))) := by
  have hs1 := Lt.size_all c
  have hs2 := Lt.size_all d
  refine afun_of (rs := [.b (eqF p c d)]) Tryz.func42 Tryz.ntmps42 rfl rfl rfl rfl ?_
  intro w U hW
  refine aS (aR ?_)
  (refine nx (aA (gN rfl) rfl rfl rfl rfl rfl) rfl ?_)
  show AWp _ _ _ _ _ _ _
  refine aS (aS (aR ?_))
  (refine nx (aM (gN rfl) rfl rfl rfl rfl rfl) rfl ?_)
  (refine nx (a_len (gN rfl) rfl rfl rfl rfl rfl rfl rfl) rfl ?_)
  (refine nx (aM (gN rfl) rfl rfl rfl rfl rfl) rfl ?_)
  (refine nx (a_len (gN rfl) rfl rfl rfl rfl rfl rfl rfl) rfl ?_)
  (refine nx (a_neq (gN rfl) rfl rfl rfl rfl rfl rfl) rfl ?_)
  show AWp _ _ _ _ _ _ _
  refine aC rfl (fun h => ?_) (fun h => ?_)
  · have h := of_decide_eq_true h
    rw [List.length_map, List.length_map] at h
    rw [eqF_len (p := p) (c := c) (d := d) (by omega)]
    refine aS (aR ?_)
    (refine nx (aA (gN rfl) rfl rfl rfl rfl rfl) rfl ?_)
    show AWp _ _ _ _ _ _ _
    exact aT (And.intro (.inr rfl) rfl)
  have hll : c.length = d.length := by
    have := of_decide_eq_false h
    simp only [List.length_map, ne_eq, Decidable.not_not] at this
    omega
  refine aK ?_
  show AWp _ _ _ _ _ _ _
  refine aS (aS (aR ?_))
  (refine nx (aM (gN rfl) rfl rfl rfl rfl rfl) rfl ?_)
  (refine nx (a_len (gN rfl) rfl rfl rfl rfl rfl rfl rfl) rfl ?_)
  (refine nx (aM (gN rfl) rfl rfl rfl rfl rfl) rfl ?_)
  show AWp _ _ _ _ _ _ _
  refine aB (awp_countI c.length (fun k => ∀ (i : Nat) (x y : Lt), i < k → c[i]? = some x → d[i]? = some y → p x y = true) (fun k => [(1, .val (.lst (d.map Lt.cv))), (2, .val fc), (15, .val (.lst (c.map Lt.cv))), (16, .val (.i (c.map Lt.cv).length)), (17, .val (.i k))]) (wk_sub ⟨rfl, rfl, rfl, rfl, rfl, trivial⟩) (fun i _ _ hi => by omega) ?_)
  intro k hk hI
  refine aS (aR ?_)
  (refine nx (a_lss (gN rfl) rfl rfl rfl rfl rfl rfl) rfl ?_)
  show AWp _ _ _ _ _ _ _
  refine aS (aC rfl (fun hlt => ?_) (fun hlt => ?_))
  · have hkl : k < c.length := by simpa using hlt
    obtain ⟨x, hx⟩ : ∃ x, c[k]? = some x := ⟨c[k], List.getElem?_eq_getElem hkl⟩
    obtain ⟨y, hy⟩ : ∃ y, d[k]? = some y := ⟨d[k]'(by omega), List.getElem?_eq_getElem (by omega)⟩
    have hx' := Lt.map_at hx
    have hy' := Lt.map_at hy
    refine aK ?_
    show AWp _ _ _ _ _ _ _
    refine aS (aB (aS (aR ?_)))
    (refine nx (aM (gN rfl) rfl rfl rfl rfl rfl) rfl ?_)
    (refine nx (a_index (j := k) (gN rfl) rfl rfl rfl rfl rfl rfl rfl rfl rfl (hx') rfl (hs1)) rfl ?_)
    (refine nx (a_load_ad (gN rfl) rfl rfl rfl rfl rfl rfl rfl rfl rfl) rfl ?_)
    (refine nx (a_alloc (gN rfl) rfl rfl rfl rfl rfl rfl rfl rfl rfl rfl) rfl ?_)
    (refine nx (aA (gN rfl) rfl rfl rfl rfl rfl) rfl ?_)
    (refine nx (aSt (gN rfl) rfl rfl rfl rfl rfl rfl rfl rfl rfl rfl) rfl ?_)
    show AWp _ _ _ _ _ _ _
    refine aS (aR ?_)
    (refine nx (aM (gN rfl) rfl rfl rfl rfl rfl) rfl ?_)
    (refine nx (aM (gN rfl) rfl rfl rfl rfl rfl) rfl ?_)
    (refine nx (a_index (j := k) (gN rfl) rfl rfl rfl rfl rfl rfl rfl rfl rfl (hy') rfl (hs2)) rfl ?_)
    (refine nx (a_load_ad (gN rfl) rfl rfl rfl rfl rfl rfl rfl rfl rfl) rfl ?_)
    (refine nx (a_alloc (gN rfl) rfl rfl rfl rfl rfl rfl rfl rfl rfl rfl) rfl ?_)
    (refine nx (aSt (gN rfl) rfl rfl rfl rfl rfl rfl rfl rfl rfl rfl) rfl ?_)
    show AWp _ _ _ _ _ _ _
    refine aS (aR ?_)
    (refine nx (aM (gN rfl) rfl rfl rfl rfl rfl) rfl ?_)
    (refine nx (aL (gN rfl) rfl rfl rfl rfl rfl rfl rfl rfl rfl rfl rfl rfl) rfl ?_)
    (refine nx (aL (gN rfl) rfl rfl rfl rfl rfl rfl rfl rfl rfl rfl rfl rfl) rfl ?_)
    (refine nx (a_callw (gN rfl) rfl rfl rfl rfl rfl rfl (hc w x (List.mem_of_getElem? hx) y (List.mem_of_getElem? hy))) rfl ?_)
    (refine nx (a_not (gN rfl) rfl rfl rfl rfl rfl) rfl ?_)
    show AWp _ _ _ _ _ _ _
    refine aC rfl (fun hq => ?_) (fun hq => ?_)
    · rw [eqF_no hx hy (by simpa using hq)]
      refine aS (aR ?_)
      (refine nx (aA (gN rfl) rfl rfl rfl rfl rfl) rfl ?_)
      show AWp _ _ _ _ _ _ _
      exact aT (And.intro (.inr rfl) rfl)
    · have hq : p x y = true := by simpa using hq
      refine aK ?_
      show AWp _ _ _ _ _ _ _
      refine aR ?_
      (refine nx (a_add (gN rfl) rfl rfl rfl rfl rfl rfl (by first | omega | (simp only [List.length_map, List.length_append, List.length_cons, List.length_nil] <;> omega) | (simp <;> omega))) rfl ?_)
      (refine nx (aM (gN rfl) rfl rfl rfl rfl rfl) rfl ?_)
      refine ⟨hkl, fun i a b hi h1 h2 => ?_, wk_sub ⟨rfl, rfl, rfl, rfl, rfl, trivial⟩⟩
      rcases Nat.lt_or_ge i k with h3 | h3
      · exact hI i a b h3 h1 h2
      · have : i = k := by omega
        subst this
        rw [hx] at h1
        rw [hy] at h2
        cases h1
        cases h2
        exact hq
  · have hkl : k = c.length := by
      have : ¬ k < c.length := by simpa using hlt
      omega
    subst hkl
    rw [eqF_yes hll fun i x y h1 h2 => hI i x y (by have := (List.getElem?_eq_some_iff.1 h1).1; omega) h1 h2]
    refine aE ?_
    show AWp _ _ _ _ _ _ _
    refine aS (aR ?_)
    (refine nx (aA (gN rfl) rfl rfl rfl rfl rfl) rfl ?_)
    show AWp _ _ _ _ _ _ _
    exact aT (And.intro (.inr rfl) rfl)
-- 
set_option maxHeartbeats 1000000 in
theorem variantM_abs (W : World) (a b : Tm) (ha : a.rng) (hb : b.rng) (hok : a.ok) (has : a.size ≤ 90000000000) (hbs : b.size ≤ 90000000000) (hnl : a.nv.length ≤ 1000000) (hnb : b.nv.length ≤ 1000000) : AFun Tryz.prog W 44 [a.cw, b.cw] (.val (.b (vntB a b))) := by
  refine afun_of (rs := [.b (vntB a b)]) Tryz.func44 Tryz.ntmps44 rfl rfl rfl rfl ?_
  intro w U hW
  have hV1 := vars_abs w ha (by omega)
  have hV2 := vars_abs w hb (by omega)
  rw [nv_vars] at hV1 hV2
  refine aS (aR ?_)
  (refine nx (a_box (gN rfl) rfl rfl rfl rfl rfl) rfl ?_)
  (refine nx (a_box (gN rfl) rfl rfl rfl rfl rfl) rfl ?_)
  (refine nx (aA (gN rfl) rfl rfl rfl rfl rfl) rfl ?_)
  show AWp _ _ _ _ _ _ _
  refine aS (aD (by kernel_rfl) (by kernel_rfl) ?_)
  (refine nx (aL (gN rfl) rfl rfl rfl rfl rfl rfl rfl rfl rfl rfl rfl rfl) rfl ?_)
  (refine nx (a_call (gN rfl) rfl rfl rfl rfl rfl (hV1)) rfl ?_)
  (refine nx (aL (gN rfl) rfl rfl rfl rfl rfl rfl rfl rfl rfl rfl rfl rfl) rfl ?_)
  (refine nx (a_call (gN rfl) rfl rfl rfl rfl rfl (hV2)) rfl ?_)
  (refine nx (aA (gN rfl) rfl rfl rfl rfl rfl) rfl ?_)
  (refine nx (aA (gN rfl) rfl rfl rfl rfl rfl) rfl ?_)
  refine ⟨by kernel_rfl, ?_⟩
  show AWp _ _ _ _ _ _ _
  have hur := nv_rng hb
  unfold vntB
  obtain ⟨l, hl⟩ : ∃ l, l = a.nv := ⟨_, rfl⟩
  obtain ⟨m, hm⟩ : ∃ m, m = b.nv := ⟨_, rfl⟩
  rw [← hl] at hnl ⊢
  rw [← hm] at hnb hur ⊢
  have hsz := ints_size l
  have hsm := ints_size m
  refine aS (aS (aR ?_))
  (refine nx (aM (gN rfl) rfl rfl rfl rfl rfl) rfl ?_)
  (refine nx (a_len (gN rfl) rfl rfl rfl rfl rfl rfl rfl) rfl ?_)
  (refine nx (aM (gN rfl) rfl rfl rfl rfl rfl) rfl ?_)
  (refine nx (a_len (gN rfl) rfl rfl rfl rfl rfl rfl rfl) rfl ?_)
  (refine nx (a_neq (gN rfl) rfl rfl rfl rfl rfl rfl) rfl ?_)
  show AWp _ _ _ _ _ _ _
  refine aC rfl (fun hc => ?_) (fun hc => aK ?_)
  · have hne : ¬ l.length = m.length := by
      simp only [List.length_map] at hc
      simp at hc
      omega
    rw [show decide (l.length = m.length) = false by simpa using hne, Bool.false_and]
    refine aS (aR ?_)
    (refine nx (aA (gN rfl) rfl rfl rfl rfl rfl) rfl ?_)
    show AWp _ _ _ _ _ _ _
    exact aT (And.intro (.inr rfl) rfl)
  have he : l.length = m.length := by
    simp only [List.length_map] at hc
    simp at hc
    omega
  clear hc
  rw [show decide (l.length = m.length) = true by simpa using he, Bool.true_and]
  obtain ⟨z, hz⟩ : ∃ z, z = zipB l m := ⟨_, rfl⟩
  have hzl : z.length = l.length := by rw [hz]; exact zip_len he
  have hzz := fun k => Bd.size_all (z.take k)
  have hzo : bdsOk z := fun x hx => by
    rw [hz] at hx
    obtain ⟨u, hu, e⟩ := zip_mem hx
    rw [e]
    exact ⟨varT_rng (hur u hu).1 (hur u hu).2, by rw [varT_size]; omega⟩
  rw [← hz]
  show AWp _ _ _ _ _ _ _
  refine aS (aR ?_)
  (refine nx (aA (gN rfl) rfl rfl rfl rfl rfl) rfl ?_)
  show AWp _ _ _ _ _ _ _
  refine aS (aS (aR ?_))
  (refine nx (aM (gN rfl) rfl rfl rfl rfl rfl) rfl ?_)
  (refine nx (a_len (gN rfl) rfl rfl rfl rfl rfl rfl rfl) rfl ?_)
  (refine nx (aM (gN rfl) rfl rfl rfl rfl rfl) rfl ?_)
  show AWp _ _ _ _ _ _ _
  refine aB (awp_count l.length (fun k => [(2, .bp 2 0 []), (100002, .bx a.cw), (3, .bp 3 0 []), (100003, .bx b.cw), (6, .val (.lst (m.map CV.i))), (7, .own (.lst ((z.take k).map Bd.cv)) 200035), (200035, .tok 99 3), (19, .val (.lst (l.map CV.i))), (20, .val (.i (l.map CV.i).length)), (21, .val (.i k))])
    ((wk_nil 7 200035 99 3 rfl rfl rfl rfl rfl rfl rfl).trans (wk_sub ⟨rfl, rfl, rfl, rfl, rfl, rfl, rfl, rfl, rfl, rfl, trivial⟩)) ?_)
  intro k hk
  refine aS (aR ?_)
  (refine nx (a_lss (gN rfl) rfl rfl rfl rfl rfl rfl) rfl ?_)
  show AWp _ _ _ _ _ _ _
  refine aS (aC rfl (fun hc => aK ?_) (fun hc => aE ?_))
  · have hkl : k < l.length := by
      simp only [List.length_map, decide_eq_true_eq] at hc
      omega
    clear hc
    obtain ⟨v, hv⟩ : ∃ v, l[k]? = some v := ⟨l[k], List.getElem?_eq_getElem hkl⟩
    obtain ⟨u, hu⟩ : ∃ u, m[k]? = some u := ⟨m[k], List.getElem?_eq_getElem (by omega)⟩
    have hv' := ints_at hv
    have hu' := ints_at hu
    have hub := hur u (List.mem_of_getElem? hu)
    have hzk : z[k]? = some ⟨v, varT u⟩ := by rw [hz]; exact zip_at hv hu
    show AWp _ _ _ _ _ _ _
    refine aS (aB (aS (aR ?_)))
    (refine nx (aM (gN rfl) rfl rfl rfl rfl rfl) rfl ?_)
    (refine nx (a_index (gN rfl) rfl rfl rfl rfl rfl rfl rfl rfl rfl (by assumption) rfl (by first | assumption | exact sZ rfl | exact Tm.size_all _ | exact Bd.size_all _ | exact ints_size _ | exact bys_size _ | exact Lt.size_all _)) rfl ?_)
    (refine nx (a_load_ad (gN rfl) rfl rfl rfl rfl rfl rfl rfl rfl rfl) rfl ?_)
    (refine nx (aA (gN rfl) rfl rfl rfl rfl rfl) rfl ?_)
    (refine nx (aA (gN rfl) rfl rfl rfl rfl rfl) rfl ?_)
    show AWp _ _ _ _ _ _ _
    refine aR ?_
    (refine nx (aM (gN rfl) rfl rfl rfl rfl rfl) rfl ?_)
    (refine nx (aM (gN rfl) rfl rfl rfl rfl rfl) rfl ?_)
    (refine nx (aM (gN rfl) rfl rfl rfl rfl rfl) rfl ?_)
    (refine nx (aM (gN rfl) rfl rfl rfl rfl rfl) rfl ?_)
    (refine nx (a_index (gN rfl) rfl rfl rfl rfl rfl rfl rfl rfl rfl (by assumption) rfl (by first | assumption | exact sZ rfl | exact Tm.size_all _ | exact Bd.size_all _ | exact ints_size _ | exact bys_size _ | exact Lt.size_all _)) rfl ?_)
    (refine nx (a_load_ad (gN rfl) rfl rfl rfl rfl rfl rfl rfl rfl rfl) rfl ?_)
    (refine nx (a_call (gN rfl) rfl rfl rfl rfl rfl (sVariable_abs w u hub.1 hub.2)) rfl ?_)
    (refine nx (a_build (gN rfl) rfl rfl rfl rfl rfl rfl rfl rfl rfl rfl rfl) rfl ?_)
    (refine nx (a_bslice (gN rfl) rfl rfl rfl rfl rfl rfl rfl rfl rfl rfl rfl rfl rfl) rfl ?_)
    (refine nx (a_app (gN rfl) rfl rfl rfl rfl rfl rfl rfl rfl rfl rfl rfl rfl rfl rfl rfl (by first | assumption | exact sZ rfl | exact Tm.size_all _ | exact Bd.size_all _ | exact ints_size _ | exact bys_size _ | exact Lt.size_all _) (by first | assumption | exact sZ rfl | exact Tm.size_all _ | exact Bd.size_all _ | exact ints_size _ | exact bys_size _ | exact Lt.size_all _) (by first | omega | (simp only [List.length_map, List.length_append, List.length_cons, List.length_nil] <;> omega) | (simp <;> omega))) rfl ?_)
    (refine nx (aA (gN rfl) rfl rfl rfl rfl rfl) rfl ?_)
    show AWp _ _ _ _ _ _ _
    refine aR ?_
    (refine nx (a_add (gN rfl) rfl rfl rfl rfl rfl rfl (by first | omega | (simp only [List.length_map, List.length_append, List.length_cons, List.length_nil] <;> omega) | (simp <;> omega))) rfl ?_)
    (refine nx (aM (gN rfl) rfl rfl rfl rfl rfl) rfl ?_)
    refine ⟨hkl, Wk.trans (wk_sub (s' := [(2, .bp 2 0 []), (100002, .bx a.cw), (3, .bp 3 0 []), (100003, .bx b.cw), (6, .val (.lst (m.map CV.i))), (7, .own (.lst ((z.take (k + 1)).map Bd.cv)) 300035), (300035, .tok 99 3), (19, .val (.lst (l.map CV.i))), (20, .val (.i (l.map CV.i).length)), (21, .val (.i ((k + 1 : Nat) : Int)))]) ⟨rfl, rfl, rfl, rfl, rfl, ?_, rfl, rfl, rfl, rfl, trivial⟩) (wk_ren 300035 200035 rfl rfl rfl rfl)⟩
    rw [List.take_add_one, hzk, List.map_append]
    rfl
  · have hkl : k = z.length := by
      simp only [List.length_map, decide_eq_false_iff_not] at hc
      omega
    subst hkl
    rw [List.take_length]
    show AWp _ _ _ _ _ _ _
    refine aS (aD (by kernel_rfl) (by kernel_rfl) ?_)
    (refine nx (aM (gN rfl) rfl rfl rfl rfl rfl) rfl ?_)
    (refine nx (aL (gN rfl) rfl rfl rfl rfl rfl rfl rfl rfl rfl rfl rfl rfl) rfl ?_)
    (refine nx (a_call (gN rfl) rfl rfl rfl rfl rfl (applyG_abs w z a (by omega) hzo ha hok)) rfl ?_)
    (refine nx (aL (gN rfl) rfl rfl rfl rfl rfl rfl rfl rfl rfl rfl rfl rfl) rfl ?_)
    (refine nx (a_call (gN rfl) rfl rfl rfl rfl rfl (same_abs w (repT_rng ha fun v h1 h2 => (imgB_ok hzo h1 h2).1) hb)) rfl ?_)
    (refine nx (aA (gN rfl) rfl rfl rfl rfl rfl) rfl ?_)
    refine ⟨by kernel_rfl, ?_⟩
    show AWp _ _ _ _ _ _ _
    exact aT (And.intro (.inr rfl) rfl)


def okCl (c : List Lt) : Prop := c.length ≤ 12 ∧ ∀ l ∈ c, (l.a.rng ∧ l.a.ok ∧ l.a.size ≤ 1000) ∧ (l.b.rng ∧ l.b.ok ∧ l.b.size ≤ 1000)
theorem sidL_mem {c : List Lt} {s : Tm} : s ∈ sidL c ↔ ∃ l ∈ c, s = l.a ∨ s = l.b := by
  unfold sidL
  rw [List.mem_flatMap]
  constructor
  · rintro ⟨l, hl, h⟩
    exact ⟨l, hl, by simpa using h⟩
  · rintro ⟨l, hl, h⟩
    exact ⟨l, hl, by simpa using h⟩
theorem okCl.sid {c : List Lt} (h : okCl c) : (sidT c).rng ∧ (sidT c).ok ∧ (sidT c).size ≤ 24001 := by
  have hm : ∀ s ∈ sidL c, s.rng ∧ s.ok ∧ s.size ≤ 1000 := fun s hs => by
    obtain ⟨l, hl, e⟩ := sidL_mem.1 hs
    rcases e with rfl | rfl
    · exact (h.2 l hl).1
    · exact (h.2 l hl).2
  have hl := sidL_len c
  have h1 := h.1
  refine ⟨(Tm.rng_iff _).2 ⟨by show _ ≤ (0 : Int) ∧ (0 : Int) ≤ _; omega, fun s hs => (hm s hs).1⟩, (Tm.ok_iff _).2 ⟨by show (sidL c).length ≤ _; omega, fun s hs => (hm s hs).2.1⟩, ?_⟩
  rw [Tm.size_sym (show ¬ (sidT c).f < 0 by show ¬ (0 : Int) < 0; decide)]
  show 1 + ((sidL c).map Tm.size).sum ≤ _
  have : ∀ L : List Tm, (∀ s ∈ L, s.size ≤ 1000) → (L.map Tm.size).sum ≤ 1000 * L.length := fun L => by
    induction L with
    | nil => intro _; exact Nat.zero_le _
    | cons x L ih =>
      intro g
      rw [List.map_cons, List.sum_cons, List.length_cons]
      have a1 := g x (by simp)
      have a2 := ih fun s hs => g s (List.mem_cons_of_mem _ hs)
      omega
  have := this (sidL c) fun s hs => (hm s hs).2.2
  omega
theorem okCl.nv {c : List Lt} (h : okCl c) : (sidT c).nv.length ≤ 24001 := Nat.le_trans (nv_len _) h.sid.2.2
theorem okCl.rng {c : List Lt} (h : okCl c) : ∀ l ∈ c, l.rng := fun l hl => ⟨(h.2 l hl).1.1, (h.2 l hl).2.1⟩
theorem okCl.ok {c : List Lt} (h : okCl c) : ∀ l ∈ c, l.a.ok ∧ l.b.ok := fun l hl => ⟨(h.2 l hl).1.2.1, (h.2 l hl).2.2.1⟩
def Lt.z : Lt := ⟨false, ⟨0, []⟩, ⟨0, []⟩⟩
noncomputable abbrev ltZ : CV := .row [.b false, .row [.i 0, .lst []], .row [.i 0, .lst []]]
def bndV (c : List Lt) (g : Int → Int) : List Bd := zipB (sidT c).nv ((nums (sidT c).nv.length).map g)
end Go.Proofs.YtglmoficcjphaaaGreat
namespace Go.Proofs.YtglmoficcjphaaaGreat
open Go.RowKit
set_option linter.unusedVariables false
set_option linter.unusedSimpArgs false
section
variable {P : Program} {w0 : World} {U0 : UX} {nt : Nat} {s : AS}

theorem wk_nilF (k n e0 z : Nat) (hk : Nat.ble 500000 k = true) (hn : (Nat.ble 200000 n && Nat.blt n 400000) = true) (hz : Nat.blt 0 z = true) (hs : look s k = some ⟨0, .lst [], 1, 0, []⟩) (hr : noRefB s [(n, [])] = true) (hnk : noKey s n = true) : Wk w0 U0 nt s ((k, .sl n 0 0 z) :: (n, .mrow e0 z []) :: s) := by
  rintro a w ⟨D, hv, h⟩
  have hk5 := Nat.le_of_ble_eq_true hk
  have hrn := rnB hn
  have hrn' : RN n := RW.rn hrn
  unfold RW at hrn
  have hnk' : look s n = none := by
    cases e : look s n with
    | none => rfl
    | some av =>
      unfold noKey at hnk
      rw [List.all_eq_true] at hnk
      have := hnk _ (look_mem e)
      simp [Nat.beq_refl] at this
  have hnr : NoRef s n := (noRefB_spec hr (n, []) (by simp)).nr
  obtain ⟨hv', hhv⟩ : ∃ hv' : Nat → Value, hv' = fun x => if x = n then .slice none 0 0 else hv x := ⟨_, rfl⟩
  have hvn : ∀ x, x ≠ n → hv' x = hv x := fun x hx => by rw [hhv]; simp only [if_neg hx]
  have hvd : hv' n = .slice none 0 0 := by rw [hhv]; simp
  obtain ⟨s', hs'⟩ : ∃ s', s' = (k, AV.sl n 0 0 z) :: (n, AV.mrow e0 z []) :: s := ⟨_, rfl⟩
  rw [← hs']
  have hlk : ∀ x, x ≠ k → x ≠ n → look s' x = look s x := fun x h1 h2 => by rw [hs', lN (Ne.symm h1), lN (Ne.symm h2)]
  have hlkk : look s' k = some (.sl n 0 0 z) := by rw [hs', lS]
  have hlkn : look s' n = some (.mrow e0 z []) := by rw [hs', lN (by omega), lS]
  have hl : ∀ q e, Live s' q e ↔ Live s q e := fun q e => by
    unfold Live
    by_cases e1 : q = k
    · omega
    · by_cases e2 : q = n
      · subst e2
        rw [hlkn, hnk']
        constructor <;> (rintro ⟨h1, _⟩; cases h1)
      · rw [hlk q e1 e2]
  have hl2 : LiveN s' = LiveN s := by funext q; simp only [LiveN, hl]
  have hmv : ∀ {k' av v}, look s k' = some av → AVRep (Us w0 U0 D) w hv (LiveN s) av v → AVRep (Us w0 U0 D) w hv' (LiveN s) av v := fun {k' av v} h1 h2 =>
    h2.move (fun _ _ _ h1 h2 => ⟨h1, h2⟩) (fun _ h => h) fun h3 => hvn _ (hk_ne_row hrn' (hnr k' av h1).1 h3)
  refine ⟨D, hv', h.below, h.dfr, h.size, fun d av g1 g2 => ?_, fun m o av g1 g2 g3 g4 => ?_, fun m o o' av av' g1 g2 g3 g4 g5 => ?_, fun k' av g1 g2 => ?_, fun k' av g g1 g2 g3 g4 => ?_, fun k' k2 av av' g g1 g2 g3 g4 g5 g6 g7 g8 => ?_, fun k' v g1 => ?_, h.dlt⟩
  · rw [hlk d (by omega) (by omega)] at g1
    rw [hl2]
    obtain ⟨v, h1, h2⟩ := h.slot d av g1 g2
    exact ⟨v, h1, hmv g1 h2⟩
  · have hbk := bn_okey g4
    unfold oKey at hbk
    unfold BN at g4
    rw [hlk (100000 + m) (by omega) (by omega)] at g3
    rw [hl2, hvn (100000 + m) (by omega)]
    by_cases e : fKey m o = k
    · rw [e, hlkk] at g1
      cases g1
      obtain ⟨v, h1, h2, h3⟩ := h.fld m o _ (by rw [e]; exact hs) g2 g3 g4
      have hv0 : v = .slice none 0 0 := by
        obtain ⟨q1, q2⟩ : VRep (Us w0 U0 D) w (.lst []) v ∧ Tk hv (LiveN s) ⟨0, .lst [], 1, 0, []⟩ v.cells.toList := h1
        obtain ⟨mm, c, f1, f2⟩ := q2 (.inl rfl)
        simp only at f1
        rw [at_nil] at f1
        cases f1
        obtain ⟨ao, k, c, e1, _⟩ := vrep_lst.1 q1
        rw [e1] at f2 ⊢
        simpa [Value.cells, tokv] using f2
      subst hv0
      refine ⟨.slice none 0 0, ⟨hrn', ?_⟩, rfl, h3⟩
      show SlV (hv' n) 0 0 z (.slice none 0 0)
      rw [hvd]
      exact slV_all rfl (Nat.le_refl _) (.inl rfl)
    · rw [hlk _ e (by unfold fKey; omega)] at g1
      obtain ⟨v, h1, h2, h3⟩ := h.fld m o av g1 g2 g3 g4
      exact ⟨v, hmv g1 h1, h2, h3⟩
  · have conv : ∀ o (av : AV), look s' (fKey m o) = some av → ∃ av', look s (fKey m o) = some av' ∧ av'.sz = av.sz := fun o av f1 => by
      by_cases e : fKey m o = k
      · rw [e, hlkk] at f1
        cases f1
        exact ⟨⟨0, .lst [], 1, 0, []⟩, by rw [e]; exact hs, rfl⟩
      · rw [hlk _ e (by unfold fKey; omega)] at f1
        exact ⟨av, f1, rfl⟩
    obtain ⟨a1, b1, c1⟩ := conv o av g1
    obtain ⟨a2, b2, c2⟩ := conv o' av' g2
    rw [← c1]
    exact h.fdis m o o' a1 a2 b1 b2 g3 g4 g5
  · unfold oKey at g2
    rw [hl2]
    by_cases e : k' = n
    · subst e
      rw [hlkn] at g1
      cases g1
      rw [hvd]
      exact ⟨[], World.ownsRow_nil _ _ _ _, bL hz, (fun c hc => by cases hc), rfl⟩
    · rw [hlk k' (by omega) e] at g1
      rw [hvn k' e]
      exact (h.obj k' av g1 g2).move (fun _ _ _ h1 h2 => ⟨h1, h2⟩) (fun ht hl => ⟨hl, by
        unfold tokv
        rw [hvn _ (hnr k' av g1).1]⟩) (fun _ _ => rfl)
  · unfold oKey at g2
    by_cases e : k' = n
    · subst e
      rw [hvd] at g4
      cases g4
    · rw [hlk k' (by omega) e] at g1
      rw [hvn k' e] at g4 ⊢
      exact h.blk k' av g g1 g2 g3 g4
  · unfold oKey at g3 g4
    by_cases e : k' = n
    · subst e
      rw [hvd] at g8
      cases g8
    · by_cases e2 : k2 = n
      · subst e2
        rw [hvd]
        intro h9; cases h9
      · rw [hlk k' (by omega) e] at g1
        rw [hlk k2 (by omega) e2] at g2
        rw [hvn k' e] at g8
        rw [hvn k2 e2]
        exact h.disj k' k2 av av' g g1 g2 g3 g4 g5 g6 g7 g8
  · have := U0.hf k' v g1
    rw [hvn k' (by omega)]
    exact h.fix k' v g1
end
end Go.Proofs.YtglmoficcjphaaaGreat
namespace Go.Proofs.YtglmoficcjphaaaGreat
open Go.RowKit
set_option linter.unusedVariables false
set_option linter.unusedSimpArgs false
set_option maxRecDepth 100000
theorem concat2_abs (W : World) (x y : List Lt) (hl : x.length + y.length ≤ 1000000) : AFun Tryz.prog W 51 [.lst [.lst (x.map Lt.cv), .lst (y.map Lt.cv)]] (.val (.lst ((x ++ y).map Lt.cv))) := by
  have h := concatL_abs W [x, y] (by simp) (by simp; omega)
  have e : [x, y].flatten = x ++ y := by simp
  rw [e] at h
  exact h
-- 
theorem eOthers_abs (W : World) (c : List Lt) (n : Nat) (hn : n < c.length) (hl : c.length ≤ 100000) : AFun Tryz.prog W 29 [.lst (c.map Lt.cv), .i (n : Int)] (.val (.lst ((offL c n).map Lt.cv))) := by
  have hsz := Lt.size_all c
  have hc2 := fun w => concat2_abs w (c.take n) (c.drop (n + 1)) (by rw [List.length_take, List.length_drop]; omega)
  rw [List.map_take, List.map_drop] at hc2
  have hlen : (c.map Lt.cv).length = c.length := List.length_map ..
  refine afun_of (rs := [.lst ((offL c n).map Lt.cv)]) Tryz.func29 Tryz.ntmps29 rfl rfl rfl rfl ?_
  intro w U hW
  refine aS (aR ?_)
  (refine nx (aA (gN rfl) rfl rfl rfl rfl rfl) rfl ?_)
  show AWp _ _ _ _ _ _ _
  refine aS (aD (by kernel_rfl) (by kernel_rfl) ?_)
  (refine nx (aM (gN rfl) rfl rfl rfl rfl rfl) rfl ?_)
  (refine nx (aM (gN rfl) rfl rfl rfl rfl rfl) rfl ?_)
  (refine nx (a_upto (gN rfl) rfl rfl rfl rfl rfl rfl rfl rfl rfl (by omega) (by first | assumption | exact sZ rfl | exact Tm.size_all _ | exact Bd.size_all _ | exact ints_size _ | exact bys_size _ | exact Lt.size_all _)) rfl ?_)
  (refine nx (aM (gN rfl) rfl rfl rfl rfl rfl) rfl ?_)
  (refine nx (aM (gN rfl) rfl rfl rfl rfl rfl) rfl ?_)
  (refine nx (a_add (gN rfl) rfl rfl rfl rfl rfl rfl (by first | omega | (simp only [List.length_map, List.length_append, List.length_cons, List.length_nil] <;> omega) | (simp <;> omega))) rfl ?_)
  (refine nx (a_from (lo := n + 1) (gN rfl) rfl rfl rfl rfl rfl rfl rfl rfl rfl (by omega) (by first | assumption | exact sZ rfl | exact Tm.size_all _ | exact Bd.size_all _ | exact ints_size _ | exact bys_size _ | exact Lt.size_all _)) rfl ?_)
  (refine nx (a_bslice (gN rfl) rfl rfl rfl rfl rfl rfl rfl rfl rfl rfl rfl rfl rfl) rfl ?_)
  (refine nx (a_call (gN rfl) rfl rfl rfl rfl rfl (hc2 w)) rfl ?_)
  (refine nx (aA (gN rfl) rfl rfl rfl rfl rfl) rfl ?_)
  refine ⟨by kernel_rfl, ?_⟩
  show AWp _ _ _ _ _ _ _
  exact aT (And.intro (.inr rfl) rfl)
-- 
theorem eLeads_abs (W : World) (l : Lt) (ha : l.a.rng ∧ l.a.ok ∧ l.a.size ≤ 29550) (hb : l.b.rng ∧ l.b.ok ∧ l.b.size ≤ 29550) : AFun Tryz.prog W 56 [l.cw] (.val (.b (leadB l.a l.b))) := by
  have hk := fun w => kCmp_abs w l.a l.b ha.1 ha.2.1 (by omega) hb.1 hb.2.1 (by omega)
  obtain ⟨k, hkk⟩ : ∃ k, k = kb l.a l.b := ⟨_, rfl⟩
  have he : leadB l.a l.b = decide (k = 1 ∨ k = 2) := by rw [hkk]; rfl
  rw [← hkk] at hk
  rw [he]
  refine afun_of (rs := [.b (decide (k = 1 ∨ k = 2))]) Tryz.func56 Tryz.ntmps56 rfl rfl rfl rfl ?_
  intro w U hW
  refine aS (aR ?_)
  (refine nx (a_box (gN rfl) rfl rfl rfl rfl rfl) rfl ?_)
  (refine nx (aA (gN rfl) rfl rfl rfl rfl rfl) rfl ?_)
  show AWp _ _ _ _ _ _ _
  refine aS (aR ?_)
  (refine nx (aF (gN rfl) rfl rfl rfl rfl rfl rfl rfl rfl rfl) rfl ?_)
  (refine nx (aLb (gN rfl) rfl rfl rfl rfl rfl rfl rfl rfl rfl rfl rfl rfl) rfl ?_)
  (refine nx (aF (gN rfl) rfl rfl rfl rfl rfl rfl rfl rfl rfl) rfl ?_)
  (refine nx (aLb (gN rfl) rfl rfl rfl rfl rfl rfl rfl rfl rfl rfl rfl rfl) rfl ?_)
  (refine nx (a_call (gN rfl) rfl rfl rfl rfl rfl (hk w)) rfl ?_)
  (refine nx (aA (gN rfl) rfl rfl rfl rfl rfl) rfl ?_)
  show AWp _ _ _ _ _ _ _
  by_cases h1 : k = 1
  · have g : decide (k = 1) = true := decide_eq_true h1
    rw [decide_eq_true (Or.inl h1)]
    refine aS (aR ?_)
    (refine nx (aM (gN rfl) rfl rfl rfl rfl rfl) rfl ?_)
    (refine nx (a_eql (gN rfl) rfl rfl rfl rfl rfl rfl) rfl ?_)
    (refine nx (aM (gN rfl) rfl rfl rfl rfl rfl) rfl ?_)
    (refine ⟨_, _, _, a_off (go_off rfl rfl rfl rfl (by first | rfl | assumption | (simp; done) | (simp [*]; done))) rfl rfl rfl, rfl, ?_⟩)
    (refine ⟨_, _, _, a_off (go_off rfl rfl rfl rfl (by first | rfl | assumption | (simp; done) | (simp [*]; done))) rfl rfl rfl, rfl, ?_⟩)
    (refine ⟨_, _, _, aPt (gN rfl) rfl rfl rfl rfl rfl ?hb rfl, rfl, ?_⟩; case hb => (first | rfl | assumption | (simp; done)))
    (refine nx (aA (gN rfl) rfl rfl rfl rfl rfl) rfl ?_)
    show AWp _ _ _ _ _ _ _
    exact aT (And.intro (.inr rfl) rfl)
  · have g : decide (k = 1) = false := decide_eq_false h1
    have e : decide (k = 1 ∨ k = 2) = decide (k = 2) := by simp [h1]
    rw [e]
    refine aS (aR ?_)
    (refine nx (aM (gN rfl) rfl rfl rfl rfl rfl) rfl ?_)
    (refine nx (a_eql (gN rfl) rfl rfl rfl rfl rfl rfl) rfl ?_)
    (refine nx (aM (gN rfl) rfl rfl rfl rfl rfl) rfl ?_)
    (refine nx (aM (gd_on rfl rfl rfl rfl (by first | rfl | assumption | (simp; done))) rfl rfl rfl rfl rfl) rfl ?_)
    (refine nx (a_eql (gd_on rfl rfl rfl rfl (by first | rfl | assumption | (simp; done))) rfl rfl rfl rfl rfl rfl) rfl ?_)
    (refine ⟨_, _, _, aPf (gN rfl) rfl rfl rfl rfl rfl ?hb rfl, rfl, ?_⟩; case hb => (first | rfl | assumption | (simp; done)))
    (refine nx (aA (gN rfl) rfl rfl rfl rfl rfl) rfl ?_)
    show AWp _ _ _ _ _ _ _
    exact aT (And.intro (.inr rfl) rfl)
theorem sid_fit {c : List Lt} (hl : c.length ≤ 100000) (h : ∀ l ∈ c, (l.a.rng ∧ l.a.ok) ∧ l.b.rng ∧ l.b.ok) : (⟨0, sidL c⟩ : Tm).rng ∧ (⟨0, sidL c⟩ : Tm).ok := by
  have hm : ∀ s ∈ sidL c, s.rng ∧ s.ok := fun s hs => by
    obtain ⟨l, hl, e⟩ := sidL_mem.1 hs
    rcases e with rfl | rfl
    · exact (h l hl).1
    · exact (h l hl).2
  have hlen := sidL_len c
  exact ⟨(Tm.rng_iff _).2 ⟨by show _ ≤ (0 : Int) ∧ (0 : Int) ≤ _; omega, fun s hs => (hm s hs).1⟩, (Tm.ok_iff _).2 ⟨by show (sidL c).length ≤ _; omega, fun s hs => (hm s hs).2⟩⟩
theorem ten_fit {c : List Lt} (h : ∀ l ∈ c, l.ten) : ∀ l ∈ c, (l.a.rng ∧ l.a.ok) ∧ l.b.rng ∧ l.b.ok := fun l hl => ⟨(h l hl).1.1, (h l hl).2.1⟩
theorem eApply_abs (W : World) {a b : Tm} (ha : a.ten) (hb : b.ten) (c : List Lt) (hl : c.length ≤ 100000) (hc : ∀ l ∈ c, (l.a.rng ∧ l.a.ok) ∧ l.b.rng ∧ l.b.ok) : AFun Tryz.prog W 28 [.lst ((mgT a b).1.map Bd.cv), .lst (c.map Lt.cv)] (.val (.lst ((c.map (Lt.rep (mgS a b))).map Lt.cv))) := by
  have hT := mg_told ha hb
  obtain ⟨h1, h2⟩ := sid_fit hl hc
  exact cApply_abs W (mgT a b).1 c (by omega) (by have := hT.len; omega) hT.bdsOk h1 h2
theorem eUnify_abs (W : World) {a b : Tm} (ha : a.ten) (hb : b.ten) : AFun Tryz.prog W 27 [a.cw, b.cw] (.tup [.lst ((mgT a b).1.map Bd.cv), .b (mgT a b).2]) :=
  uUnify_abs W a b ha.1.1 ha.1.2 hb.1.1 hb.1.2 (by have := ha.2; have := hb.2; omega) _ (mg_told ha hb).told
noncomputable def clC (c : List Lt) : CV := .lst (c.map Lt.cv)
theorem clC_size (L : List (List Lt)) : ∀ x ∈ L.map clC, x.size = 1 := by
  intro x hx
  obtain ⟨c, _, rfl⟩ := List.mem_map.1 hx
  rfl
noncomputable abbrev obE (L : List (List Lt)) : AS := [(450001, .obj), (35500100, .sl 300005 0 L.length 1), (300005, .mrow 26 1 (L.map clC))]
noncomputable abbrev ltZ3 : List CV := [.b false, .row [.i 0, .lst []], .row [.i 0, .lst []]]
theorem facI_snoc {p q : Tm × Tm} {L : List (Tm × Tm)} {rest : List Lt} {k : Nat} (h : L[k]? = some q) : facI p (L.take (k + 1)) rest = facI p (L.take k) rest ++ (facC p q rest).toList := by
  unfold facI
  rw [List.take_add_one, h, List.filterMap_append]
  congr 1
theorem facO_snoc {p : Tm × Tm} {L : List (Tm × Tm)} {o : Lt} {rest : List Lt} {k : Nat} (h : L[k]? = some p) : facO (L.take (k + 1)) o rest = facO (L.take k) o rest ++ facI p (wayL o) rest := by
  unfold facO
  rw [List.take_add_one, h, List.flatMap_append]
  simp
-- 
set_option maxHeartbeats 8000000 in
theorem eFactors_abs (W : World) (l o : Lt) (rest : List Lt) (hl : l.ten) (ho : o.ten) (hr : ∀ x ∈ rest, x.ten) (hrl : rest.length ≤ 1000) : AFun Tryz.prog W 33 [l.cw, o.cw, .lst (rest.map Lt.cv)] (.val (.lst ((facO (wayL l) o rest).map clC))) := by
  have hent : EntF Tryz.prog 81 := ent_of Tryz.func81 rfl rfl
  have hwl : (wayL l).length = 2 := rfl
  have hwo : (wayL o).length = 2 := rfl
  refine afunM_of Tryz.func33 Tryz.ntmps33 rfl rfl rfl rfl ?_
  intro w U hW
  refine awpM_pre (aR ?_)
  (refine nx (a_box (gN rfl) rfl rfl rfl rfl rfl) rfl ?_)
  (refine nx (a_box (gN rfl) rfl rfl rfl rfl rfl) rfl ?_)
  (refine nx (a_box (gN rfl) rfl rfl rfl rfl rfl) rfl ?_)
  (refine nx (aA (gN rfl) rfl rfl rfl rfl rfl) rfl ?_)
  refine ⟨rfl, ?_⟩
  refine awpM_pre (aR ?_)
  (refine nx (a_alloc1N 350001 (gN rfl) rfl rfl rfl rfl rfl (by first | exact .inl ⟨rfl, rfl⟩ | exact .inr ⟨rfl, rfl⟩) rfl rfl rfl (fun v h => by first | (rw [hW.1] at h; cases h) | (have h2 := hU _ v h; cases h2))) rfl ?_)
  refine ⟨rfl, ?_⟩
  refine awpM_wk ((wk_freeze 4 rfl rfl rfl (s' := [(3, .bp 3 0 []), (100003, .bx l.cw), (5, .bp 5 0 []), (100005, .bx (.lst (rest.map Lt.cv))), (7, .bp 350001 0 []), (450001, .obj), (35500100, ⟨0, .lst [], 1, 0, []⟩)]) ⟨rfl, rfl, rfl, rfl, rfl, rfl, rfl, trivial⟩ rfl rfl rfl).trans ((wk_freeze 5 rfl rfl rfl (s' := [(3, .bp 3 0 []), (100003, .bx l.cw), (4, .val (.ptr o.cw)), (7, .bp 350001 0 []), (450001, .obj), (35500100, ⟨0, .lst [], 1, 0, []⟩)]) ⟨rfl, rfl, rfl, rfl, rfl, rfl, trivial⟩ rfl rfl rfl).trans (wk_nilF 35500100 300005 26 1 rfl rfl rfl rfl rfl rfl))) ?_
  refine awpM_post (awpM_pre (aR ?_))
  (refine nx (aL (gN rfl) rfl rfl rfl rfl rfl rfl rfl rfl rfl rfl rfl rfl) rfl ?_)
  (refine nx (a_call (gN rfl) rfl rfl rfl rfl rfl (eWays_abs w l)) rfl ?_)
  refine ⟨rfl, ?_⟩
  refine awpM_block ?_
  refine awpM_wk (wk_sub (s' := (16, AV.val (.fn 81 0 [.ptr l.cw])) :: (4, .val (.ptr o.cw)) :: (5, .val (.ptr (.lst (rest.map Lt.cv)))) :: (7, .bp 350001 0 []) :: obE []) ⟨rfl, rfl, rfl, rfl, rfl, rfl, rfl, trivial⟩) ?_
  refine awpM_mono (awpM_rangeA (α := Tm × Tm) (encC := encW) (xs := wayL l) (ps := [17, 18]) (fun k => obE (facO ((wayL l).take k) o rest)) [(4, .val (.ptr o.cw)), (5, .val (.ptr (.lst (rest.map Lt.cv)))), (7, .bp 350001 0 [])] rfl hent (ways_hands l) rfl ⟨rfl, rfl, rfl, trivial⟩ rfl ⟨rfl, rfl, rfl, trivial⟩ (fun k => by kernel_rfl) (fun k => by kernel_rfl) (fun k => rfl) rfl (by kernel_rfl) (by kernel_rfl) ?_) ?_
  · intro k p hp w U hU
    have hpt := way_ten hl p (List.mem_of_getElem? hp)
    obtain ⟨L0, hL0⟩ : ∃ L0, L0 = facO ((wayL l).take k) o rest := ⟨_, rfl⟩
    have hL0l : L0.length ≤ 4 := by
      have := facO_len ((wayL l).take k) o rest
      rw [hL0]
      have h2 : ((wayL l).take k).length ≤ 2 := by rw [List.length_take]; omega
      omega
    rw [facO_snoc hp, ← hL0]
    refine AWp.wk (wk_sub (s' := (17, AV.val p.1.cw) :: (18, .val p.2.cw) :: (4, .val (.ptr o.cw)) :: (5, .val (.ptr (.lst (rest.map Lt.cv)))) :: (7, .bp 350001 0 []) :: obE L0) ⟨rfl, rfl, rfl, rfl, rfl, rfl, rfl, rfl, trivial⟩) ?_
    refine aS (aR ?_)
    (refine nx (a_alloc (gN rfl) rfl rfl rfl rfl rfl rfl rfl rfl rfl rfl) (by kernel_rfl) ?_)
    (refine nx (aSt (gN rfl) rfl rfl rfl rfl rfl rfl rfl rfl rfl rfl) rfl ?_)
    show AWp _ _ _ _ _ _ _
    refine aR ?_
    (refine nx (a_alloc (gN rfl) rfl rfl rfl rfl rfl rfl rfl rfl rfl rfl) (by kernel_rfl) ?_)
    (refine nx (aSt (gN rfl) rfl rfl rfl rfl rfl rfl rfl rfl rfl rfl) rfl ?_)
    refine ⟨rfl, fun w' => ?_⟩
    refine awpN_wk ((wk_freeze 8 rfl rfl rfl (s' := (9, AV.bp 9 0 []) :: (100009, .bx p.2.cw) :: (4, .val (.ptr o.cw)) :: (5, .val (.ptr (.lst (rest.map Lt.cv)))) :: (7, .bp 350001 0 []) :: obE L0) ⟨rfl, rfl, rfl, rfl, rfl, rfl, rfl, rfl, trivial⟩ rfl rfl (by kernel_rfl)).trans (wk_freeze 9 rfl rfl rfl (s' := (8, AV.val (.ptr p.1.cw)) :: (4, .val (.ptr o.cw)) :: (5, .val (.ptr (.lst (rest.map Lt.cv)))) :: (7, .bp 350001 0 []) :: obE L0) ⟨rfl, rfl, rfl, rfl, rfl, rfl, rfl, trivial⟩ rfl rfl (by kernel_rfl))) ?_
    refine awpN_block (awpN_pre (aR ?_))
    (refine nx (a_load_ptr (gN rfl) rfl rfl rfl rfl rfl rfl rfl rfl rfl) rfl ?_)
    (refine nx (a_call (gN rfl) rfl rfl rfl rfl rfl (eWays_abs w' o)) rfl ?_)
    refine ⟨rfl, ?_⟩
    refine awpN_block ?_
    refine awpN_wk (wk_sub (s' := (20, AV.val (.fn 81 0 [.ptr o.cw])) :: (5, .val (.ptr (.lst (rest.map Lt.cv)))) :: (7, .bp 350001 0 []) :: (8, .val (.ptr p.1.cw)) :: (9, .val (.ptr p.2.cw)) :: obE (L0 ++ [])) ⟨rfl, rfl, rfl, rfl, rfl, rfl, by rw [List.append_nil]; rfl, by rw [List.append_nil]; rfl, trivial⟩) ?_
    refine awpN_mono (awpN_range (α := Tm × Tm) (encC := encW) (xs := wayL o) (ps := [21, 22]) (fun j => obE (L0 ++ facI p ((wayL o).take j) rest)) [(5, .val (.ptr (.lst (rest.map Lt.cv)))), (7, .bp 350001 0 []), (8, .val (.ptr p.1.cw)), (9, .val (.ptr p.2.cw))] rfl hent (ways_hands o) rfl ⟨rfl, rfl, rfl, rfl, trivial⟩ rfl ⟨rfl, rfl, rfl, trivial⟩ (fun k => by kernel_rfl) (fun k => by kernel_rfl) (fun k => rfl) rfl (by kernel_rfl) (by kernel_rfl) ?_) ?_
    · intro j q hq w U hU
      have hqt := way_ten ho q (List.mem_of_getElem? hq)
      obtain ⟨L1, hL1⟩ : ∃ L1, L1 = L0 ++ facI p ((wayL o).take j) rest := ⟨_, rfl⟩
      have hL1l : L1.length ≤ 6 := by
        have := facI_len p ((wayL o).take j) rest
        have h2 : ((wayL o).take j).length ≤ 2 := by rw [List.length_take]; omega
        rw [hL1, List.length_append]
        omega
      rw [facI_snoc hq, ← List.append_assoc, ← hL1]
      refine AWp.wk (wk_sub (s' := (21, AV.val q.1.cw) :: (22, .val q.2.cw) :: (5, .val (.ptr (.lst (rest.map Lt.cv)))) :: (7, .bp 350001 0 []) :: (8, .val (.ptr p.1.cw)) :: (9, .val (.ptr p.2.cw)) :: obE L1) ⟨rfl, rfl, rfl, rfl, rfl, rfl, rfl, rfl, rfl, trivial⟩) ?_
      refine aS (aR ?_)
      (refine nx (a_alloc (gN rfl) rfl rfl rfl rfl rfl rfl rfl rfl rfl rfl) (by kernel_rfl) ?_)
      (refine nx (aSt (gN rfl) rfl rfl rfl rfl rfl rfl rfl rfl rfl rfl) rfl ?_)
      show AWp _ _ _ _ _ _ _
      refine aR ?_
      (refine nx (a_alloc (gN rfl) rfl rfl rfl rfl rfl rfl rfl rfl rfl rfl) (by kernel_rfl) ?_)
      (refine nx (aSt (gN rfl) rfl rfl rfl rfl rfl rfl rfl rfl rfl rfl) rfl ?_)
      refine ⟨rfl, fun w' => awpN_of ?_⟩
      refine aB (aS (aR ?_))
      (refine nx (a_load_ptr (gN rfl) rfl rfl rfl rfl rfl rfl rfl rfl rfl) rfl ?_)
      (refine nx (aL (gN rfl) rfl rfl rfl rfl rfl rfl rfl rfl rfl rfl rfl rfl) rfl ?_)
      (refine nx (a_call (gN rfl) rfl rfl rfl rfl rfl (eUnify_abs w' hpt.1 hqt.1)) rfl ?_)
      (refine nx (aM (gN rfl) rfl rfl rfl rfl rfl) rfl ?_)
      (refine nx (aX (gN rfl) rfl rfl rfl rfl rfl rfl) rfl ?_)
      (refine nx (aX (gN rfl) rfl rfl rfl rfl rfl rfl) rfl ?_)
      (refine nx (aA (gN rfl) rfl rfl rfl rfl rfl) rfl ?_)
      (refine nx (aA (gN rfl) rfl rfl rfl rfl rfl) rfl ?_)
      show AWp _ _ _ _ _ _ _
      have hrp : ∀ t : Tm, t.ten → (repT (mgS p.1 q.1) t).rng ∧ (repT (mgS p.1 q.1) t).ok ∧ (repT (mgS p.1 q.1) t).size ≤ 29550 := fun t ht => mg_rep hpt.1 hqt.1 ht
      obtain ⟨ok, hok⟩ : ∃ ok, ok = (mgT p.1 q.1).2 := ⟨_, rfl⟩
      obtain ⟨ld, hld⟩ : ∃ ld, ld = leadB (repT (mgS p.1 q.1) p.1) (repT (mgS p.1 q.1) p.2) := ⟨_, rfl⟩
      have hfc : facC p q rest = if ok = true ∧ ld = true then some ((rest ++ [(⟨true, p.2, q.2⟩ : Lt)]).map (Lt.rep (mgS p.1 q.1))) else none := by unfold facC; rw [hok, hld]
      have hlc := eLeads_abs w' (Lt.rep (mgS p.1 q.1) ⟨false, p.1, p.2⟩) (hrp _ hpt.1) (hrp _ hpt.2)
      have hlc : AFun Tryz.prog w' 56 [(Lt.rep (mgS p.1 q.1) ⟨false, p.1, p.2⟩).cw] (.val (.b ld)) := by rw [hld]; exact hlc
      have hA1 := eApply_abs w' hpt.1 hqt.1 [⟨false, p.1, p.2⟩] (by simp) (fun l hl => by rw [List.mem_singleton] at hl; subst hl; exact ⟨hpt.1.1, hpt.2.1⟩)
      refine AWp.wk (wk_sub (s' := (12, AV.val (.lst ((mgT p.1 q.1).1.map Bd.cv))) :: (13, .val (.b ok)) :: (11, .bp 11 0 []) :: (100011, .bx q.2.cw) :: (5, .val (.ptr (.lst (rest.map Lt.cv)))) :: (7, .bp 350001 0 []) :: (8, .val (.ptr p.1.cw)) :: (9, .val (.ptr p.2.cw)) :: obE L1) ⟨rfl, by rw [hok]; rfl, rfl, rfl, rfl, rfl, rfl, rfl, rfl, rfl, rfl, trivial⟩) ?_
      cases ok with
      | false =>
        have hn : facC p q rest = none := by rw [hfc, if_neg (by rintro ⟨h, _⟩; cases h)]
        rw [hn]
        refine aS (aS (aR ?_))
        (refine nx (aM (gN rfl) rfl rfl rfl rfl rfl) rfl ?_)
        (refine nx (a_not (gN rfl) rfl rfl rfl rfl rfl) rfl ?_)
        (refine nx (aM (gN rfl) rfl rfl rfl rfl rfl) rfl ?_)
        (refine ⟨_, _, _, a_off (go_off rfl rfl rfl rfl (by first | rfl | assumption | (simp; done) | (simp [*]; done))) rfl rfl rfl, rfl, ?_⟩)
        (refine ⟨_, _, _, a_off (go_off rfl rfl rfl rfl (by first | rfl | assumption | (simp; done) | (simp [*]; done))) rfl rfl rfl, rfl, ?_⟩)
        (refine ⟨_, _, _, a_off (go_off rfl rfl rfl rfl (by first | rfl | assumption | (simp; done) | (simp [*]; done))) rfl rfl rfl, rfl, ?_⟩)
        (refine ⟨_, _, _, a_off (go_off rfl rfl rfl rfl (by first | rfl | assumption | (simp; done) | (simp [*]; done))) rfl rfl rfl, rfl, ?_⟩)
        (refine ⟨_, _, _, a_off (go_off rfl rfl rfl rfl (by first | rfl | assumption | (simp; done) | (simp [*]; done))) rfl rfl rfl, rfl, ?_⟩)
        (refine ⟨_, _, _, a_off (go_off rfl rfl rfl rfl (by first | rfl | assumption | (simp; done) | (simp [*]; done))) rfl rfl rfl, rfl, ?_⟩)
        (refine ⟨_, _, _, a_off (go_off rfl rfl rfl rfl (by first | rfl | assumption | (simp; done) | (simp [*]; done))) rfl rfl rfl, rfl, ?_⟩)
        (refine ⟨_, _, _, a_off (go_off rfl rfl rfl rfl (by first | rfl | assumption | (simp; done) | (simp [*]; done))) rfl rfl rfl, rfl, ?_⟩)
        (refine ⟨_, _, _, a_off (go_off rfl rfl rfl rfl (by first | rfl | assumption | (simp; done) | (simp [*]; done))) rfl rfl rfl, rfl, ?_⟩)
        (refine ⟨_, _, _, a_off (go_off rfl rfl rfl rfl (by first | rfl | assumption | (simp; done) | (simp [*]; done))) rfl rfl rfl, rfl, ?_⟩)
        (refine ⟨_, _, _, aPt (gN rfl) rfl rfl rfl rfl rfl ?hb rfl, rfl, ?_⟩; case hb => (first | rfl | assumption | (simp; done)))
        show AWp _ _ _ _ _ _ _
        refine aC rfl (fun _ => ?_) (fun h => by cases h)
        refine aE ?_
        refine ⟨rfl, wk_sub ⟨rfl, ?_, ?_, trivial⟩⟩
        · show some (AV.sl _ _ _ _) = some (AV.sl _ _ _ _); simp
        · show some (AV.mrow _ _ _) = some (AV.mrow _ _ _); simp
      | true =>
        refine aS (aS (aR ?_))
        (refine nx (aM (gN rfl) rfl rfl rfl rfl rfl) rfl ?_)
        (refine nx (a_not (gN rfl) rfl rfl rfl rfl rfl) rfl ?_)
        (refine nx (aM (gN rfl) rfl rfl rfl rfl rfl) rfl ?_)
        (refine nx (aM (gd_on rfl rfl rfl rfl (by first | rfl | assumption | (simp; done))) rfl rfl rfl rfl rfl) rfl ?_)
        (refine nx (a_load_ptr (gd_on rfl rfl rfl rfl (by first | rfl | assumption | (simp; done))) rfl rfl rfl rfl rfl rfl rfl rfl rfl) rfl ?_)
        (refine nx (a_load_ptr (gd_on rfl rfl rfl rfl (by first | rfl | assumption | (simp; done))) rfl rfl rfl rfl rfl rfl rfl rfl rfl) rfl ?_)
        (refine nx (a_buildT ltZ3 (gd_on rfl rfl rfl rfl (by first | rfl | assumption | (simp; done))) rfl rfl rfl rfl rfl rfl rfl rfl rfl rfl rfl) rfl ?_)
        (refine nx (a_bslice (gd_on rfl rfl rfl rfl (by first | rfl | assumption | (simp; done))) rfl rfl rfl rfl rfl rfl rfl rfl rfl rfl rfl rfl rfl) rfl ?_)
        (refine nx (a_call (gd_on rfl rfl rfl rfl (by first | rfl | assumption | (simp; done))) rfl rfl rfl rfl rfl (hA1)) rfl ?_)
        (refine nx (a_index (j := 0) (gd_on rfl rfl rfl rfl (by first | rfl | assumption | (simp; done))) rfl rfl rfl rfl rfl rfl rfl rfl rfl (rfl) rfl (Lt.size_all _)) rfl ?_)
        (refine nx (a_load_ad (gd_on rfl rfl rfl rfl (by first | rfl | assumption | (simp; done))) rfl rfl rfl rfl rfl rfl rfl rfl rfl) rfl ?_)
        (refine nx (a_call (gd_on rfl rfl rfl rfl (by first | rfl | assumption | (simp; done))) rfl rfl rfl rfl rfl (hlc)) rfl ?_)
        (refine nx (a_not (gd_on rfl rfl rfl rfl (by first | rfl | assumption | (simp; done))) rfl rfl rfl rfl rfl) rfl ?_)
        (refine ⟨_, _, _, aPf (gN rfl) rfl rfl rfl rfl rfl ?hb rfl, rfl, ?_⟩; case hb => (first | rfl | assumption | (simp; done)))
        show AWp _ _ _ _ _ _ _
        cases ld with
        | false =>
          have hn : facC p q rest = none := by rw [hfc, if_neg (by rintro ⟨_, h⟩; cases h)]
          rw [hn]
          refine aC rfl (fun _ => ?_) (fun h => by cases h)
          refine aE ?_
          refine ⟨rfl, wk_sub ⟨rfl, ?_, ?_, trivial⟩⟩
          · show some (AV.sl _ _ _ _) = some (AV.sl _ _ _ _); simp
          · show some (AV.mrow _ _ _) = some (AV.mrow _ _ _); simp
        | true =>
          have hy : facC p q rest = some ((rest ++ [(⟨true, p.2, q.2⟩ : Lt)]).map (Lt.rep (mgS p.1 q.1))) := by rw [hfc, if_pos ⟨rfl, rfl⟩]
          rw [hy]
          have hc2 := concat2_abs w' rest [⟨true, p.2, q.2⟩] (by simp; omega)
          have hA2 := eApply_abs w' hpt.1 hqt.1 (rest ++ [⟨true, p.2, q.2⟩]) (by simp; omega) (fun l hl => by
            rcases List.mem_append.1 hl with h | h
            · exact ten_fit hr l h
            · rw [List.mem_singleton] at h; subst h; exact ⟨hpt.2.1, hqt.2.1⟩)
          have hszc := clC_size L1
          have hL1m : (L1.map clC).length = L1.length := List.length_map ..
          refine aC rfl (fun h => by cases h) (fun _ => aK ?_)
          show AWp _ _ _ _ _ _ _
          refine aS (aR ?_)
          (refine nx (a_load_ptr (gN rfl) rfl rfl rfl rfl rfl rfl rfl rfl rfl) rfl ?_)
          (refine nx (aL (gN rfl) rfl rfl rfl rfl rfl rfl rfl rfl rfl rfl rfl rfl) rfl ?_)
          (refine nx (a_buildT ltZ3 (gN rfl) rfl rfl rfl rfl rfl rfl rfl rfl rfl rfl rfl) rfl ?_)
          (refine nx (a_allocT ltZ3 (gN rfl) rfl rfl rfl rfl rfl rfl rfl) (by kernel_rfl) ?_)
          (refine nx (aSt (gN rfl) rfl rfl rfl rfl rfl rfl rfl rfl rfl rfl) rfl ?_)
          show AWp _ _ _ _ _ _ _
          refine aD (by kernel_rfl) (by kernel_rfl) ?_
          (refine nx (aLf (gN rfl) rfl rfl rfl rfl rfl rfl rfl rfl rfl rfl rfl rfl rfl) rfl ?_)
          (refine nx (aM (gN rfl) rfl rfl rfl rfl rfl) rfl ?_)
          (refine nx (a_load_ptr (gN rfl) rfl rfl rfl rfl rfl rfl rfl rfl rfl) rfl ?_)
          (refine nx (aL (gN rfl) rfl rfl rfl rfl rfl rfl rfl rfl rfl rfl rfl rfl) rfl ?_)
          (refine nx (a_bslice (gN rfl) rfl rfl rfl rfl rfl rfl rfl rfl rfl rfl rfl rfl rfl) rfl ?_)
          (refine nx (a_bslice (gN rfl) rfl rfl rfl rfl rfl rfl rfl rfl rfl rfl rfl rfl rfl) rfl ?_)
          (refine nx (a_call (gN rfl) rfl rfl rfl rfl rfl (hc2)) rfl ?_)
          (refine nx (a_call (gN rfl) rfl rfl rfl rfl rfl (hA2)) rfl ?_)
          (refine nx (a_bslice (gN rfl) rfl rfl rfl rfl rfl rfl rfl rfl rfl rfl rfl rfl rfl) rfl ?_)
          (refine nx (a_appM 300006 (gN rfl) rfl rfl rfl rfl rfl rfl rfl rfl rfl rfl rfl rfl rfl (by first | rfl | omega | (simp only [List.length_set, List.length_map, List.length_append, List.length_cons, List.length_nil] <;> omega) | (simp <;> omega)) (by first | assumption | exact sZ rfl | exact Tm.size_all _ | exact Bd.size_all _ | exact ints_size _ | exact bys_size _ | exact Lt.size_all _) (by first | omega | (simp only [List.length_map, List.length_append, List.length_cons, List.length_nil] <;> omega) | (simp <;> omega))) (by kernel_rfl) ?_)
          (refine nx (a_store_fld (gN rfl) rfl rfl rfl rfl rfl rfl rfl rfl rfl rfl rfl rfl) rfl ?_)
          refine ⟨by kernel_rfl, ?_⟩
          refine ⟨rfl, (wk_sub (s' := [(450001, .obj), (35500100, .sl 300006 0 (L1 ++ [(rest ++ [(⟨true, p.2, q.2⟩ : Lt)]).map (Lt.rep (mgS p.1 q.1))]).length 1), (300006, .mrow 26 1 ((L1 ++ [(rest ++ [(⟨true, p.2, q.2⟩ : Lt)]).map (Lt.rep (mgS p.1 q.1))]).map clC))]) ⟨rfl, ?_, ?_, trivial⟩).trans (wk_ren 300006 300005 rfl rfl (by kernel_rfl) (by kernel_rfl))⟩
          · show some (AV.sl _ _ _ _) = some (AV.sl _ _ _ _)
            rw [List.length_append, ← hL1m]; rfl
          · show some (AV.mrow _ _ _) = some (AV.mrow _ _ _)
            rw [List.map_append (f := clC)]; rfl
    · rintro e s' ⟨rfl, m, rfl⟩
      rw [List.take_length]
      refine ⟨rfl, rfl, rfl, ?_⟩
      exact wk_sub ⟨rfl, rfl, rfl, trivial⟩
  · rintro e s' g ⟨rfl, rfl⟩
    rw [List.take_length]
    refine ⟨rfl, rfl, ?_⟩
    refine aS (aR ?_)
    (refine nx (aLf (gN rfl) rfl rfl rfl rfl rfl rfl rfl rfl rfl rfl rfl rfl rfl) rfl ?_)
    (refine nx (aA (gN rfl) rfl rfl rfl rfl rfl) rfl ?_)
    show AWp _ _ _ _ _ _ _
    obtain ⟨R, hR⟩ : ∃ R, R = facO (wayL l) o rest := ⟨_, rfl⟩
    rw [← hR]
    refine aT ⟨⟨.inr rfl, [(6, AV.val (.lst (((R.map clC).drop 0).take R.length)))], ?_, ?_, trivial, rfl⟩, rfl⟩
    · exact (wk_frz 6 300005 (e := 26) (z := 1) (lo := 0) (len := R.length) (l := R.map clC) rfl rfl rfl (.inl hW.2) (by simp) (s' := [(299999, .ob g 0)]) ⟨rfl, trivial⟩ rfl).trans (wk_sub ⟨rfl, rfl, trivial⟩)
    · rw [List.drop_zero, List.take_of_length_le (by simp)]
      rfl


def htK (h : Option Nat) (k : Nat) : Bool := match h with | some i => decide (i < k) | none => false
def usK (h : Option Nat) (u : List Bool) (k : Nat) : List Bool := match h with | some i => if i < k then u.set i true else u | none => u
noncomputable def undB14 (X : List Tm) (y : Tm) : Bool := X.any fun x => decide (kb x y = 1)
theorem wtL_pos (l : Lt) : 0 < wtL l := by have := l.a.size_pos; unfold wtL; omega
noncomputable def orD (l : Lt) : List (Tm × Tm) := (if kb l.a l.b > 0 then [(l.a, l.b)] else []) ++ (if kb l.a l.b = -1 ∨ kb l.a l.b = 2 then [(l.b, l.a)] else [])
noncomputable def prL (p : Tm × Tm) : CV := .lst [p.1.cw, p.2.cw]
theorem int_at {x : List Int} {k : Nat} {z : Int} (h : x[k]? = some z) : (x.map CV.i)[k]? = some (.i z) := by rw [List.getElem?_map, h]; rfl
def al1 : Lt := ⟨false, ⟨1, []⟩, ⟨0, []⟩⟩
def al2 : Lt := ⟨true, ⟨2, []⟩, ⟨0, []⟩⟩
end Go.Proofs.YtglmoficcjphaaaGreat
namespace Go.Proofs.YtglmoficcjphaaaGreat
open Go.RowKit
set_option linter.unusedVariables false
set_option linter.unusedSimpArgs false
theorem lok_len (c : List Lt) : (lokL c).length ≤ c.length + 1 := by
  unfold lokL
  split
  · simp
  · have := gsK_len c c.length; omega
end Go.Proofs.YtglmoficcjphaaaGreat
