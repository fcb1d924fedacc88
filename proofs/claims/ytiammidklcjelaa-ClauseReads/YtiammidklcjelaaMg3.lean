/-
  CodeBackMath ClBy ClCode AbFld AbMap AbFull AbArr AbRoom ClPut ClGet ClGet2 ClLen SbSort TmAlive TmAb6 SbClone
-/
import Derived.Test.YtiammidklcjelaaMg2
import Derived.MapKept
import Derived.Laws.NewFold
namespace Go.Proofs.Ytiammidklcjelaa
open Go.RowKit
set_option linter.unusedVariables false
def canon : List Int → Prop
  | [] => False
  | b :: r => match r with
    | [] => 0 < b ∧ b < 128
    | _ :: _ => 128 ≤ b ∧ b ≤ 255 ∧ canon r

theorem canon_cons {b : Int} {r : List Int} (hb : 128 ≤ b ∧ b ≤ 255) (hr : canon r) : canon (b :: r) := by
  cases r with
  | nil => cases hr
  | cons c t => exact ⟨hb.1, hb.2, hr⟩

theorem ubytes_zero : ubytes 0 = [0] := by decide

theorem canon_val : ∀ (m : List Int), canon m → 0 < val m
  | [], h => by cases h
  | [b], h => by have := h.1; have := h.2; simp [val]; omega
  | b :: c :: t, h => by have := canon_val (c :: t) h.2.2; rw [val]; omega
theorem canon_same : ∀ (k : Nat) (m : List Int), canon m → m.length ≤ k + 1 → ub k (val m) = m
  | _, [], h, _ => by cases h
  | k, [b], h, _ => by
    have h1 := h.1
    have h2 := h.2
    have e : val [b] = b.toNat := by simp [val]; omega
    rw [e]
    cases k with
    | zero => simp [ub]; omega
    | succ k => rw [ub, if_pos (by omega)]; simp; omega
  | 0, b :: c :: t, _, hl => by simp at hl
  | k + 1, b :: c :: t, h, hl => by
    have h1 := h.1
    have h2 := h.2.1
    have hp := canon_val _ h.2.2
    have ih := canon_same k (c :: t) h.2.2 (by simpa using hl)
    have e : val (b :: c :: t) = (b % 128).toNat + 128 * val (c :: t) := rfl
    rw [e, ub, if_neg (by omega)]
    have e1 : ((b % 128).toNat + 128 * val (c :: t)) / 128 = val (c :: t) := by omega
    have e2 : ((128 + ((b % 128).toNat + 128 * val (c :: t)) % 128 : Nat) : Int) = b := by omega
    rw [e1, e2, ih]
theorem canon_of : ∀ (l : List Int) (i : Nat), (∀ z ∈ l, 0 ≤ z ∧ z ≤ 255) → lastAt l = some i → l.getD i 0 ≠ 0 → canon (l.take (i + 1))
  | [], i, _, h, _ => by cases h
  | b :: r, i, hwf, h, h0 => by
    have hb := hwf b (by simp)
    rw [lastAt] at h
    split at h
    · cases h
      simp at h0
      exact ⟨by omega, by assumption⟩
    · cases hr : lastAt r with
      | none => rw [hr] at h; cases h
      | some j =>
        rw [hr] at h; cases h
        rw [List.take_succ_cons]
        exact canon_cons ⟨by omega, hb.2⟩ (canon_of r j (fun z hz => hwf z (by simp [hz])) hr (by simpa using h0))

theorem rdU_same {l : List Int} {v c : Nat} (hwf : ∀ z ∈ l, 0 ≤ z ∧ z ≤ 255) (h : rdU l = (v, c, 0)) : ubytes v = l.take c := by
  unfold rdU at h
  cases hl : lastAt l with
  | none => rw [hl] at h; cases h
  | some i =>
    rw [hl] at h
    have h1 := lastAt_lt hl
    cases ho : okNum (l.take (i + 1)) with
    | false => simp [ho] at h
    | true =>
      simp [ho] at h
      obtain ⟨rfl, rfl⟩ := h
      have h2 := of_decide_eq_true ho
      have hlen : (l.take (i + 1)).length = i + 1 := by rw [List.length_take]; omega
      rw [hlen] at h2
      have e : (l.take (i + 1)).getD (i + 1 - 1) 0 = l.getD i 0 := by simp [List.getD_eq_getElem?_getD]
      rw [e] at h2
      by_cases h0 : l.getD i 0 = 0
      · have hi : i = 0 := by omega
        subst hi
        cases l with
        | nil => simp at h1
        | cons b r => simp at h0; subst h0; simp [val, ubytes_zero]
      · exact canon_same 9 _ (canon_of l i hwf hl h0) (by omega)
end Go.Proofs.Ytiammidklcjelaa
namespace Go.Proofs.Ytiammidklcjelaa
set_option linter.unusedVariables false
set_option linter.unusedSimpArgs false
def wT : Tm → List Int
  | ⟨f, l⟩ => ubytes (zz f) ++ (if f < 0 then [] else ubytes l.length ++ (l.map wT).flatten)
theorem wT_var {t : Tm} (h : t.f < 0) : wT t = ubytes (zz t.f) := by
  cases t with
  | mk f l => rw [wT, if_pos h, List.append_nil]
theorem wT_sym {t : Tm} (h : ¬ t.f < 0) : wT t = ubytes (zz t.f) ++ (ubytes t.l.length ++ t.l.flatMap wT) := by
  cases t with
  | mk f l => rw [wT, if_neg h, List.flatMap_def]
def wL (l : Lt) : List Int := (if l.neg then 1 else 0) :: (wT l.a ++ wT l.b)
def wC (c : List Lt) : List Int := ubytes c.length ++ c.flatMap wL

def rN (most : Nat) (l : List Int) : Except Nat (Nat × Nat) := match rdU l with
  | (v, c, 0) => if v > most then .error 7 else .ok (v, c)
  | (_, _, e + 1) => .error (e + 1)
def rH (l : List Int) : Except Nat (Int × Nat) := match rdU l with
  | (v, c, 0) => if -2147483648 ≤ unzz v ∧ unzz v ≤ 2147483647 then .ok (unzz v, c) else .error 7
  | (_, _, e + 1) => .error (e + 1)
def rMany {α : Type} (g : List Int → Except Nat (α × Nat)) : Nat → List Int → Except Nat (List α × Nat)
  | 0, _ => .ok ([], 0)
  | n + 1, l => match g l with
    | .error e => .error e
    | .ok (x, c) => match rMany g n (l.drop c) with
      | .error e => .error e
      | .ok (xs, c') => .ok (x :: xs, c + c')
def rList {α : Type} (g : List Int → Except Nat (α × Nat)) (l : List Int) : Except Nat (List α × Nat) := match rN 4096 l with
  | .error e => .error e
  | .ok (n, c) => match rMany g n (l.drop c) with
    | .error e => .error e
    | .ok (xs, c') => .ok (xs, c + c')
def rT : Nat → List Int → Except Nat (Tm × Nat)
  | 0, _ => .error 7
  | d + 1, l => match rH l with
    | .error e => .error e
    | .ok (f, c) => if f < 0 then .ok (⟨f, []⟩, c) else match rList (rT d) (l.drop c) with
      | .error e => .error e
      | .ok (xs, c') => .ok (⟨f, xs⟩, c + c')
def rL (l : List Int) : Except Nat (Lt × Nat) := match rN 1 l with
  | .error e => .error e
  | .ok (n, c) => match rT 257 (l.drop c) with
    | .error e => .error e
    | .ok (a, c1) => match rT 257 (l.drop (c + c1)) with
      | .error e => .error e
      | .ok (b, c2) => .ok (⟨decide (n = 1), a, b⟩, c + c1 + c2)
def rC (l : List Int) : Except Nat (List Lt × Nat) := rList rL l

def wfB (l : List Int) : Prop := ∀ z ∈ l, 0 ≤ z ∧ z ≤ 255
theorem wfB.drop {l : List Int} (h : wfB l) (n : Nat) : wfB (l.drop n) := fun z hz => h z (List.mem_of_mem_drop hz)
def Rt {α : Type} (w : α → List Int) (l : List Int) (r : Except Nat (α × Nat)) : Prop := ∀ x c, r = .ok (x, c) → c ≤ l.length ∧ w x = l.take c
theorem rdU_len {l : List Int} {v c : Nat} (h : rdU l = (v, c, 0)) : c ≤ l.length := by
  unfold rdU at h
  cases hl : lastAt l with
  | none => rw [hl] at h; cases h
  | some i =>
    rw [hl] at h
    simp only at h
    split at h
    · cases h; have := (lastAt_lt hl).1; omega
    · cases h
theorem rN_back {most : Nat} {l : List Int} (hw : wfB l) : Rt ubytes l (rN most l) := fun x c h => by
  unfold rN at h
  split at h
  · rename_i v c' hr
    split at h
    · cases h
    · cases h; exact ⟨rdU_len hr, rdU_same hw hr⟩
  · cases h
theorem rH_back {l : List Int} (hw : wfB l) : Rt (fun f => ubytes (zz f)) l (rH l) := fun x c h => by
  unfold rH at h
  split at h
  · rename_i v c' hr
    split at h
    · cases h; exact ⟨rdU_len hr, by show ubytes (zz (unzz v)) = _; rw [zz_unzz]; exact rdU_same hw hr⟩
    · cases h
  · cases h
theorem take_two (l : List Int) (c c' : Nat) : l.take c ++ (l.drop c).take c' = l.take (c + c') := (List.take_add ..).symm
theorem rMany_back {α : Type} {g : List Int → Except Nat (α × Nat)} {w : α → List Int} (hg : ∀ l, wfB l → Rt w l (g l)) : ∀ (n : Nat) (l : List Int), wfB l → ∀ xs c, rMany g n l = .ok (xs, c) → c ≤ l.length ∧ xs.flatMap w = l.take c ∧ xs.length = n
  | 0, l, _, xs, c, h => by cases h; exact ⟨Nat.zero_le _, rfl, rfl⟩
  | n + 1, l, hw, xs, c, h => by
    rw [rMany] at h
    split at h
    · cases h
    · rename_i x c1 h1
      split at h
      · cases h
      · rename_i ys c2 h2
        cases h
        obtain ⟨a1, a2⟩ := hg l hw x c1 h1
        obtain ⟨b1, b2, b3⟩ := rMany_back hg n (l.drop c1) (hw.drop _) ys c2 h2
        rw [List.length_drop] at b1
        exact ⟨by omega, by rw [List.flatMap_cons, a2, b2, take_two], by rw [List.length_cons, b3]⟩
theorem rList_back {α : Type} {g : List Int → Except Nat (α × Nat)} {w : α → List Int} (hg : ∀ l, wfB l → Rt w l (g l)) {l : List Int} (hw : wfB l) : Rt (fun xs => ubytes xs.length ++ xs.flatMap w) l (rList g l) := fun x c h => by
  unfold rList at h
  split at h
  · cases h
  · rename_i n c1 h1
    split at h
    · cases h
    · rename_i ys c2 h2
      cases h
      obtain ⟨a1, a2⟩ := rN_back hw n c1 h1
      obtain ⟨b1, b2, b3⟩ := rMany_back hg n (l.drop c1) (hw.drop _) x c2 h2
      rw [List.length_drop] at b1
      exact ⟨by omega, by show ubytes x.length ++ x.flatMap w = _; rw [b3, a2, b2, take_two]⟩
theorem rT_back : ∀ (d : Nat) (l : List Int), wfB l → Rt wT l (rT d l)
  | 0, l, _ => fun x c h => by cases h
  | d + 1, l, hw => fun x c h => by
    rw [rT] at h
    split at h
    · cases h
    · rename_i f c1 h1
      obtain ⟨a1, a2⟩ := rH_back hw f c1 h1
      have a2 : ubytes (zz f) = l.take c1 := a2
      split at h
      · rename_i hf
        cases h
        exact ⟨a1, by rw [wT_var (t := ⟨f, []⟩) hf]; exact a2⟩
      · rename_i hf
        split at h
        · cases h
        · rename_i xs c2 h2
          cases h
          obtain ⟨b1, b2⟩ := rList_back (rT_back d) (hw.drop c1) xs c2 h2
          have b2 : ubytes xs.length ++ xs.flatMap wT = (l.drop c1).take c2 := b2
          rw [List.length_drop] at b1
          refine ⟨by omega, ?_⟩
          rw [wT_sym (t := ⟨f, xs⟩) hf]
          show ubytes (zz f) ++ (ubytes xs.length ++ xs.flatMap wT) = _
          rw [a2, b2, take_two]
theorem ub_one : ubytes 1 = [1] := by decide
theorem rL_back (l : List Int) (hw : wfB l) : Rt wL l (rL l) := fun x c h => by
  unfold rL at h
  split at h
  · cases h
  · rename_i n c1 h1
    split at h
    · cases h
    · rename_i a c2 h2
      split at h
      · cases h
      · rename_i b c3 h3
        cases h
        obtain ⟨a1, a2⟩ := rN_back hw n c1 h1
        obtain ⟨b1, b2⟩ := rT_back 257 (l.drop c1) (hw.drop _) a c2 h2
        obtain ⟨d1, d2⟩ := rT_back 257 (l.drop (c1 + c2)) (hw.drop _) b c3 h3
        rw [List.length_drop] at b1 d1
        have hn : n ≤ 1 := by
          unfold rN at h1
          split at h1
          · split at h1
            · cases h1
            · cases h1; omega
          · cases h1
        refine ⟨by omega, ?_⟩
        unfold wL
        show (if decide (n = 1) = true then 1 else 0) :: (wT a ++ wT b) = _
        rw [← take_two, ← take_two, ← a2, b2, d2, List.append_assoc]
        have : ubytes n = [if decide (n = 1) = true then 1 else 0] := by
          rcases Nat.lt_or_ge n 1 with h | h
          · obtain rfl : n = 0 := by omega
            exact ubytes_zero
          · obtain rfl : n = 1 := by omega
            exact ub_one
        rw [this]
        rfl
theorem rC_back {l : List Int} (hw : wfB l) {c : List Lt} {k : Nat} (h : rC l = .ok (c, k)) : k ≤ l.length ∧ wC c = l.take k := rList_back rL_back hw c k h

def Er {α : Type} (r : Except Nat (α × Nat)) : Prop := ∀ e, r = .error e → e = 7 ∨ e = 10
theorem rdU_er {l : List Int} {v c e : Nat} (h : rdU l = (v, c, e + 1)) : e + 1 = 7 ∨ e + 1 = 10 := by
  unfold rdU at h
  split at h
  · simp only [Prod.mk.injEq] at h; omega
  · split at h <;> simp only [Prod.mk.injEq] at h <;> omega
theorem rN_er {most : Nat} {l : List Int} : Er (rN most l) := fun e h => by
  unfold rN at h
  split at h
  · split at h
    · cases h; exact .inl rfl
    · cases h
  · rename_i hr; cases h; exact rdU_er hr
theorem rH_er {l : List Int} : Er (rH l) := fun e h => by
  unfold rH at h
  split at h
  · split at h
    · cases h
    · cases h; exact .inl rfl
  · rename_i hr; cases h; exact rdU_er hr
theorem rMany_er {α : Type} {g : List Int → Except Nat (α × Nat)} (hg : ∀ l, Er (g l)) : ∀ (n : Nat) (l : List Int), Er (rMany g n l)
  | 0, _ => fun e h => by cases h
  | n + 1, l => fun e h => by
    rw [rMany] at h
    split at h
    · rename_i h1; cases h; exact hg _ _ h1
    · split at h
      · rename_i h2; cases h; exact rMany_er hg n _ _ h2
      · cases h
theorem rList_er {α : Type} {g : List Int → Except Nat (α × Nat)} (hg : ∀ l, Er (g l)) (l : List Int) : Er (rList g l) := fun e h => by
  unfold rList at h
  split at h
  · rename_i h1; cases h; exact rN_er _ h1
  · split at h
    · rename_i h2; cases h; exact rMany_er hg _ _ _ h2
    · cases h
theorem rT_er : ∀ (d : Nat) (l : List Int), Er (rT d l)
  | 0, _ => fun e h => by cases h; exact .inl rfl
  | d + 1, l => fun e h => by
    rw [rT] at h
    split at h
    · rename_i h1; cases h; exact rH_er _ h1
    · split at h
      · cases h
      · split at h
        · rename_i h2; cases h; exact rList_er (rT_er d) _ _ h2
        · cases h
theorem rL_er (l : List Int) : Er (rL l) := fun e h => by
  unfold rL at h
  split at h
  · rename_i h1; cases h; exact rN_er _ h1
  · split at h
    · rename_i h2; cases h; exact rT_er _ _ _ h2
    · split at h
      · rename_i h3; cases h; exact rT_er _ _ _ h3
      · cases h
theorem rC_er (l : List Int) : Er (rC l) := rList_er rL_er l

structure Thru {α : Type} (g : List Int → Except Nat (α × Nat)) (w : List Int) (x : α) : Prop where
  back : ∀ r, g (w ++ r) = .ok (x, w.length)
  cut : ∀ j, j < w.length → g (w.take j) = .error 10
theorem ub_pos (n : Nat) : 0 < (ubytes n).length := by have := ubytes_le n; omega
theorem wT_pos (t : Tm) : 0 < (wT t).length := by
  have := ub_pos (zz t.f)
  by_cases h : t.f < 0
  · rw [wT_var h]; exact this
  · rw [wT_sym h, List.length_append]; omega
theorem wL_pos (l : Lt) : 0 < (wL l).length := by unfold wL; simp
end Go.Proofs.Ytiammidklcjelaa
namespace Go.Proofs.Ytiammidklcjelaa
open Go.RowKit
set_option linter.unusedVariables false
set_option linter.unusedSimpArgs false
set_option maxRecDepth 100000
abbrev by8 (z : Int) : CV := .sc (.int .u8 z)
theorem bys_size (l : List Int) : ∀ c ∈ l.map by8, c.size = 1 := by
  intro c hc
  obtain ⟨z, _, rfl⟩ := List.mem_map.1 hc
  rfl
theorem bys_at {l : List Int} {i : Nat} {z : Int} (h : l[i]? = some z) : (l.map by8)[i]? = some (by8 z) := by rw [List.getElem?_map, h]; rfl
theorem sq_bys {U : Nat → Nat → Prop} {w : World} : ∀ (l : List Int), Sq ((l.map by8).map fun c => Rep U w c) (cb l)
  | [] => rfl
  | z :: l => ⟨[.int .u8 z], cb l, rfl, rep_int _ _, sq_bys l⟩
theorem bys_sq {U : Nat → Nat → Prop} {w : World} : ∀ (l : List Int) {xs : List Value}, Sq ((l.map by8).map fun c => Rep U w c) xs → xs = cb l
  | [], xs, h => h
  | z :: l, xs, ⟨ys, zs, e, h1, h2⟩ => by
    obtain ⟨rfl, _⟩ := rep_sc.1 h1
    rw [e, bys_sq l h2]
    rfl
theorem bs_of_vrep {U : Nat → Nat → Prop} {w : World} {l : List Int} {v : Value} (hw : wfB l) (h : VRep U w (.lst (l.map by8)) v) : ∃ a n c, v = .slice a n c ∧ n ≤ c ∧ (a = none → n = 0 ∧ c = 0) ∧ Bs w a n l ∧ n = l.length := by
  obtain ⟨a, n, c, rfl, h2, h3, h4, h5, xs, h6, h7⟩ := vrep_lst.1 h
  have e := bys_sq l h7
  subst e
  rw [List.length_map] at h2
  refine ⟨a, n, c, rfl, h3, h5, ⟨h2.symm, hw, ?_⟩, h2⟩
  rcases h6 with h6 | ⟨b, off, h6, h8⟩
  · left
    have : l = [] := by
      cases l with
      | nil => rfl
      | cons z l => cases h6
    rw [h2, this]; rfl
  · by_cases h0 : n = 0
    · exact .inl h0
    · right
      have hlen : (cb l).length = n := by unfold cb; rw [List.length_map]; exact h2.symm
      refine ⟨b, off, h6, ?_, fun i hi => ?_⟩
      · have := (h8 0 (by omega)).2
        rw [List.getElem?_eq_getElem (by omega)] at this
        exact World.block_lt_of_cell? w _ this
      · have := (h8 i (by omega)).2
        rw [this]
        unfold cb
        rw [List.getElem?_map, List.getElem?_eq_getElem (by omega)]
        show some (Value.int .u8 l[i]) = _
        rw [List.getD_eq_getElem?_getD, List.getElem?_eq_getElem (by omega)]
        rfl
def gU (zs : List Int) (p : Int) : Int × Int × Int :=
  if p < 0 ∨ p > zs.length then (0, 0, 1) else match rdU (zs.drop p.toNat) with
    | (v, c, 0) => (v, p + c, 0)
    | (_, _, e + 1) => (0, 0, ((e + 1 : Nat) : Int))
def gI (zs : List Int) (p : Int) : Int × Int × Int :=
  if p < 0 ∨ p > zs.length then (0, 0, 1) else match rdU (zs.drop p.toNat) with
    | (v, c, 0) => (unzz v, p + c, 0)
    | (_, _, e + 1) => (0, 0, ((e + 1 : Nat) : Int))
theorem rdU_zero {l : List Int} {v c e : Nat} (h : rdU l = (v, c, e + 1)) : v = 0 ∧ c = 0 := by
  unfold rdU at h
  split at h
  · simp only [Prod.mk.injEq] at h; omega
  · split at h
    · cases h
    · simp only [Prod.mk.injEq] at h; omega
theorem tup3 {U : Nat → Nat → Prop} {w : World} {x y z : Value} (hx : x.oneCell' = true) (hy : y.oneCell' = true) (hz : z.oneCell' = true) : RR U w (.tup [.sc x, .sc y, .sc z]) (.tuple #[x, y, z]) :=
  ⟨[x, y, z], rfl, ⟨_, _, rfl, vrep_sc.2 ⟨rfl, hx⟩, _, _, rfl, vrep_sc.2 ⟨rfl, hy⟩, _, _, rfl, vrep_sc.2 ⟨rfl, hz⟩, rfl⟩⟩
-- 
theorem cUintA_abs (W : World) (zs : List Int) (hl : zs.length ≤ 1000000) (p : Int) (h : p < 0 ∨ p > zs.length) : AFun Try.prog W 86 [.lst (zs.map by8), .i p] (.tup [.sc (.int .u64 0), .i 0, .sc (.int .u8 1)]) := by
  refine afun_of (rs := [.sc (.int .u64 0), .i 0, .sc (.int .u8 1)]) Try.func86 Try.ntmps86 rfl rfl rfl rfl ?_
  intro w U hW
  refine aS (aR ?_)
  (refine nx (aA (gN rfl) rfl rfl rfl rfl rfl) rfl ?_)
  (refine nx (aA (gN rfl) rfl rfl rfl rfl rfl) rfl ?_)
  (refine nx (aA (gN rfl) rfl rfl rfl rfl rfl) rfl ?_)
  show AWp _ _ _ _ _ _ _
  by_cases h0 : p < 0
  · have g0 : decide (p < 0) = true := by simpa using h0
    refine aS (aS (aR ?_))
    (refine nx (aM (gN rfl) rfl rfl rfl rfl rfl) rfl ?_)
    (refine nx (a_lss (gN rfl) rfl rfl rfl rfl rfl rfl) rfl ?_)
    (refine nx (aM (gN rfl) rfl rfl rfl rfl rfl) rfl ?_)
    (refine ⟨_, _, _, a_off (go_off rfl rfl rfl rfl (by first | rfl | assumption | (simp; done) | (simp [*]; done))) rfl rfl rfl, rfl, ?_⟩)
    (refine ⟨_, _, _, a_off (go_off rfl rfl rfl rfl (by first | rfl | assumption | (simp; done) | (simp [*]; done))) rfl rfl rfl, rfl, ?_⟩)
    (refine ⟨_, _, _, a_off (go_off rfl rfl rfl rfl (by first | rfl | assumption | (simp; done) | (simp [*]; done))) rfl rfl rfl, rfl, ?_⟩)
    (refine ⟨_, _, _, a_off (go_off rfl rfl rfl rfl (by first | rfl | assumption | (simp; done) | (simp [*]; done))) rfl rfl rfl, rfl, ?_⟩)
    (refine ⟨_, _, _, aPt (gN rfl) rfl rfl rfl rfl rfl ?hb rfl, rfl, ?_⟩; case hb => (first | rfl | assumption | (simp; done)))
    show AWp _ _ _ _ _ _ _
    refine aC rfl (fun hc => ?_) (fun hc => by cases hc)
    refine aS (aR ?_)
    (refine nx (aA (gN rfl) rfl rfl rfl rfl rfl) rfl ?_)
    (refine nx (aA (gN rfl) rfl rfl rfl rfl rfl) rfl ?_)
    (refine nx (aA (gN rfl) rfl rfl rfl rfl rfl) rfl ?_)
    show AWp _ _ _ _ _ _ _
    exact aT (And.intro (.inr rfl) rfl)
  · have g0 : decide (p < 0) = false := by simpa using h0
    refine aS (aS (aR ?_))
    (refine nx (aM (gN rfl) rfl rfl rfl rfl rfl) rfl ?_)
    (refine nx (a_lss (gN rfl) rfl rfl rfl rfl rfl rfl) rfl ?_)
    (refine nx (aM (gN rfl) rfl rfl rfl rfl rfl) rfl ?_)
    (refine nx (aM (gd_on rfl rfl rfl rfl (by first | rfl | assumption | (simp; done))) rfl rfl rfl rfl rfl) rfl ?_)
    (refine nx (aM (gd_on rfl rfl rfl rfl (by first | rfl | assumption | (simp; done))) rfl rfl rfl rfl rfl) rfl ?_)
    (refine nx (a_len (gd_on rfl rfl rfl rfl (by first | rfl | assumption | (simp; done))) rfl rfl rfl rfl rfl rfl rfl) rfl ?_)
    (refine nx (a_gtr (gd_on rfl rfl rfl rfl (by first | rfl | assumption | (simp; done))) rfl rfl rfl rfl rfl rfl) rfl ?_)
    (refine ⟨_, _, _, aPf (gN rfl) rfl rfl rfl rfl rfl ?hb rfl, rfl, ?_⟩; case hb => (first | rfl | assumption | (simp; done)))
    show AWp _ _ _ _ _ _ _
    refine aC rfl (fun hc => ?_) (fun hc => ?_)
    · refine aS (aR ?_)
      (refine nx (aA (gN rfl) rfl rfl rfl rfl rfl) rfl ?_)
      (refine nx (aA (gN rfl) rfl rfl rfl rfl rfl) rfl ?_)
      (refine nx (aA (gN rfl) rfl rfl rfl rfl rfl) rfl ?_)
      show AWp _ _ _ _ _ _ _
      exact aT (And.intro (.inr rfl) rfl)
    · exfalso
      have hc := of_decide_eq_false hc
      rw [List.length_map] at hc
      omega
-- 
theorem cIntA_abs (W : World) (zs : List Int) (hl : zs.length ≤ 1000000) (p : Int) (h : p < 0 ∨ p > zs.length) : AFun Try.prog W 126 [.lst (zs.map by8), .i p] (.tup [.i 0, .i 0, .sc (.int .u8 1)]) := by
  refine afun_of (rs := [.i 0, .i 0, .sc (.int .u8 1)]) Try.func126 Try.ntmps126 rfl rfl rfl rfl ?_
  intro w U hW
  refine aS (aR ?_)
  (refine nx (aA (gN rfl) rfl rfl rfl rfl rfl) rfl ?_)
  (refine nx (aA (gN rfl) rfl rfl rfl rfl rfl) rfl ?_)
  (refine nx (aA (gN rfl) rfl rfl rfl rfl rfl) rfl ?_)
  show AWp _ _ _ _ _ _ _
  refine aS (aR ?_)
  (refine nx (aM (gN rfl) rfl rfl rfl rfl rfl) rfl ?_)
  (refine nx (aM (gN rfl) rfl rfl rfl rfl rfl) rfl ?_)
  (refine nx (a_call (gN rfl) rfl rfl rfl rfl rfl (cUintA_abs w zs hl p h)) rfl ?_)
  (refine nx (aM (gN rfl) rfl rfl rfl rfl rfl) rfl ?_)
  (refine nx (aX (gN rfl) rfl rfl rfl rfl rfl rfl) rfl ?_)
  (refine nx (aX (gN rfl) rfl rfl rfl rfl rfl rfl) rfl ?_)
  (refine nx (aX (gN rfl) rfl rfl rfl rfl rfl rfl) rfl ?_)
  (refine nx (aA (gN rfl) rfl rfl rfl rfl rfl) rfl ?_)
  (refine nx (aA (gN rfl) rfl rfl rfl rfl rfl) rfl ?_)
  (refine nx (aA (gN rfl) rfl rfl rfl rfl rfl) rfl ?_)
  show AWp _ _ _ _ _ _ _
  refine aS (aS (aR ?_))
  (refine nx (aM (gN rfl) rfl rfl rfl rfl rfl) rfl ?_)
  (refine nx (a_neq (gN rfl) rfl rfl rfl rfl rfl rfl) rfl ?_)
  show AWp _ _ _ _ _ _ _
  refine aC rfl (fun hc => ?_) (fun hc => by cases hc)
  refine aS (aR ?_)
  (refine nx (aM (gN rfl) rfl rfl rfl rfl rfl) rfl ?_)
  (refine nx (aA (gN rfl) rfl rfl rfl rfl rfl) rfl ?_)
  (refine nx (aA (gN rfl) rfl rfl rfl rfl rfl) rfl ?_)
  (refine nx (aA (gN rfl) rfl rfl rfl rfl rfl) rfl ?_)
  show AWp _ _ _ _ _ _ _
  exact aT (And.intro (.inr rfl) rfl)
theorem cUint_abs (W : World) (zs : List Int) (hw : wfB zs) (hl : zs.length ≤ 1000000) (p : Int) : AFun Try.prog W 86 [.lst (zs.map by8), .i p] (.tup [.sc (.int .u64 (gU zs p).1), .i (gU zs p).2.1, .sc (.int .u8 (gU zs p).2.2)]) := by
  by_cases hp : p < 0 ∨ p > zs.length
  · have e : gU zs p = (0, 0, 1) := by unfold gU; rw [if_pos hp]
    rw [e]
    exact cUintA_abs W zs hl p hp
  refine ⟨ent_of Try.func86 rfl rfl, .inr rfl, rfl, ?_⟩
  rintro U w vs _ ⟨u1, us1, rfl, g1, u2, us2, rfl, g2, g3⟩
  have g3 : us2 = [] := g3
  subst g3
  obtain ⟨a, n, c, rfl, hc, hnil, hb, hn⟩ := bs_of_vrep hw g1
  obtain ⟨rfl, _⟩ := vrep_sc.1 g2
  obtain ⟨q, rfl⟩ : ∃ q : Nat, p = q := ⟨p.toNat, by omega⟩
  obtain ⟨⟨v, c1, e1⟩, hr⟩ : ∃ r, rdU (zs.drop q) = r := ⟨_, rfl⟩
  have eg : gU zs q = match rdU (zs.drop q) with
    | (v, c, 0) => ((v : Int), ((q : Int) + c), 0)
    | (_, _, e + 1) => (0, 0, ((e + 1 : Nat) : Int)) := by unfold gU; rw [if_neg hp]; rfl
  rw [hr] at eg
  cases e1 with
  | zero =>
    rw [eg]
    refine (uint_read a n c zs q v c1 w hb (by omega) hc (by omega) hr).mono ?_
    rintro e w' ⟨rfl, rfl⟩
    exact ⟨_, rfl, by rw [Int.natCast_add]; exact tup3 rfl rfl rfl, Below.refl _ _⟩
  | succ e1 =>
    rw [eg]
    obtain ⟨rfl, rfl⟩ := rdU_zero hr
    refine (uint_err a n c zs q (e1 + 1) w hb (by omega) hc (by omega) hr (by omega)).mono ?_
    rintro e w' ⟨rfl, rfl⟩
    exact ⟨_, rfl, tup3 rfl rfl rfl, Below.refl _ _⟩
theorem cInt_abs (W : World) (zs : List Int) (hw : wfB zs) (hl : zs.length ≤ 1000000) (p : Int) : AFun Try.prog W 126 [.lst (zs.map by8), .i p] (.tup [.i (gI zs p).1, .i (gI zs p).2.1, .sc (.int .u8 (gI zs p).2.2)]) := by
  by_cases hp : p < 0 ∨ p > zs.length
  · have e : gI zs p = (0, 0, 1) := by unfold gI; rw [if_pos hp]
    rw [e]
    exact cIntA_abs W zs hl p hp
  refine ⟨ent_of Try.func126 rfl rfl, .inr rfl, rfl, ?_⟩
  rintro U w vs _ ⟨u1, us1, rfl, g1, u2, us2, rfl, g2, g3⟩
  have g3 : us2 = [] := g3
  subst g3
  obtain ⟨a, n, c, rfl, hc, hnil, hb, hn⟩ := bs_of_vrep hw g1
  obtain ⟨rfl, _⟩ := vrep_sc.1 g2
  obtain ⟨q, rfl⟩ : ∃ q : Nat, p = q := ⟨p.toNat, by omega⟩
  obtain ⟨⟨v, c1, e1⟩, hr⟩ : ∃ r, rdU (zs.drop q) = r := ⟨_, rfl⟩
  have eg : gI zs q = match rdU (zs.drop q) with
    | (v, c, 0) => (unzz v, ((q : Int) + c), 0)
    | (_, _, e + 1) => (0, 0, ((e + 1 : Nat) : Int)) := by unfold gI; rw [if_neg hp]; rfl
  rw [hr] at eg
  cases e1 with
  | zero =>
    rw [eg]
    refine (int_read a n c zs q v c1 w hb (by omega) hc (by omega) hr).mono ?_
    rintro e w' ⟨rfl, rfl⟩
    exact ⟨_, rfl, by rw [Int.natCast_add]; exact tup3 rfl rfl rfl, Below.refl _ _⟩
  | succ e1 =>
    rw [eg]
    obtain ⟨rfl, rfl⟩ := rdU_zero hr
    refine (int_err a n c zs q (e1 + 1) w hb (by omega) hc (by omega) hr (by omega)).mono ?_
    rintro e w' ⟨rfl, rfl⟩
    exact ⟨_, rfl, tup3 rfl rfl rfl, Below.refl _ _⟩
theorem vrep_own {U : Nat → Nat → Prop} {w : World} {B : Nat} {v : Value} {zs : List Int} (h : Own w B v zs) : VRep (fun b o => U b o ∨ B ≤ b) w (.lst (zs.map by8)) v := by
  obtain ⟨va, vc, rfl, e2, e3, e4, e5⟩ := ownsRow_cs h.1
  refine vrep_lst.2 ⟨va, _, vc, rfl, by simp, e2, e3, e4, cb zs, ?_, sq_bys _⟩
  rcases e5 with h0 | ⟨b, off, ha, hlt, hc⟩
  · left
    exact h0
  · refine .inr ⟨b, off, ha, fun i hi => ⟨.inr ?_, hc i hi⟩⟩
    subst ha
    rcases h.1.2 with ⟨h3, _⟩ | ⟨g, cap, cur, h3, hb', _⟩
    · cases h3
    · cases h3; exact hb'
theorem cPutU_abs (W : World) (n : Nat) (hn : n < 2 ^ 64) : AFun Try.prog W 53 [.lst [], .sc (.int .u64 (n : Int))] (.val (.lst ((ubytes n).map by8))) := by
  refine ⟨ent_of Try.func53 rfl rfl, .inl rfl, rfl, ?_⟩
  rintro U w vs _ ⟨u1, us1, rfl, g1, u2, us2, rfl, g2, g3⟩
  have g3 : us2 = [] := g3
  subst g3
  obtain ⟨a, k, c, rfl, hc, hnil, hb, hk⟩ := bs_of_vrep (l := []) (fun z hz => by cases hz) g1
  obtain ⟨rfl, _⟩ := vrep_sc.1 g2
  refine (putUint_any a k c [] n hn w hnil hb (by rw [hk]; decide)).mono ?_
  rintro e w' ⟨v, rfl, ho, hB⟩
  exact ⟨_, rfl, vrep_own ho, hB⟩
theorem cPutI_abs (W : World) (n : Int) (h1 : -9223372036854775808 ≤ n) (h2 : n < 9223372036854775808) : AFun Try.prog W 54 [.lst [], .i n] (.val (.lst ((ubytes (zz n)).map by8))) := by
  refine ⟨ent_of Try.func54 rfl rfl, .inl rfl, rfl, ?_⟩
  rintro U w vs _ ⟨u1, us1, rfl, g1, u2, us2, rfl, g2, g3⟩
  have g3 : us2 = [] := g3
  subst g3
  obtain ⟨a, k, c, rfl, hc, hnil, hb, hk⟩ := bs_of_vrep (l := []) (fun z hz => by cases hz) g1
  obtain ⟨rfl, _⟩ := vrep_sc.1 g2
  refine (putInt_any a k c [] n h1 h2 w hnil hb (by rw [hk]; decide)).mono ?_
  rintro e w' ⟨v, rfl, ho, hB⟩
  exact ⟨_, rfl, vrep_own ho, hB⟩
end Go.Proofs.Ytiammidklcjelaa
namespace Go.Proofs.Ytiammidklcjelaa
open Go.RowKit
set_option linter.unusedVariables false
set_option linter.unusedSimpArgs false
section
variable {P : Program} {w0 : World} {U0 : UX} {nt : Nat} {ops : Array Oper} {o : Oper} {S : Nat → Option AV} {gs : List Nat} {d : Nat} {s : AS} {a : Act} {w : World} {D : Nat → Nat → Prop} {hv : Nat → Value}

def aggA (av : AV) : Bool := match Nat.beq av.t 0 with | true => Nat.beq av.c.k 2 | false => false
def fldB (av : AV) : Bool := Nat.beq av.t 0 || Nat.beq av.t 2 || Nat.beq av.t 11 || Nat.beq av.t 12 || Nat.beq av.t 15
def zeroAV (c : CV) : AV := ⟨0, c, match isNilC c with | true => 1 | false => 0, 0, []⟩
noncomputable def fldsA (d : Nat) : List CV → Nat → AS
  | [], _ => []
  | c :: cs, o => (fKey d o, zeroAV c) :: fldsA d cs (o + c.size)
end
end Go.Proofs.Ytiammidklcjelaa
namespace Go.Proofs.Ytiammidklcjelaa
open Go.RowKit Go.MapKept
set_option linter.unusedVariables false
set_option linter.unusedSimpArgs false
section
variable {P : Program} {w0 : World} {U0 : UX} {nt : Nat} {ops : Array Oper} {o : Oper} {S : Nat → Option AV} {gs : List Nat} {d : Nat} {s : AS} {a : Act} {w : World} {D : Nat → Nat → Prop} {hv : Nat → Value}
def IntKeys (k : IntKind) (l : List CV) : Prop := ∀ r ∈ l, ∃ i c, r = .row [.sc (.int k i), c]
def lookR (k : IntKind) (i : Int) : List CV → Option CV
  | [] => none
  | ⟨_, _, [⟨_, .int k' j, _⟩, c]⟩ :: l => if k' = k ∧ j = i then some c else lookR k i l
  | _ :: l => lookR k i l
def putR (k : IntKind) (i : Int) (c : CV) : List CV → List CV
  | [] => [.row [.sc (.int k i), c]]
  | r :: l => match r with
    | ⟨_, _, [⟨_, .int k' j, _⟩, _]⟩ => if k' = k ∧ j = i then .row [.sc (.int k i), c] :: l else r :: putR k i c l
    | _ => r :: putR k i c l
end
end Go.Proofs.Ytiammidklcjelaa
namespace Go.Proofs.Ytiammidklcjelaa
open Go.RowKit
set_option linter.unusedVariables false
set_option linter.unusedSimpArgs false
section
variable {P : Program} {w0 : World} {U0 : UX} {nt : Nat} {ops : Array Oper} {o : Oper} {S : Nat → Option AV} {gs : List Nat} {d : Nat} {s : AS} {a : Act} {w : World} {D : Nat → Nat → Prop} {hv : Nat → Value}

theorem AOp.plain {R : List Nat} {N : List (Nat × List Nat)} {c : CV} {n q : Nat} {p : List Nat} (h5 : Nat.blt d 100000 = true) (h : AOp P w0 U0 nt ops o R N S [(d, ⟨0, c, n, q, p⟩)]) : AOp P w0 U0 nt ops o R N S [(d, .val c)] := by
  intro s hs hN a w hsim Q K hK
  refine h s hs hN a w hsim Q K fun a' w' hs' => hK a' w' ?_
  obtain ⟨D, hv, hg⟩ := hs'
  obtain ⟨v, g1, g2⟩ := hg.slot d _ (lS _ _ _) (bL h5)
  refine ⟨D, hv, (hg.know (bL h5) g1 (avrep_val g2.1)).congr fun k => ?_⟩
  show look ((d, AV.val c) :: s) k = look ((d, AV.val c) :: (d, _) :: s) k
  rw [look_cons, look_cons, look_cons]
  split <;> rfl
theorem a_buildP (hg : Gd w0 U0 nt ops o gs S) (hd : o.dst = some d) (hn : Nat.blt d nt = true) (h5 : Nat.blt d 100000 = true) {t : TypeId} {parts : Array (Nat × Operand)} {fs : Array Field} {it : TypeInfo} {cs : Array Value} {sz : List Nat} {zs r : List CV} {n : Nat} {p : List Nat} (ho : o.op = .build t parts) (hu : P.underlying t = some (.struct fs)) (hi : P.info? t = some it) (hz : it.zero = some (.agg cs)) (hsz : szO P fs.toList 0 = some sz) (h0 : zsO sz cs.toList = some zs) (hr : setsO S parts.toList zs = some r) (hp : nilB zs parts.toList 0 = (n, p)) :
    AOp P w0 U0 nt ops o (gs ++ rds parts.toList) [] S [(d, .val (.row r))] := (a_build hg hd hn h5 ho hu hi hz hsz h0 hr hp).plain h5

end
section
variable {P : Program} {w0 : World} {U0 : UX} {nt : Nat} {ops : Array Oper} {o : Oper} {S : Nat → Option AV} {gs : List Nat} {d : Nat} {s : AS} {a : Act} {w : World} {D : Nat → Nat → Prop} {hv : Nat → Value}
def noMref (s : AS) (n : Nat) : Bool := s.all fun p => !((Nat.beq p.2.t 15 || Nat.beq p.2.t 19) && Nat.beq p.2.n n)
def SameS (S : Nat → Option AV) (ks : List Nat) : AS → Prop
  | [] => True
  | (k, av) :: l => (hasN ks k = true ∨ S k = some av) ∧ SameS S ks l
theorem SameS.look {ks : List Nat} : ∀ {l : AS}, SameS S ks l → ∀ {k av}, look l k = some av → hasN ks k = false → S k = some av
  | [], _, k, av, h, _ => by cases h
  | (k', av') :: l, ⟨h1, h2⟩, k, av, h, hn => by
    rw [look_cons] at h
    split at h
    · rename_i e
      subst e
      cases h
      rcases h1 with h1 | h1
      · rw [h1] at hn; cases hn
      · exact h1
    · exact SameS.look h2 h hn
end
section
variable {P : Program} {w0 : World} {U0 : UX} {nt : Nat} {ops : Array Oper} {o : Oper} {S : Nat → Option AV} {gs : List Nat} {d : Nat} {s : AS} {a : Act} {w : World} {D : Nat → Nat → Prop} {hv : Nat → Value}
theorem SimG.forget (h : SimG w0 U0 nt s a w D hv) {d : Nat} (h5 : d < 100000) (hd : d < nt) : SimG w0 U0 nt ((d, .no) :: s) a w D hv := by
  have hdn : d < a.tmps.size := by rw [h.size]; exact hd
  exact h.know h5 (Array.getElem?_eq_getElem hdn) trivial
def noL (ds : List Nat) : AS := ds.map fun d => (d, AV.no)
theorem SimG.forgets : ∀ {ds : List Nat}, SimG w0 U0 nt s a w D hv → (∀ d ∈ ds, d < 100000 ∧ d < nt) → SimG w0 U0 nt (noL ds ++ s) a w D hv
  | [], h, _ => h
  | d :: ds, h, hd => (SimG.forgets h fun x hx => hd x (List.mem_cons_of_mem _ hx)).forget (hd d (by simp)).1 (hd d (by simp)).2
theorem look_noL : ∀ {ds : List Nat} {k : Nat} {av : AV}, look (noL ds ++ s) k = some av → (k ∈ ds ∧ av = .no) ∨ (hasN ds k = false ∧ look s k = some av)
  | [], k, av, h => .inr ⟨rfl, h⟩
  | d :: ds, k, av, h => by
    have h : look ((d, AV.no) :: (noL ds ++ s)) k = some av := h
    rw [look_cons] at h
    split at h
    · rename_i e; cases h; exact .inl ⟨by rw [e]; simp, rfl⟩
    · rename_i e
      rcases look_noL h with ⟨h1, h2⟩ | ⟨h1, h2⟩
      · exact .inl ⟨List.mem_cons_of_mem _ h1, h2⟩
      · refine .inr ⟨?_, h2⟩
        show (Nat.beq d k || hasN ds k) = false
        rw [h1, Bool.or_false]
        cases e2 : Nat.beq d k with
        | false => rfl
        | true => exact absurd (Nat.eq_of_beq_eq_true e2) e
theorem a_callOD (ds : List Nat) {f : FuncId} {xs : Array Operand} {ts : Array TypeId} {avs : List AV} {r : AV} {pre post : AS} (hg : Gd w0 U0 nt ops o gs S) (hd : o.dst = some d) (hn : Nat.blt d nt = true) (h5 : Nat.blt d 100000 = true)
    (ho : o.op = .call { callee := .value (.func f), args := xs, argTypes := ts }) (hx : evsA S xs.toList = some avs) (hc : AFunO P f pre avs r post) (hp : SubS S pre) (hl : pre.all lendB = true) (hq : post.all (leaveB (kO post)) = true) (hks : (kO pre).all (hasN (kO post)) = true) (hr : refB (kO post) r = true) (hnb : ∀ k v, U0.f k = some v → hasN (kO post) k = true → hasN (kO pre) k = true) (hds : (ds.all fun x => Nat.blt x nt && Nat.blt x 100000) = true) (hpk : (kO pre).all (Nat.ble 100000) = true) (hnm : ((newN (kO pre) (kO post) (kO post)).all fun q => !Nat.beq q.1 0 && (!Nat.beq q.1 100000 && !Nat.beq q.1 1100000)) = true) :
    AOp P w0 U0 nt ops o (gs ++ (rdl xs.toList ++ kO pre)) ((newN (kO pre) (kO post) (kO post)).map fun q => (q.1, ds ++ q.2)) S ((d, r) :: (post ++ noL ds)) := by
  intro s hs hN a w ⟨D, hv, h⟩ Q K hK
  rw [if_pos (hg s (fun k hk => hs k (List.mem_append_left _ hk)) a w D hv h)]
  have hargs := evsA_rep h (fun k hk => hs k (List.mem_append_right _ (List.mem_append_left _ hk))) hx
  have hsub : Sub s pre := fun k av h1 => (hs k (List.mem_append_right _ (List.mem_append_right _ (mem_keys h1)))).trans (hp.look h1)
  obtain ⟨V, v1, v2, v3, v4, v5, v6⟩ := h.lend hsub hl
  obtain ⟨h1, h2⟩ := hc
  have hcall := h2 V w hv ⟨#[], []⟩ _ v1 v2 (hargs.imp fun c _ v hcv => hcv.move v6 (fun _ h3 => h3.imp id fun ⟨e, he⟩ => ⟨e, hsub _ _ he.1, he.2⟩) fun _ => rfl)
  have he : (execOp a.eval o).run P w = .ok (.enter f (xs.toList.map a.eval).toArray) w := by
    have hf : a.eval (.func f) = .func (.func f) #[] #[] := rfl
    have hen := h1 (xs.map a.eval) w
    have harr : (xs.toList.map a.eval).toArray = xs.map a.eval := by apply Array.ext'; simp
    rw [harr]
    generalize a.eval = ρ at hf hen ⊢
    simp [execOp, ho, resolve, invoke, Deferred.ofValue, hf, hen]
  rw [List.all_eq_true] at hds hpk hnm
  have hdl : ∀ x ∈ ds, x < 100000 ∧ x < nt := fun x hx => by
    have := hds x hx
    rw [Bool.and_eq_true] at this
    exact ⟨bL this.2, bL this.1⟩
  have h' := h.forgets hdl
  have hsub' : Sub (noL ds ++ s) pre := fun k av h3 => by
    have hk := Nat.le_of_ble_eq_true (hpk k (mem_keys h3))
    have h4 := hsub k av h3
    rw [look_append]
    cases e : look (noL ds) k with
    | none => exact h4
    | some y =>
      have h9 : look (noL ds ++ []) k = some y := by rw [List.append_nil]; exact e
      rcases look_noL h9 with ⟨h6, _⟩ | ⟨_, h6⟩
      · have := (hdl k h6).1; omega
      · cases h6
  have hN' : ∀ q ∈ newN (kO pre) (kO post) (kO post), NoRefE (noL ds ++ s) q := fun q hq k av h3 h4 => by
    have h6 := hnm q hq
    simp only [Bool.and_eq_true, Bool.not_eq_true'] at h6
    have hne : ∀ {x : Nat}, Nat.beq q.1 x = false → x ≠ q.1 := fun {x} hx e => by rw [← e, Nat.beq_refl] at hx; cases hx
    rcases look_noL h3 with ⟨h7, rfl⟩ | ⟨h7, h8⟩
    · have hk := (hdl k h7).1
      have hfn : fnm k = 100000 := by unfold fnm; rw [ble_no (by omega : k < 500000)]
      rw [hfn]
      exact ⟨hne h6.1, hne h6.2.1, hne h6.2.2⟩
    · refine hN (q.1, ds ++ q.2) (List.mem_map.2 ⟨q, hq, rfl⟩) k av h8 ?_
      show hasN (ds ++ q.2) k = false
      unfold hasN at h7 h4 ⊢
      rw [List.any_append, h7, h4]
      rfl
  unfold Oper.wp
  rw [he, Oper.upon_enter]
  refine hcall.mono ?_
  rintro e w' ⟨v, D', hv', a', rfl, h6, h7⟩
  rw [hd]
  obtain ⟨D2, hv2, h8, h9⟩ := h'.back hsub' hl hq hks hN' hnb v3 v4 v5 v2 h6
  have hfin := h8.put (d := d) (bL hn) (bL h5) (h9.1 r v hr h7)
  refine hK _ _ ⟨D2, hv2, ?_⟩
  show SimG w0 U0 nt ((d, r) :: ((post ++ noL ds) ++ s)) _ _ _ _
  rw [List.append_assoc]
  exact hfin
end
end Go.Proofs.Ytiammidklcjelaa
namespace Go.Proofs.Ytiammidklcjelaa
open Go.RowKit
set_option linter.unusedVariables false
set_option linter.unusedSimpArgs false
set_option maxRecDepth 100000
noncomputable abbrev rB (zs : List Int) : AS := [(300001, .mrow 5 1 (zs.map by8))]
-- 
theorem cloneY_abs (L : List Int) (hn : L.length ≤ 1000000000) : AFunO Try.prog 28 [] [.val (.lst (L.map by8))] (.sl 300001 0 L.length 1) (rB L) := by
  have hsz := bys_size L
  refine afunO_of Try.func28 Try.ntmps28 rfl rfl rfl rfl rfl rfl ?_
  intro w U hU
  refine AWp.nil 0 rfl rfl (fun hl => ?_) ?_
  · have hL : L = [] := by simpa using hl
    subst hL
    refine aS (aR ?_)
    (refine nx (aA (gN rfl) rfl rfl rfl rfl rfl) rfl ?_)
    show AWp _ _ _ _ _ _ _
    refine aS (aS (aR ?_))
    (refine nx (aM (gN rfl) rfl rfl rfl rfl rfl) rfl ?_)
    (refine nx (a_isnil (gN rfl) rfl rfl rfl rfl rfl rfl) rfl ?_)
    show AWp _ _ _ _ _ _ _
    refine aC rfl (fun _ => ?_) (fun h => by cases h)
    refine aS (aR ?_)
    (refine nx (aA (gN rfl) rfl rfl rfl rfl rfl) rfl ?_)
    show AWp _ _ _ _ _ _ _
    exact aT ⟨.inr rfl, _, wk_nilM 2 300001 5 1 rfl rfl rfl rfl rfl, rfl, rfl, trivial⟩
  · refine aS (aR ?_)
    (refine nx (aA (gN rfl) rfl rfl rfl rfl rfl) rfl ?_)
    show AWp _ _ _ _ _ _ _
    refine aS (aS (aR ?_))
    (refine nx (aM (gN rfl) rfl rfl rfl rfl rfl) rfl ?_)
    (refine nx (a_notnil (gN rfl) rfl rfl rfl rfl rfl rfl) rfl ?_)
    show AWp _ _ _ _ _ _ _
    refine aC rfl (fun h => by cases h) (fun _ => ?_)
    refine aK ?_
    show AWp _ _ _ _ _ _ _
    refine AWp.wk ((wk_not 0 rfl rfl).trans (wk_sub (s' := [(0, .val (.lst (L.map by8)))]) ⟨rfl, trivial⟩)) ?_
    refine aS (aR ?_)
    (refine nx (a_bslice0 (gN rfl) rfl rfl rfl rfl rfl rfl rfl rfl) rfl ?_)
    (refine nx (aM (gN rfl) rfl rfl rfl rfl rfl) rfl ?_)
    (refine nx (a_app0M 300001 (gN rfl) rfl rfl rfl rfl rfl rfl rfl rfl rfl rfl rfl rfl rfl rfl rfl (by first | assumption | exact sZ rfl | exact Tm.size_all _ | exact Bd.size_all _ | exact ints_size _ | exact bys_size _ | exact Lt.size_all _) (by first | omega | (simp only [List.length_map, List.length_append, List.length_cons, List.length_nil] <;> omega) | (simp <;> omega))) rfl ?_)
    (refine nx (aA (gN rfl) rfl rfl rfl rfl rfl) rfl ?_)
    show AWp _ _ _ _ _ _ _
    refine aT ⟨.inr rfl, _, Wk.refl _, ?_, rfl, trivial⟩
    show some (AV.sl _ _ _ _) = some (AV.sl _ _ _ _)
    rw [List.length_map]
    rfl
-- 
theorem cSign_abs (W : World) (l : Lt) : AFun Try.prog W 29 [l.cw] (.val (by8 (if l.neg then 1 else 0))) := by
  refine afun_of (rs := [by8 (if l.neg then 1 else 0)]) Try.func29 Try.ntmps29 rfl rfl rfl rfl ?_
  intro w U hW
  refine aS (aR ?_)
  (refine nx (a_box (gN rfl) rfl rfl rfl rfl rfl) rfl ?_)
  (refine nx (aA (gN rfl) rfl rfl rfl rfl rfl) rfl ?_)
  show AWp _ _ _ _ _ _ _
  refine aS (aS (aR ?_))
  (refine nx (aF (gN rfl) rfl rfl rfl rfl rfl rfl rfl rfl rfl) rfl ?_)
  (refine nx (aLb (gN rfl) rfl rfl rfl rfl rfl rfl rfl rfl rfl rfl rfl rfl) rfl ?_)
  show AWp _ _ _ _ _ _ _
  refine aC rfl (fun hc => ?_) (fun hc => ?_)
  · refine aS (aR ?_)
    (refine nx (aA (gN rfl) rfl rfl rfl rfl rfl) rfl ?_)
    show AWp _ _ _ _ _ _ _
    rw [if_pos hc]
    exact aT (And.intro (.inr rfl) rfl)
  · refine aK ?_
    show AWp _ _ _ _ _ _ _
    refine aS (aR ?_)
    (refine nx (aA (gN rfl) rfl rfl rfl rfl rfl) rfl ?_)
    show AWp _ _ _ _ _ _ _
    rw [if_neg (by rw [hc]; simp)]
    exact aT (And.intro (.inr rfl) rfl)
-- 
theorem cIsVar_abs (W : World) (t : Tm) : AFun Try.prog W 55 [t.cw] (.val (.b (decide (t.f < 0)))) := by
  refine afun_of (rs := [.b (decide (t.f < 0))]) Try.func55 Try.ntmps55 rfl rfl rfl rfl ?_
  intro w U hW
  refine aS (aR ?_)
  (refine nx (a_box (gN rfl) rfl rfl rfl rfl rfl) rfl ?_)
  (refine nx (aA (gN rfl) rfl rfl rfl rfl rfl) rfl ?_)
  show AWp _ _ _ _ _ _ _
  refine aS (aR ?_)
  (refine nx (aF (gN rfl) rfl rfl rfl rfl rfl rfl rfl rfl rfl) rfl ?_)
  (refine nx (aLb (gN rfl) rfl rfl rfl rfl rfl rfl rfl rfl rfl rfl rfl rfl) rfl ?_)
  (refine nx (a_lss (gN rfl) rfl rfl rfl rfl rfl rfl) rfl ?_)
  (refine nx (aA (gN rfl) rfl rfl rfl rfl rfl) rfl ?_)
  show AWp _ _ _ _ _ _ _
  exact aT (And.intro (.inr rfl) rfl)
theorem two_len (zs ys : List Int) : (zs.map by8).length + (ys.map by8).length = (zs ++ ys).length := by rw [List.length_map, List.length_map, List.length_append]
-- 
theorem cAppU_abs (zs : List Int) (n : Nat) (hn : n < 2 ^ 64) (hl : zs.length ≤ 1000000000) : AFunO Try.prog 27 (rB zs) [.sl 300001 0 zs.length 1, .val (.sc (.int .u64 (n : Int)))] (.sl 300001 0 (zs ++ ubytes n).length 1) (rB (zs ++ ubytes n)) := by
  have hu := ubytes_le n
  refine afunO_of Try.func27 Try.ntmps27 rfl rfl rfl rfl rfl rfl ?_
  intro w U hU
  refine aS (aR ?_)
  (refine nx (aA (gN rfl) rfl rfl rfl rfl rfl) rfl ?_)
  show AWp _ _ _ _ _ _ _
  refine aS (aR ?_)
  (refine nx (aM (gN rfl) rfl rfl rfl rfl rfl) rfl ?_)
  (refine nx (aM (gN rfl) rfl rfl rfl rfl rfl) rfl ?_)
  (refine nx (a_call (gN rfl) rfl rfl rfl rfl rfl (cPutU_abs w n hn)) rfl ?_)
  (refine nx (a_appM 300008 (gN rfl) rfl rfl rfl rfl rfl rfl rfl rfl rfl rfl rfl rfl rfl (by first | rfl | omega | (simp only [List.length_set, List.length_map, List.length_append, List.length_cons, List.length_nil] <;> omega) | (simp <;> omega)) (by first | assumption | exact sZ rfl | exact Tm.size_all _ | exact Bd.size_all _ | exact ints_size _ | exact bys_size _ | exact Lt.size_all _) (by first | omega | (simp only [List.length_map, List.length_append, List.length_cons, List.length_nil] <;> omega) | (simp <;> omega))) rfl ?_)
  (refine nx (aA (gN rfl) rfl rfl rfl rfl rfl) rfl ?_)
  show AWp _ _ _ _ _ _ _
  refine aT ⟨.inr rfl, _, (wk_sub (s' := [(4, .sl 300008 0 (zs ++ ubytes n).length 1), (300008, .mrow 5 1 ((zs ++ ubytes n).map by8))]) ⟨?_, ?_, trivial⟩).trans (wk_ren 300008 300001 rfl rfl (by kernel_rfl) (by kernel_rfl)), rfl, rfl, trivial⟩
  · show some (AV.sl 300008 0 ((zs.map by8).length + ((ubytes n).map by8).length) 1) = _
    rw [two_len]
  · show some (AV.mrow _ _ (zs.map by8 ++ (ubytes n).map by8)) = _
    rw [List.map_append]
    rfl
-- 
set_option maxHeartbeats 1000000 in
theorem cAppT_abs : ∀ (t : Tm), t.rng → t.ok → ∀ (zs : List Int), zs.length + (wT t).length ≤ 1000000000 → AFunO Try.prog 30 (rB zs) [.sl 300001 0 zs.length 1, .val t.cw] (.sl 300001 0 (zs ++ wT t).length 1) (rB (zs ++ wT t)) := by
  intro t
  induction t using Tm.indp with
  | h t ih =>
  intro hr hok zs hl
  obtain ⟨h1, h2⟩ := (Tm.rng_iff _).1 hr
  obtain ⟨h3, h4⟩ := (Tm.ok_iff _).1 hok
  have hu := ubytes_le (zz t.f)
  have hwp := wT_pos t
  refine afunO_of Try.func30 Try.ntmps30 rfl rfl rfl rfl rfl rfl ?_
  intro w U hU
  refine aS (aR ?_)
  (refine nx (a_box (gN rfl) rfl rfl rfl rfl rfl) rfl ?_)
  (refine nx (aA (gN rfl) rfl rfl rfl rfl rfl) rfl ?_)
  show AWp _ _ _ _ _ _ _
  have hul : (ubytes (zz t.f)).length ≤ (wT t).length := by
    by_cases hf : t.f < 0
    · rw [wT_var hf]; exact Nat.le_refl _
    · rw [wT_sym hf, List.length_append]; omega
  refine aS (aR ?_)
  (refine nx (aM (gN rfl) rfl rfl rfl rfl rfl) rfl ?_)
  (refine nx (aF (gN rfl) rfl rfl rfl rfl rfl rfl rfl rfl rfl) rfl ?_)
  (refine nx (aLb (gN rfl) rfl rfl rfl rfl rfl rfl rfl rfl rfl rfl rfl rfl) rfl ?_)
  (refine nx (a_call (gN rfl) rfl rfl rfl rfl rfl (cPutI_abs w t.f (by omega) (by omega))) rfl ?_)
  (refine nx (a_appM 300011 (gN rfl) rfl rfl rfl rfl rfl rfl rfl rfl rfl rfl rfl rfl rfl (by first | rfl | omega | (simp only [List.length_set, List.length_map, List.length_append, List.length_cons, List.length_nil] <;> omega) | (simp <;> omega)) (by first | assumption | exact sZ rfl | exact Tm.size_all _ | exact Bd.size_all _ | exact ints_size _ | exact bys_size _ | exact Lt.size_all _) (by first | omega | (simp only [List.length_map, List.length_append, List.length_cons, List.length_nil] <;> omega) | (simp <;> omega))) rfl ?_)
  (refine nx (aA (gN rfl) rfl rfl rfl rfl rfl) rfl ?_)
  show AWp _ _ _ _ _ _ _
  obtain ⟨z1, hz1⟩ : ∃ z, z = zs ++ ubytes (zz t.f) := ⟨_, rfl⟩
  refine AWp.wk ((wk_sub (s' := [(0, .sl 300011 0 z1.length 1), (3, .bp 3 0 []), (100003, .bx t.cw), (300011, .mrow 5 1 (z1.map by8))]) ⟨?_, rfl, rfl, ?_, trivial⟩).trans (wk_ren 300011 300001 rfl rfl (by kernel_rfl) (by kernel_rfl))) ?_
  · show some (AV.sl 300011 0 ((zs.map by8).length + ((ubytes (zz t.f)).map by8).length) 1) = _
    rw [two_len, hz1]
  · show some (AV.mrow _ _ (zs.map by8 ++ (ubytes (zz t.f)).map by8)) = _
    rw [hz1, List.map_append]
    rfl
  refine aS (aS (aR ?_))
  (refine nx (aL (gN rfl) rfl rfl rfl rfl rfl rfl rfl rfl rfl rfl rfl rfl) rfl ?_)
  (refine nx (a_call (gN rfl) rfl rfl rfl rfl rfl (cIsVar_abs w t)) rfl ?_)
  show AWp _ _ _ _ _ _ _
  by_cases hf : t.f < 0
  · have g : decide (t.f < 0) = true := by simpa using hf
    refine aC rfl (fun hc => ?_) (fun hc => by rw [g] at hc; cases hc)
    refine aS (aR ?_)
    (refine nx (aM (gN rfl) rfl rfl rfl rfl rfl) rfl ?_)
    (refine nx (aA (gN rfl) rfl rfl rfl rfl rfl) rfl ?_)
    show AWp _ _ _ _ _ _ _
    rw [wT_var hf, ← hz1]
    exact aT ⟨.inr rfl, _, Wk.refl _, rfl, rfl, trivial⟩
  have g : decide (t.f < 0) = false := by simpa using hf
  refine aC rfl (fun hc => by rw [g] at hc; cases hc) (fun hc => aK ?_)
  show AWp _ _ _ _ _ _ _
  have hps : t.ps = t.l := Tm.ps_of_sym (by omega)
  rw [hps] at ih
  have hw := wT_sym hf
  have hwl : (wT t).length = (ubytes (zz t.f)).length + ((ubytes t.l.length).length + (t.l.flatMap wT).length) := by rw [hw, List.length_append, List.length_append]
  have hz1l : z1.length = zs.length + (ubytes (zz t.f)).length := by rw [hz1, List.length_append]
  have hsz := Tm.size_all t.l
  obtain ⟨n, hn⟩ : ∃ n, n = (t.l.map Tm.cv).length := ⟨_, rfl⟩
  have hnl : n = t.l.length := by rw [hn, List.length_map]
  have hcu := cAppU_abs z1 n (by omega) (by omega)
  have hcv : IntKind.u64.wrap ((n : Nat) : Int) = ((n : Nat) : Int) := by
    rw [IntKind.wrap_u64]; omega
  rw [hn] at hcv hcu
  refine aS (aR ?_)
  (refine nx (aM (gN rfl) rfl rfl rfl rfl rfl) rfl ?_)
  (refine nx (aF (gN rfl) rfl rfl rfl rfl rfl rfl rfl rfl rfl) rfl ?_)
  (refine nx (aLb (gN rfl) rfl rfl rfl rfl rfl rfl rfl rfl rfl rfl rfl rfl) rfl ?_)
  (refine nx (a_len (gN rfl) rfl rfl rfl rfl rfl rfl rfl) rfl ?_)
  (refine nx (a_conv (gN rfl) rfl rfl rfl rfl rfl rfl rfl (by first | rfl | (rw [IntKind.wrap_i64]; omega) | assumption)) rfl ?_)
  (refine nx (a_callOD ([0, 15]) (gN rfl) rfl rfl rfl rfl rfl (hcu) (by repeat (first | exact trivial | refine ⟨rfl, ?_⟩)) (by first | rfl | kernel_rfl) (by first | rfl | kernel_rfl) (by first | rfl | kernel_rfl) (by first | rfl | kernel_rfl) (hnb_of (by first | rfl | kernel_rfl)) (by first | rfl | kernel_rfl) (by first | rfl | kernel_rfl) (by first | rfl | kernel_rfl)) rfl ?_)
  (refine nx (aA (gN rfl) rfl rfl rfl rfl rfl) rfl ?_)
  show AWp _ _ _ _ _ _ _
  rw [← hn] at hcu
  obtain ⟨z2, hz2⟩ : ∃ z, z = z1 ++ ubytes n := ⟨_, rfl⟩
  refine AWp.wk (wk_sub (s' := [(0, .sl 300001 0 z2.length 1), (3, .bp 3 0 []), (100003, .bx t.cw), (300001, .mrow 5 1 (z2.map by8))]) ⟨by rw [hz2, hn]; rfl, rfl, rfl, by rw [hz2, hn]; rfl, trivial⟩) ?_
  have hz2l : z2.length = z1.length + (ubytes t.l.length).length := by rw [hz2, List.length_append, hnl]
  refine aS (aS (aR ?_))
  (refine nx (aF (gN rfl) rfl rfl rfl rfl rfl rfl rfl rfl rfl) rfl ?_)
  (refine nx (aLb (gN rfl) rfl rfl rfl rfl rfl rfl rfl rfl rfl rfl rfl rfl) rfl ?_)
  (refine nx (a_len (gN rfl) rfl rfl rfl rfl rfl rfl rfl) rfl ?_)
  (refine nx (aM (gN rfl) rfl rfl rfl rfl rfl) rfl ?_)
  show AWp _ _ _ _ _ _ _
  rw [← hn]
  refine aB (awp_count t.l.length (fun k => [(0, .sl 300001 0 (z2 ++ (t.l.take k).flatMap wT).length 1), (22, .val (.lst (t.l.map Tm.cv))), (23, .val (.i n)), (24, .val (.i k)), (300001, .mrow 5 1 ((z2 ++ (t.l.take k).flatMap wT).map by8))]) (wk_sub ⟨by rw [List.take_zero, List.flatMap_nil, List.append_nil]; rfl, rfl, rfl, rfl, by rw [List.take_zero, List.flatMap_nil, List.append_nil]; rfl, trivial⟩) ?_)
  intro k hk
  refine aS (aR ?_)
  (refine nx (a_lss (gN rfl) rfl rfl rfl rfl rfl rfl) rfl ?_)
  show AWp _ _ _ _ _ _ _
  refine aS (aC rfl (fun hlt => ?_) (fun hlt => ?_))
  · have hkl : k < t.l.length := by
      have : ((k : Nat) : Int) < n := by simpa using hlt
      omega
    obtain ⟨x, hx⟩ : ∃ x, t.l[k]? = some x := ⟨t.l[k], List.getElem?_eq_getElem hkl⟩
    have hx' := Tm.map_at hx
    have hxm := List.mem_of_getElem? hx
    have htk : t.l.take (k + 1) = t.l.take k ++ [x] := by rw [List.take_add_one, hx]; rfl
    have hfl : (z2 ++ (t.l.take k).flatMap wT) ++ wT x = z2 ++ (t.l.take (k + 1)).flatMap wT := by
      rw [htk, List.flatMap_append, List.flatMap_cons, List.flatMap_nil, List.append_nil, List.append_assoc]
    have hle : ((t.l.take (k + 1)).flatMap wT).length ≤ (t.l.flatMap wT).length := by
      have : t.l.flatMap wT = (t.l.take (k + 1)).flatMap wT ++ (t.l.drop (k + 1)).flatMap wT := by rw [← List.flatMap_append, List.take_append_drop]
      rw [this, List.length_append]; omega
    have hle2 : ((t.l.take (k + 1)).flatMap wT).length = ((t.l.take k).flatMap wT).length + (wT x).length := by
      rw [htk, List.flatMap_append, List.flatMap_cons, List.flatMap_nil, List.append_nil, List.length_append]
    obtain ⟨zk, hzk⟩ : ∃ z, z = z2 ++ (t.l.take k).flatMap wT := ⟨_, rfl⟩
    have hzkl : zk.length = z2.length + ((t.l.take k).flatMap wT).length := by rw [hzk, List.length_append]
    have hrec := ih x hxm (h2 x hxm) (h4 x hxm) zk (by omega)
    rw [← hzk] at hfl ⊢
    refine aK ?_
    show AWp _ _ _ _ _ _ _
    refine aS (aB (aS (aR ?_)))
    (refine nx (a_index (j := k) (gN rfl) rfl rfl rfl rfl rfl rfl rfl rfl rfl (hx') rfl (hsz)) rfl ?_)
    (refine nx (a_load_ad (gN rfl) rfl rfl rfl rfl rfl rfl rfl rfl rfl) rfl ?_)
    (refine nx (a_alloc (gN rfl) rfl rfl rfl rfl rfl rfl rfl rfl rfl rfl) rfl ?_)
    (refine nx (aSt (gN rfl) rfl rfl rfl rfl rfl rfl rfl rfl rfl rfl) rfl ?_)
    show AWp _ _ _ _ _ _ _
    refine aR ?_
    (refine nx (aM (gN rfl) rfl rfl rfl rfl rfl) rfl ?_)
    (refine nx (aL (gN rfl) rfl rfl rfl rfl rfl rfl rfl rfl rfl rfl rfl rfl) rfl ?_)
    (refine nx (a_callOD ([0, 28]) (gN rfl) rfl rfl rfl rfl rfl (hrec) (by repeat (first | exact trivial | refine ⟨rfl, ?_⟩)) (by first | rfl | kernel_rfl) (by first | rfl | kernel_rfl) (by first | rfl | kernel_rfl) (by first | rfl | kernel_rfl) (hnb_of (by first | rfl | kernel_rfl)) (by first | rfl | kernel_rfl) (by first | rfl | kernel_rfl) (by first | rfl | kernel_rfl)) rfl ?_)
    (refine nx (aA (gN rfl) rfl rfl rfl rfl rfl) rfl ?_)
    show AWp _ _ _ _ _ _ _
    refine aR ?_
    (refine nx (a_add (gN rfl) rfl rfl rfl rfl rfl rfl (by first | omega | (simp only [List.length_map, List.length_append, List.length_cons, List.length_nil] <;> omega) | (simp <;> omega))) rfl ?_)
    (refine nx (aM (gN rfl) rfl rfl rfl rfl rfl) rfl ?_)
    refine ⟨hkl, wk_sub ⟨?_, rfl, rfl, rfl, ?_, trivial⟩⟩
    · rw [← hfl]; rfl
    · rw [← hfl]; rfl
  · have hkl : k = t.l.length := by
      have : ¬ ((k : Nat) : Int) < n := by simpa using hlt
      omega
    subst hkl
    refine aE ?_
    show AWp _ _ _ _ _ _ _
    have hend : z2 ++ (t.l.take t.l.length).flatMap wT = zs ++ wT t := by
      rw [List.take_length, hz2, hz1, hw, hnl, List.append_assoc, List.append_assoc]
    rw [hend]
    refine aS (aR ?_)
    (refine nx (aM (gN rfl) rfl rfl rfl rfl rfl) rfl ?_)
    (refine nx (aA (gN rfl) rfl rfl rfl rfl rfl) rfl ?_)
    show AWp _ _ _ _ _ _ _
    exact aT ⟨.inr rfl, _, Wk.refl _, rfl, rfl, trivial⟩
-- 
set_option maxHeartbeats 1000000 in
theorem cPut_abs (W : World) (zs : List Int) (c : List Lt) (hl : zs.length + (wC c).length ≤ 1000000000) (hc : ∀ l ∈ c, (l.a.rng ∧ l.a.ok) ∧ (l.b.rng ∧ l.b.ok)) : AFun Try.prog W 8 [.lst (zs.map by8), .lst (c.map Lt.cv)] (.val (.lst ((zs ++ wC c).map by8))) := by
  have hsz := Lt.size_all c
  have hclen : c.length ≤ (c.flatMap wL).length := by
    have : ∀ c : List Lt, c.length ≤ (c.flatMap wL).length := fun c => by
      induction c with
      | nil => exact Nat.zero_le _
      | cons l c ih =>
        have := wL_pos l
        rw [List.flatMap_cons, List.length_append, List.length_cons]; omega
    exact this c
  have hwl : (wC c).length = (ubytes c.length).length + (c.flatMap wL).length := by unfold wC; rw [List.length_append]
  obtain ⟨n, hn⟩ : ∃ n, n = (c.map Lt.cv).length := ⟨_, rfl⟩
  have hnl : n = c.length := by rw [hn, List.length_map]
  have hcl := cloneY_abs zs (by omega)
  have hcu := cAppU_abs zs n (by omega) (by omega)
  have hcv : IntKind.u64.wrap ((n : Nat) : Int) = ((n : Nat) : Int) := by
    rw [IntKind.wrap_u64]; omega
  rw [hn] at hcv hcu
  refine afun_of (rs := [.lst ((zs ++ wC c).map by8)]) Try.func8 Try.ntmps8 rfl rfl rfl rfl ?_
  intro w U hW
  refine aS (aR ?_)
  (refine nx (aA (gN rfl) rfl rfl rfl rfl rfl) rfl ?_)
  show AWp _ _ _ _ _ _ _
  refine aS (aR ?_)
  (refine nx (aM (gN rfl) rfl rfl rfl rfl rfl) rfl ?_)
  (refine nx (a_callO (gN rfl) rfl rfl rfl rfl rfl (hcl) (by repeat (first | exact trivial | refine ⟨rfl, ?_⟩)) (by first | rfl | kernel_rfl) (by first | rfl | kernel_rfl) (by first | rfl | kernel_rfl) (by first | rfl | kernel_rfl) (hnb_of (by first | rfl | kernel_rfl))) rfl ?_)
  (refine nx (aM (gN rfl) rfl rfl rfl rfl rfl) rfl ?_)
  (refine nx (a_len (gN rfl) rfl rfl rfl rfl rfl rfl rfl) rfl ?_)
  (refine nx (a_conv (gN rfl) rfl rfl rfl rfl rfl rfl rfl (by first | rfl | (rw [IntKind.wrap_i64]; omega) | assumption)) rfl ?_)
  (refine nx (a_callOD ([8]) (gN rfl) rfl rfl rfl rfl rfl (hcu) (by repeat (first | exact trivial | refine ⟨rfl, ?_⟩)) (by first | rfl | kernel_rfl) (by first | rfl | kernel_rfl) (by first | rfl | kernel_rfl) (by first | rfl | kernel_rfl) (hnb_of (by first | rfl | kernel_rfl)) (by first | rfl | kernel_rfl) (by first | rfl | kernel_rfl) (by first | rfl | kernel_rfl)) rfl ?_)
  (refine nx (aA (gN rfl) rfl rfl rfl rfl rfl) rfl ?_)
  show AWp _ _ _ _ _ _ _
  rw [← hn] at hcu
  obtain ⟨z2, hz2⟩ : ∃ z, z = zs ++ ubytes n := ⟨_, rfl⟩
  refine AWp.wk (wk_sub (s' := [(0, .sl 300001 0 z2.length 1), (1, .val (.lst (c.map Lt.cv))), (300001, .mrow 5 1 (z2.map by8))]) ⟨by rw [hz2, hn]; rfl, rfl, by rw [hz2, hn]; rfl, trivial⟩) ?_
  have hz2l : z2.length = zs.length + (ubytes c.length).length := by rw [hz2, List.length_append, hnl]
  refine aS (aS (aR ?_))
  (refine nx (aM (gN rfl) rfl rfl rfl rfl rfl) rfl ?_)
  (refine nx (a_len (gN rfl) rfl rfl rfl rfl rfl rfl rfl) rfl ?_)
  (refine nx (aM (gN rfl) rfl rfl rfl rfl rfl) rfl ?_)
  show AWp _ _ _ _ _ _ _
  rw [← hn]
  refine aB (awp_count c.length (fun k => [(0, .sl 300001 0 (z2 ++ (c.take k).flatMap wL).length 1), (13, .val (.lst (c.map Lt.cv))), (14, .val (.i n)), (15, .val (.i k)), (300001, .mrow 5 1 ((z2 ++ (c.take k).flatMap wL).map by8))]) (wk_sub ⟨by rw [List.take_zero, List.flatMap_nil, List.append_nil]; rfl, rfl, rfl, rfl, by rw [List.take_zero, List.flatMap_nil, List.append_nil]; rfl, trivial⟩) ?_)
  intro k hk
  refine aS (aR ?_)
  (refine nx (a_lss (gN rfl) rfl rfl rfl rfl rfl rfl) rfl ?_)
  show AWp _ _ _ _ _ _ _
  refine aS (aC rfl (fun hlt => ?_) (fun hlt => ?_))
  · have hkl : k < c.length := by
      have : ((k : Nat) : Int) < n := by simpa using hlt
      omega
    obtain ⟨l, hx⟩ : ∃ x, c[k]? = some x := ⟨c[k], List.getElem?_eq_getElem hkl⟩
    have hx' := Lt.map_at hx
    have hxm := List.mem_of_getElem? hx
    obtain ⟨⟨r1, o1⟩, r2, o2⟩ := hc l hxm
    have htk : c.take (k + 1) = c.take k ++ [l] := by rw [List.take_add_one, hx]; rfl
    have hle : ((c.take (k + 1)).flatMap wL).length ≤ (c.flatMap wL).length := by
      have : c.flatMap wL = (c.take (k + 1)).flatMap wL ++ (c.drop (k + 1)).flatMap wL := by rw [← List.flatMap_append, List.take_append_drop]
      rw [this, List.length_append]; omega
    have hle2 : ((c.take (k + 1)).flatMap wL).length = ((c.take k).flatMap wL).length + (wL l).length := by
      rw [htk, List.flatMap_append, List.flatMap_cons, List.flatMap_nil, List.append_nil, List.length_append]
    obtain ⟨zk, hzk⟩ : ∃ z, z = z2 ++ (c.take k).flatMap wL := ⟨_, rfl⟩
    have hzkl : zk.length = z2.length + ((c.take k).flatMap wL).length := by rw [hzk, List.length_append]
    have hwll : (wL l).length = 1 + ((wT l.a).length + (wT l.b).length) := by unfold wL; rw [List.length_cons, List.length_append]; omega
    obtain ⟨sg, hsg⟩ : ∃ s : Nat, s = if l.neg then 1 else 0 := ⟨_, rfl⟩
    have hsg1 : ((if l.neg then 1 else 0 : Int)) = (sg : Int) := by rw [hsg]; cases l.neg <;> rfl
    have hub : ubytes sg = [(sg : Int)] := by rw [hsg]; cases l.neg <;> decide
    have hsl := cSign_abs w l
    rw [hsg1] at hsl
    have hsu := cAppU_abs zk sg (by rw [hsg]; split <;> omega) (by omega)
    have hwv : IntKind.u64.wrap (sg : Int) = (sg : Int) := by
      rw [IntKind.wrap_u64]
      have : sg ≤ 1 := by rw [hsg]; split <;> omega
      omega
    rw [hub] at hsu
    obtain ⟨za, hza⟩ : ∃ z, z = zk ++ [(sg : Int)] := ⟨_, rfl⟩
    rw [← hza] at hsu
    have hzal : za.length = zk.length + 1 := by rw [hza, List.length_append]; rfl
    have hta := cAppT_abs l.a r1 o1 za (by omega)
    obtain ⟨zb, hzb⟩ : ∃ z, z = za ++ wT l.a := ⟨_, rfl⟩
    rw [← hzb] at hta
    have hzbl : zb.length = za.length + (wT l.a).length := by rw [hzb, List.length_append]
    have htb := cAppT_abs l.b r2 o2 zb (by omega)
    have hfl : zb ++ wT l.b = z2 ++ (c.take (k + 1)).flatMap wL := by
      rw [hzb, hza, hzk, htk, List.flatMap_append, List.flatMap_cons, List.flatMap_nil, List.append_nil]
      unfold wL
      rw [hsg1]
      simp
    rw [← hzk]
    refine aK ?_
    show AWp _ _ _ _ _ _ _
    refine aS (aB (aS (aR ?_)))
    (refine nx (a_index (j := k) (gN rfl) rfl rfl rfl rfl rfl rfl rfl rfl rfl (hx') rfl (hsz)) rfl ?_)
    (refine nx (a_load_ad (gN rfl) rfl rfl rfl rfl rfl rfl rfl rfl rfl) rfl ?_)
    (refine nx (a_alloc (gN rfl) rfl rfl rfl rfl rfl rfl rfl rfl rfl rfl) rfl ?_)
    (refine nx (aSt (gN rfl) rfl rfl rfl rfl rfl rfl rfl rfl rfl rfl) rfl ?_)
    show AWp _ _ _ _ _ _ _
    refine aS (aR ?_)
    (refine nx (aM (gN rfl) rfl rfl rfl rfl rfl) rfl ?_)
    (refine nx (aL (gN rfl) rfl rfl rfl rfl rfl rfl rfl rfl rfl rfl rfl rfl) rfl ?_)
    (refine nx (a_call (gN rfl) rfl rfl rfl rfl rfl (hsl)) rfl ?_)
    (refine nx (a_conv (gN rfl) rfl rfl rfl rfl rfl rfl rfl (by first | rfl | (rw [IntKind.wrap_i64]; omega) | assumption)) rfl ?_)
    (refine nx (a_callOD ([0, 19]) (gN rfl) rfl rfl rfl rfl rfl (hsu) (by repeat (first | exact trivial | refine ⟨rfl, ?_⟩)) (by first | rfl | kernel_rfl) (by first | rfl | kernel_rfl) (by first | rfl | kernel_rfl) (by first | rfl | kernel_rfl) (hnb_of (by first | rfl | kernel_rfl)) (by first | rfl | kernel_rfl) (by first | rfl | kernel_rfl) (by first | rfl | kernel_rfl)) rfl ?_)
    (refine nx (aA (gN rfl) rfl rfl rfl rfl rfl) rfl ?_)
    show AWp _ _ _ _ _ _ _
    refine AWp.wk (wk_sub (s' := [(0, .sl 300001 0 za.length 1), (6, .bp 6 0 []), (100006, .bx l.cw), (13, .val (.lst (c.map Lt.cv))), (14, .val (.i n)), (15, .val (.i k)), (300001, .mrow 5 1 (za.map by8))]) ⟨rfl, rfl, rfl, rfl, rfl, rfl, rfl, trivial⟩) ?_
    refine aS (aR ?_)
    (refine nx (aM (gN rfl) rfl rfl rfl rfl rfl) rfl ?_)
    (refine nx (aF (gN rfl) rfl rfl rfl rfl rfl rfl rfl rfl rfl) rfl ?_)
    (refine nx (aLb (gN rfl) rfl rfl rfl rfl rfl rfl rfl rfl rfl rfl rfl rfl) rfl ?_)
    (refine nx (a_callOD ([0, 24]) (gN rfl) rfl rfl rfl rfl rfl (hta) (by repeat (first | exact trivial | refine ⟨rfl, ?_⟩)) (by first | rfl | kernel_rfl) (by first | rfl | kernel_rfl) (by first | rfl | kernel_rfl) (by first | rfl | kernel_rfl) (hnb_of (by first | rfl | kernel_rfl)) (by first | rfl | kernel_rfl) (by first | rfl | kernel_rfl) (by first | rfl | kernel_rfl)) rfl ?_)
    (refine nx (aA (gN rfl) rfl rfl rfl rfl rfl) rfl ?_)
    show AWp _ _ _ _ _ _ _
    refine AWp.wk (wk_sub (s' := [(0, .sl 300001 0 zb.length 1), (6, .bp 6 0 []), (100006, .bx l.cw), (13, .val (.lst (c.map Lt.cv))), (14, .val (.i n)), (15, .val (.i k)), (300001, .mrow 5 1 (zb.map by8))]) ⟨rfl, rfl, rfl, rfl, rfl, rfl, rfl, trivial⟩) ?_
    refine aR ?_
    (refine nx (aM (gN rfl) rfl rfl rfl rfl rfl) rfl ?_)
    (refine nx (aF (gN rfl) rfl rfl rfl rfl rfl rfl rfl rfl rfl) rfl ?_)
    (refine nx (aLb (gN rfl) rfl rfl rfl rfl rfl rfl rfl rfl rfl rfl rfl rfl) rfl ?_)
    (refine nx (a_callOD ([0, 28]) (gN rfl) rfl rfl rfl rfl rfl (htb) (by repeat (first | exact trivial | refine ⟨rfl, ?_⟩)) (by first | rfl | kernel_rfl) (by first | rfl | kernel_rfl) (by first | rfl | kernel_rfl) (by first | rfl | kernel_rfl) (hnb_of (by first | rfl | kernel_rfl)) (by first | rfl | kernel_rfl) (by first | rfl | kernel_rfl) (by first | rfl | kernel_rfl)) rfl ?_)
    (refine nx (aA (gN rfl) rfl rfl rfl rfl rfl) rfl ?_)
    show AWp _ _ _ _ _ _ _
    refine aR ?_
    (refine nx (a_add (gN rfl) rfl rfl rfl rfl rfl rfl (by first | omega | (simp only [List.length_map, List.length_append, List.length_cons, List.length_nil] <;> omega) | (simp <;> omega))) rfl ?_)
    (refine nx (aM (gN rfl) rfl rfl rfl rfl rfl) rfl ?_)
    refine ⟨hkl, wk_sub ⟨?_, rfl, rfl, rfl, ?_, trivial⟩⟩
    · rw [← hfl]; rfl
    · rw [← hfl]; rfl
  · have hkl : k = c.length := by
      have : ¬ ((k : Nat) : Int) < n := by simpa using hlt
      omega
    subst hkl
    refine aE ?_
    show AWp _ _ _ _ _ _ _
    have hend : z2 ++ (c.take c.length).flatMap wL = zs ++ wC c := by
      unfold wC
      rw [List.take_length, hz2, hnl, List.append_assoc]
    rw [hend]
    refine aS (aR ?_)
    (refine nx (aM (gN rfl) rfl rfl rfl rfl rfl) rfl ?_)
    (refine nx (aA (gN rfl) rfl rfl rfl rfl rfl) rfl ?_)
    show AWp _ _ _ _ _ _ _
    refine AWp.wk ((wk_frz 4 300001 rfl rfl rfl (.inl hW.2) (by rw [List.length_map]; omega) (s' := []) trivial rfl).trans (wk_sub (s' := [(4, .val (.lst ((zs ++ wC c).map by8)))]) ⟨by rw [List.drop_zero, List.take_of_length_le (by rw [List.length_map]; exact Nat.le_refl _)]; rfl, trivial⟩)) ?_
    exact aT (And.intro (.inr rfl) rfl)
def zT : Tm := ⟨0, []⟩
def zL : Lt := ⟨false, zT, zT⟩
def okP {α : Type} (q : Nat) : Except Nat (α × Nat) → Int
  | .ok (_, c) => ((q + c : Nat) : Int)
  | .error _ => 0
def okE {α : Type} : Except Nat (α × Nat) → Int
  | .ok _ => 0
  | .error e => (e : Int)
def okN : Except Nat (Nat × Nat) → Int
  | .ok (v, _) => (v : Int)
  | .error _ => 0
noncomputable def okT : Except Nat (Tm × Nat) → CV
  | .ok (x, _) => x.cw
  | .error _ => .row [.i 0, .lst []]
noncomputable def okG : Except Nat (Lt × Nat) → CV
  | .ok (x, _) => x.cw
  | .error _ => .row [.b false, .row [.i 0, .lst []], .row [.i 0, .lst []]]
noncomputable def okLT : Except Nat (List Tm × Nat) → List CV
  | .ok (x, _) => x.map Tm.cv
  | .error _ => []
noncomputable def okLG : Except Nat (List Lt × Nat) → List CV
  | .ok (x, _) => x.map Lt.cv
  | .error _ => []
noncomputable abbrev tupN (q : Nat) (r : Except Nat (Nat × Nat)) : List CV := [.sc (.int .u64 (okN r)), .i (okP q r), by8 (okE r)]
noncomputable abbrev tupT (q : Nat) (r : Except Nat (Tm × Nat)) : List CV := [okT r, .i (okP q r), by8 (okE r)]
noncomputable abbrev tupG (q : Nat) (r : Except Nat (Lt × Nat)) : List CV := [okG r, .i (okP q r), by8 (okE r)]
noncomputable abbrev tupLT (q : Nat) (r : Except Nat (List Tm × Nat)) : List CV := [.lst (okLT r), .i (okP q r), by8 (okE r)]
noncomputable abbrev tupLG (q : Nat) (r : Except Nat (List Lt × Nat)) : List CV := [.lst (okLG r), .i (okP q r), by8 (okE r)]
theorem gU_in {zs : List Int} {q : Nat} (hq : q ≤ zs.length) : gU zs q = match rdU (zs.drop q) with
    | (v, c, 0) => ((v : Int), ((q + c : Nat) : Int), 0)
    | (_, _, e + 1) => (0, 0, ((e + 1 : Nat) : Int)) := by
  unfold gU
  rw [if_neg (by omega)]
  show (match rdU (zs.drop q) with
    | (v, c, 0) => ((v : Int), ((q : Int) + c), 0)
    | (_, _, e + 1) => (0, 0, ((e + 1 : Nat) : Int))) = _
  split <;> simp
theorem gI_in {zs : List Int} {q : Nat} (hq : q ≤ zs.length) : gI zs q = match rdU (zs.drop q) with
    | (v, c, 0) => (unzz v, ((q + c : Nat) : Int), 0)
    | (_, _, e + 1) => (0, 0, ((e + 1 : Nat) : Int)) := by
  unfold gI
  rw [if_neg (by omega)]
  show (match rdU (zs.drop q) with
    | (v, c, 0) => (unzz v, ((q : Int) + c), 0)
    | (_, _, e + 1) => (0, 0, ((e + 1 : Nat) : Int))) = _
  split <;> simp
-- 
theorem cGetE_abs (W : World) (zs : List Int) (p : Int) (most : Nat) (e : Nat) (he : e ≠ 0) (h : ∀ w, AFun Try.prog w 86 [.lst (zs.map by8), .i p] (.tup [.sc (.int .u64 0), .i 0, by8 (e : Int)])) : AFun Try.prog W 57 [.lst (zs.map by8), .i p, .sc (.int .u64 (most : Int))] (.tup [.sc (.int .u64 0), .i 0, by8 (e : Int)]) := by
  have g1 : decide ((e : Int) = 0) = false := by rw [decide_eq_false_iff_not]; omega
  have g2 : decide ((e : Int) ≠ 0) = true := by rw [decide_eq_true_eq]; omega
  refine afun_of (rs := [.sc (.int .u64 0), .i 0, by8 (e : Int)]) Try.func57 Try.ntmps57 rfl rfl rfl rfl ?_
  intro w U hW
  refine aS (aR ?_)
  (refine nx (aA (gN rfl) rfl rfl rfl rfl rfl) rfl ?_)
  (refine nx (aA (gN rfl) rfl rfl rfl rfl rfl) rfl ?_)
  (refine nx (aA (gN rfl) rfl rfl rfl rfl rfl) rfl ?_)
  show AWp _ _ _ _ _ _ _
  refine aS (aR ?_)
  (refine nx (aM (gN rfl) rfl rfl rfl rfl rfl) rfl ?_)
  (refine nx (aM (gN rfl) rfl rfl rfl rfl rfl) rfl ?_)
  (refine nx (a_call (gN rfl) rfl rfl rfl rfl rfl (h w)) rfl ?_)
  (refine nx (aM (gN rfl) rfl rfl rfl rfl rfl) rfl ?_)
  (refine nx (aX (gN rfl) rfl rfl rfl rfl rfl rfl) rfl ?_)
  (refine nx (aX (gN rfl) rfl rfl rfl rfl rfl rfl) rfl ?_)
  (refine nx (aX (gN rfl) rfl rfl rfl rfl rfl rfl) rfl ?_)
  (refine nx (aA (gN rfl) rfl rfl rfl rfl rfl) rfl ?_)
  (refine nx (aA (gN rfl) rfl rfl rfl rfl rfl) rfl ?_)
  (refine nx (aA (gN rfl) rfl rfl rfl rfl rfl) rfl ?_)
  show AWp _ _ _ _ _ _ _
  refine aS (aS (aR ?_))
  (refine nx (aM (gN rfl) rfl rfl rfl rfl rfl) rfl ?_)
  (refine nx (a_eql (gN rfl) rfl rfl rfl rfl rfl rfl) rfl ?_)
  (refine nx (aM (gN rfl) rfl rfl rfl rfl rfl) rfl ?_)
  (refine ⟨_, _, _, a_off (go_off rfl rfl rfl rfl (by first | rfl | assumption | (simp; done) | (simp [*]; done))) rfl rfl rfl, rfl, ?_⟩)
  (refine ⟨_, _, _, a_off (go_off rfl rfl rfl rfl (by first | rfl | assumption | (simp; done) | (simp [*]; done))) rfl rfl rfl, rfl, ?_⟩)
  (refine ⟨_, _, _, a_off (go_off rfl rfl rfl rfl (by first | rfl | assumption | (simp; done) | (simp [*]; done))) rfl rfl rfl, rfl, ?_⟩)
  (refine ⟨_, _, _, aPf (gN rfl) rfl rfl rfl rfl rfl ?hb rfl, rfl, ?_⟩; case hb => (first | rfl | assumption | (simp; done)))
  show AWp _ _ _ _ _ _ _
  refine aC rfl (fun hc => by cases hc) (fun hc => aK ?_)
  show AWp _ _ _ _ _ _ _
  refine aS (aS (aR ?_))
  (refine nx (aM (gN rfl) rfl rfl rfl rfl rfl) rfl ?_)
  (refine nx (a_neq (gN rfl) rfl rfl rfl rfl rfl rfl) rfl ?_)
  show AWp _ _ _ _ _ _ _
  refine aC rfl (fun hc => ?_) (fun hc => Bool.noConfusion (g2.symm.trans hc))
  refine aS (aR ?_)
  (refine nx (aM (gN rfl) rfl rfl rfl rfl rfl) rfl ?_)
  (refine nx (aA (gN rfl) rfl rfl rfl rfl rfl) rfl ?_)
  (refine nx (aA (gN rfl) rfl rfl rfl rfl rfl) rfl ?_)
  (refine nx (aA (gN rfl) rfl rfl rfl rfl rfl) rfl ?_)
  show AWp _ _ _ _ _ _ _
  exact aT (And.intro (.inr rfl) rfl)
-- 
theorem cGetN_abs (W : World) (zs : List Int) (hw : wfB zs) (hl : zs.length ≤ 1000000) (q : Nat) (hq : q ≤ zs.length) (most : Nat) : AFun Try.prog W 57 [.lst (zs.map by8), .i (q : Int), .sc (.int .u64 (most : Int))] (.tup (tupN q (rN most (zs.drop q)))) := by
  have hu := fun w => cUint_abs w zs hw hl q
  rw [gU_in hq] at hu
  unfold rN
  obtain ⟨⟨v, c, e⟩, hr⟩ : ∃ r, rdU (zs.drop q) = r := ⟨_, rfl⟩
  rw [hr] at hu ⊢
  cases e with
  | succ e => exact cGetE_abs W zs q most (e + 1) (by omega) hu
  | zero =>
  simp only at hu ⊢
  by_cases hv : v > most
  · rw [if_pos hv]
    have g : decide ((v : Int) > (most : Int)) = true := by rw [decide_eq_true_eq]; omega
    refine afun_of (rs := [.sc (.int .u64 0), .i 0, by8 (7 : Int)]) Try.func57 Try.ntmps57 rfl rfl rfl rfl ?_
    intro w U hW
    refine aS (aR ?_)
    (refine nx (aA (gN rfl) rfl rfl rfl rfl rfl) rfl ?_)
    (refine nx (aA (gN rfl) rfl rfl rfl rfl rfl) rfl ?_)
    (refine nx (aA (gN rfl) rfl rfl rfl rfl rfl) rfl ?_)
    show AWp _ _ _ _ _ _ _
    refine aS (aR ?_)
    (refine nx (aM (gN rfl) rfl rfl rfl rfl rfl) rfl ?_)
    (refine nx (aM (gN rfl) rfl rfl rfl rfl rfl) rfl ?_)
    (refine nx (a_call (gN rfl) rfl rfl rfl rfl rfl (hu w)) rfl ?_)
    (refine nx (aM (gN rfl) rfl rfl rfl rfl rfl) rfl ?_)
    (refine nx (aX (gN rfl) rfl rfl rfl rfl rfl rfl) rfl ?_)
    (refine nx (aX (gN rfl) rfl rfl rfl rfl rfl rfl) rfl ?_)
    (refine nx (aX (gN rfl) rfl rfl rfl rfl rfl rfl) rfl ?_)
    (refine nx (aA (gN rfl) rfl rfl rfl rfl rfl) rfl ?_)
    (refine nx (aA (gN rfl) rfl rfl rfl rfl rfl) rfl ?_)
    (refine nx (aA (gN rfl) rfl rfl rfl rfl rfl) rfl ?_)
    show AWp _ _ _ _ _ _ _
    refine aS (aS (aR ?_))
    (refine nx (aM (gN rfl) rfl rfl rfl rfl rfl) rfl ?_)
    (refine nx (a_eql (gN rfl) rfl rfl rfl rfl rfl rfl) rfl ?_)
    (refine nx (aM (gN rfl) rfl rfl rfl rfl rfl) rfl ?_)
    (refine nx (aM (gd_on rfl rfl rfl rfl (by first | rfl | assumption | (simp; done))) rfl rfl rfl rfl rfl) rfl ?_)
    (refine nx (aM (gd_on rfl rfl rfl rfl (by first | rfl | assumption | (simp; done))) rfl rfl rfl rfl rfl) rfl ?_)
    (refine nx (a_gtr (gd_on rfl rfl rfl rfl (by first | rfl | assumption | (simp; done))) rfl rfl rfl rfl rfl rfl) rfl ?_)
    (refine ⟨_, _, _, aPt (gN rfl) rfl rfl rfl rfl rfl ?hb rfl, rfl, ?_⟩; case hb => (first | rfl | assumption | (simp; done)))
    show AWp _ _ _ _ _ _ _
    refine aC rfl (fun hc => ?_) (fun hc => by rw [g] at hc; cases hc)
    refine aR ?_
    (refine nx (aA (gN rfl) rfl rfl rfl rfl rfl) rfl ?_)
    show AWp _ _ _ _ _ _ _
    refine aS (aS (aR ?_))
    (refine nx (aM (gN rfl) rfl rfl rfl rfl rfl) rfl ?_)
    (refine nx (a_neq (gN rfl) rfl rfl rfl rfl rfl rfl) rfl ?_)
    show AWp _ _ _ _ _ _ _
    refine aC rfl (fun hc => ?_) (fun hc => by cases hc)
    refine aS (aR ?_)
    (refine nx (aM (gN rfl) rfl rfl rfl rfl rfl) rfl ?_)
    (refine nx (aA (gN rfl) rfl rfl rfl rfl rfl) rfl ?_)
    (refine nx (aA (gN rfl) rfl rfl rfl rfl rfl) rfl ?_)
    (refine nx (aA (gN rfl) rfl rfl rfl rfl rfl) rfl ?_)
    show AWp _ _ _ _ _ _ _
    exact aT (And.intro (.inr rfl) rfl)
  · rw [if_neg hv]
    have g : decide ((v : Int) > (most : Int)) = false := by rw [decide_eq_false_iff_not]; omega
    refine afun_of (rs := tupN q (.ok (v, c))) Try.func57 Try.ntmps57 rfl rfl rfl rfl ?_
    intro w U hW
    refine aS (aR ?_)
    (refine nx (aA (gN rfl) rfl rfl rfl rfl rfl) rfl ?_)
    (refine nx (aA (gN rfl) rfl rfl rfl rfl rfl) rfl ?_)
    (refine nx (aA (gN rfl) rfl rfl rfl rfl rfl) rfl ?_)
    show AWp _ _ _ _ _ _ _
    refine aS (aR ?_)
    (refine nx (aM (gN rfl) rfl rfl rfl rfl rfl) rfl ?_)
    (refine nx (aM (gN rfl) rfl rfl rfl rfl rfl) rfl ?_)
    (refine nx (a_call (gN rfl) rfl rfl rfl rfl rfl (hu w)) rfl ?_)
    (refine nx (aM (gN rfl) rfl rfl rfl rfl rfl) rfl ?_)
    (refine nx (aX (gN rfl) rfl rfl rfl rfl rfl rfl) rfl ?_)
    (refine nx (aX (gN rfl) rfl rfl rfl rfl rfl rfl) rfl ?_)
    (refine nx (aX (gN rfl) rfl rfl rfl rfl rfl rfl) rfl ?_)
    (refine nx (aA (gN rfl) rfl rfl rfl rfl rfl) rfl ?_)
    (refine nx (aA (gN rfl) rfl rfl rfl rfl rfl) rfl ?_)
    (refine nx (aA (gN rfl) rfl rfl rfl rfl rfl) rfl ?_)
    show AWp _ _ _ _ _ _ _
    refine aS (aS (aR ?_))
    (refine nx (aM (gN rfl) rfl rfl rfl rfl rfl) rfl ?_)
    (refine nx (a_eql (gN rfl) rfl rfl rfl rfl rfl rfl) rfl ?_)
    (refine nx (aM (gN rfl) rfl rfl rfl rfl rfl) rfl ?_)
    (refine nx (aM (gd_on rfl rfl rfl rfl (by first | rfl | assumption | (simp; done))) rfl rfl rfl rfl rfl) rfl ?_)
    (refine nx (aM (gd_on rfl rfl rfl rfl (by first | rfl | assumption | (simp; done))) rfl rfl rfl rfl rfl) rfl ?_)
    (refine nx (a_gtr (gd_on rfl rfl rfl rfl (by first | rfl | assumption | (simp; done))) rfl rfl rfl rfl rfl rfl) rfl ?_)
    (refine ⟨_, _, _, aPt (gN rfl) rfl rfl rfl rfl rfl ?hb rfl, rfl, ?_⟩; case hb => (first | rfl | assumption | (simp; done)))
    show AWp _ _ _ _ _ _ _
    refine aC rfl (fun hc => by rw [g] at hc; cases hc) (fun hc => aK ?_)
    show AWp _ _ _ _ _ _ _
    refine aS (aS (aR ?_))
    (refine nx (aM (gN rfl) rfl rfl rfl rfl rfl) rfl ?_)
    (refine nx (a_neq (gN rfl) rfl rfl rfl rfl rfl rfl) rfl ?_)
    show AWp _ _ _ _ _ _ _
    refine aC rfl (fun hc => by cases hc) (fun hc => aK ?_)
    show AWp _ _ _ _ _ _ _
    refine aS (aR ?_)
    (refine nx (aM (gN rfl) rfl rfl rfl rfl rfl) rfl ?_)
    (refine nx (aM (gN rfl) rfl rfl rfl rfl rfl) rfl ?_)
    (refine nx (aA (gN rfl) rfl rfl rfl rfl rfl) rfl ?_)
    (refine nx (aA (gN rfl) rfl rfl rfl rfl rfl) rfl ?_)
    (refine nx (aA (gN rfl) rfl rfl rfl rfl rfl) rfl ?_)
    show AWp _ _ _ _ _ _ _
    exact aT (And.intro (.inr rfl) rfl)
theorem wr32 (x : Int) (h1 : -9223372036854775808 ≤ x) (h2 : x ≤ 9223372036854775807) : IntKind.i64.wrap (IntKind.i32.wrap x) = x ↔ (-2147483648 ≤ x ∧ x ≤ 2147483647) := by
  rw [IntKind.wrap_i64, IntKind.wrap_i32]
  omega
theorem unzz_rng {v : Nat} (h : v < 2 ^ 64) : -9223372036854775808 ≤ unzz v ∧ unzz v ≤ 9223372036854775807 := by
  unfold unzz
  split <;> omega
def rHd (l : List Int) : Except Nat (Tm × Nat) := match rH l with
  | .error e => .error e
  | .ok (f, c) => .ok (⟨f, []⟩, c)
-- 
theorem cGetH_abs (W : World) (zs : List Int) (hw : wfB zs) (hl : zs.length ≤ 1000000) (q : Nat) (hq : q ≤ zs.length) : AFun Try.prog W 87 [.lst (zs.map by8), .i (q : Int)] (.tup (tupT q (rHd (zs.drop q)))) := by
  have hu := fun w => cInt_abs w zs hw hl q
  rw [gI_in hq] at hu
  unfold rHd rH
  obtain ⟨⟨v, c, e⟩, hr⟩ : ∃ r, rdU (zs.drop q) = r := ⟨_, rfl⟩
  rw [hr] at hu ⊢
  cases e with
  | succ e =>
    simp only at hu ⊢
    have g1 : decide (((e + 1 : Nat) : Int) = 0) = false := by rw [decide_eq_false_iff_not]; omega
    have g2 : decide (((e + 1 : Nat) : Int) ≠ 0) = true := by rw [decide_eq_true_eq]; omega
    refine afun_of (rs := tupT q (.error (e + 1))) Try.func87 Try.ntmps87 rfl rfl rfl rfl ?_
    intro w U hW
    refine aS (aR ?_)
    (refine nx (a_alloc (gN rfl) rfl rfl rfl rfl rfl rfl rfl rfl rfl rfl) rfl ?_)
    (refine nx (aA (gN rfl) rfl rfl rfl rfl rfl) rfl ?_)
    (refine nx (aA (gN rfl) rfl rfl rfl rfl rfl) rfl ?_)
    show AWp _ _ _ _ _ _ _
    refine aS (aR ?_)
    (refine nx (aM (gN rfl) rfl rfl rfl rfl rfl) rfl ?_)
    (refine nx (aM (gN rfl) rfl rfl rfl rfl rfl) rfl ?_)
    (refine nx (a_call (gN rfl) rfl rfl rfl rfl rfl (hu w)) rfl ?_)
    (refine nx (aM (gN rfl) rfl rfl rfl rfl rfl) rfl ?_)
    (refine nx (aX (gN rfl) rfl rfl rfl rfl rfl rfl) rfl ?_)
    (refine nx (aX (gN rfl) rfl rfl rfl rfl rfl rfl) rfl ?_)
    (refine nx (aX (gN rfl) rfl rfl rfl rfl rfl rfl) rfl ?_)
    (refine nx (aA (gN rfl) rfl rfl rfl rfl rfl) rfl ?_)
    (refine nx (aA (gN rfl) rfl rfl rfl rfl rfl) rfl ?_)
    (refine nx (aA (gN rfl) rfl rfl rfl rfl rfl) rfl ?_)
    show AWp _ _ _ _ _ _ _
    refine aS (aS (aR ?_))
    (refine nx (aM (gN rfl) rfl rfl rfl rfl rfl) rfl ?_)
    (refine nx (a_eql (gN rfl) rfl rfl rfl rfl rfl rfl) rfl ?_)
    (refine nx (aM (gN rfl) rfl rfl rfl rfl rfl) rfl ?_)
    (refine ⟨_, _, _, a_offt (go_off rfl rfl rfl rfl (by first | rfl | assumption | (simp; done) | (simp [*]; done))) rfl rfl rfl, rfl, ?_⟩)
    (refine ⟨_, _, _, a_offt (go_off rfl rfl rfl rfl (by first | rfl | assumption | (simp; done) | (simp [*]; done))) rfl rfl rfl, rfl, ?_⟩)
    (refine ⟨_, _, _, a_offt (go_off rfl rfl rfl rfl (by first | rfl | assumption | (simp; done) | (simp [*]; done))) rfl rfl rfl, rfl, ?_⟩)
    (refine ⟨_, _, _, a_offt (go_off rfl rfl rfl rfl (by first | rfl | assumption | (simp; done) | (simp [*]; done))) rfl rfl rfl, rfl, ?_⟩)
    (refine ⟨_, _, _, a_offt (go_off rfl rfl rfl rfl (by first | rfl | assumption | (simp; done) | (simp [*]; done))) rfl rfl rfl, rfl, ?_⟩)
    (refine ⟨_, _, _, aPf (gN rfl) rfl rfl rfl rfl rfl ?hb rfl, rfl, ?_⟩; case hb => (first | rfl | assumption | (simp; done)))
    show AWp _ _ _ _ _ _ _
    refine aC rfl (fun hc => by cases hc) (fun hc => aK ?_)
    show AWp _ _ _ _ _ _ _
    refine aS (aS (aR ?_))
    (refine nx (aM (gN rfl) rfl rfl rfl rfl rfl) rfl ?_)
    (refine nx (a_neq (gN rfl) rfl rfl rfl rfl rfl rfl) rfl ?_)
    show AWp _ _ _ _ _ _ _
    refine aC rfl (fun hc => ?_) (fun hc => Bool.noConfusion (g2.symm.trans hc))
    refine aS (aR ?_)
    (refine nx (a_build (gN rfl) rfl rfl rfl rfl rfl rfl rfl rfl rfl rfl rfl) rfl ?_)
    (refine nx (aM (gN rfl) rfl rfl rfl rfl rfl) rfl ?_)
    (refine nx (aSt (gN rfl) rfl rfl rfl rfl rfl rfl rfl rfl rfl rfl) rfl ?_)
    (refine nx (aA (gN rfl) rfl rfl rfl rfl rfl) rfl ?_)
    (refine nx (aA (gN rfl) rfl rfl rfl rfl rfl) rfl ?_)
    show AWp _ _ _ _ _ _ _
    exact aT (And.intro (.inr rfl) rfl)
  | zero =>
  simp only at hu ⊢
  have hv64 := (rdU_bounds (fun z hz => hw z (List.mem_of_mem_drop hz)) hr).1
  obtain ⟨b1, b2⟩ := unzz_rng hv64
  have hwr := wr32 (unzz v) b1 b2
  by_cases hv : -2147483648 ≤ unzz v ∧ unzz v ≤ 2147483647
  · rw [if_pos hv]
    have g : decide (IntKind.i64.wrap (IntKind.i32.wrap (unzz v)) ≠ unzz v) = false := by rw [decide_eq_false_iff_not, ne_eq, Decidable.not_not]; exact hwr.2 hv
    refine afun_of (rs := tupT q (.ok (⟨unzz v, []⟩, c))) Try.func87 Try.ntmps87 rfl rfl rfl rfl ?_
    intro w U hW
    refine aS (aR ?_)
    (refine nx (a_alloc (gN rfl) rfl rfl rfl rfl rfl rfl rfl rfl rfl rfl) rfl ?_)
    (refine nx (aA (gN rfl) rfl rfl rfl rfl rfl) rfl ?_)
    (refine nx (aA (gN rfl) rfl rfl rfl rfl rfl) rfl ?_)
    show AWp _ _ _ _ _ _ _
    refine aS (aR ?_)
    (refine nx (aM (gN rfl) rfl rfl rfl rfl rfl) rfl ?_)
    (refine nx (aM (gN rfl) rfl rfl rfl rfl rfl) rfl ?_)
    (refine nx (a_call (gN rfl) rfl rfl rfl rfl rfl (hu w)) rfl ?_)
    (refine nx (aM (gN rfl) rfl rfl rfl rfl rfl) rfl ?_)
    (refine nx (aX (gN rfl) rfl rfl rfl rfl rfl rfl) rfl ?_)
    (refine nx (aX (gN rfl) rfl rfl rfl rfl rfl rfl) rfl ?_)
    (refine nx (aX (gN rfl) rfl rfl rfl rfl rfl rfl) rfl ?_)
    (refine nx (aA (gN rfl) rfl rfl rfl rfl rfl) rfl ?_)
    (refine nx (aA (gN rfl) rfl rfl rfl rfl rfl) rfl ?_)
    (refine nx (aA (gN rfl) rfl rfl rfl rfl rfl) rfl ?_)
    show AWp _ _ _ _ _ _ _
    refine aS (aS (aR ?_))
    (refine nx (aM (gN rfl) rfl rfl rfl rfl rfl) rfl ?_)
    (refine nx (a_eql (gN rfl) rfl rfl rfl rfl rfl rfl) rfl ?_)
    (refine nx (aM (gN rfl) rfl rfl rfl rfl rfl) rfl ?_)
    (refine nx (aM (gd_on rfl rfl rfl rfl (by first | rfl | assumption | (simp; done))) rfl rfl rfl rfl rfl) rfl ?_)
    (refine nx (a_convW (gd_on rfl rfl rfl rfl (by first | rfl | assumption | (simp; done))) rfl rfl rfl rfl rfl rfl rfl) rfl ?_)
    (refine nx (a_convW (gd_on rfl rfl rfl rfl (by first | rfl | assumption | (simp; done))) rfl rfl rfl rfl rfl rfl rfl) rfl ?_)
    (refine nx (aM (gd_on rfl rfl rfl rfl (by first | rfl | assumption | (simp; done))) rfl rfl rfl rfl rfl) rfl ?_)
    (refine nx (a_neq (gd_on rfl rfl rfl rfl (by first | rfl | assumption | (simp; done))) rfl rfl rfl rfl rfl rfl) rfl ?_)
    (refine ⟨_, _, _, aPt (gN rfl) rfl rfl rfl rfl rfl ?hb rfl, rfl, ?_⟩; case hb => (first | rfl | assumption | (simp; done)))
    show AWp _ _ _ _ _ _ _
    refine aC rfl (fun hc => by rw [g] at hc; cases hc) (fun hc => aK ?_)
    show AWp _ _ _ _ _ _ _
    refine aS (aS (aR ?_))
    (refine nx (aM (gN rfl) rfl rfl rfl rfl rfl) rfl ?_)
    (refine nx (a_neq (gN rfl) rfl rfl rfl rfl rfl rfl) rfl ?_)
    show AWp _ _ _ _ _ _ _
    refine aC rfl (fun hc => by cases hc) (fun hc => aK ?_)
    show AWp _ _ _ _ _ _ _
    refine aS (aR ?_)
    (refine nx (aM (gN rfl) rfl rfl rfl rfl rfl) rfl ?_)
    (refine nx (a_build (gN rfl) rfl rfl rfl rfl rfl rfl rfl rfl rfl rfl rfl) rfl ?_)
    (refine nx (aM (gN rfl) rfl rfl rfl rfl rfl) rfl ?_)
    (refine nx (aSt (gN rfl) rfl rfl rfl rfl rfl rfl rfl rfl rfl rfl) rfl ?_)
    (refine nx (aA (gN rfl) rfl rfl rfl rfl rfl) rfl ?_)
    (refine nx (aA (gN rfl) rfl rfl rfl rfl rfl) rfl ?_)
    show AWp _ _ _ _ _ _ _
    exact aT (And.intro (.inr rfl) rfl)
  · rw [if_neg hv]
    have g : decide (IntKind.i64.wrap (IntKind.i32.wrap (unzz v)) ≠ unzz v) = true := by rw [decide_eq_true_eq]; exact fun h => hv (hwr.1 h)
    refine afun_of (rs := tupT q (.error 7)) Try.func87 Try.ntmps87 rfl rfl rfl rfl ?_
    intro w U hW
    refine aS (aR ?_)
    (refine nx (a_alloc (gN rfl) rfl rfl rfl rfl rfl rfl rfl rfl rfl rfl) rfl ?_)
    (refine nx (aA (gN rfl) rfl rfl rfl rfl rfl) rfl ?_)
    (refine nx (aA (gN rfl) rfl rfl rfl rfl rfl) rfl ?_)
    show AWp _ _ _ _ _ _ _
    refine aS (aR ?_)
    (refine nx (aM (gN rfl) rfl rfl rfl rfl rfl) rfl ?_)
    (refine nx (aM (gN rfl) rfl rfl rfl rfl rfl) rfl ?_)
    (refine nx (a_call (gN rfl) rfl rfl rfl rfl rfl (hu w)) rfl ?_)
    (refine nx (aM (gN rfl) rfl rfl rfl rfl rfl) rfl ?_)
    (refine nx (aX (gN rfl) rfl rfl rfl rfl rfl rfl) rfl ?_)
    (refine nx (aX (gN rfl) rfl rfl rfl rfl rfl rfl) rfl ?_)
    (refine nx (aX (gN rfl) rfl rfl rfl rfl rfl rfl) rfl ?_)
    (refine nx (aA (gN rfl) rfl rfl rfl rfl rfl) rfl ?_)
    (refine nx (aA (gN rfl) rfl rfl rfl rfl rfl) rfl ?_)
    (refine nx (aA (gN rfl) rfl rfl rfl rfl rfl) rfl ?_)
    show AWp _ _ _ _ _ _ _
    refine aS (aS (aR ?_))
    (refine nx (aM (gN rfl) rfl rfl rfl rfl rfl) rfl ?_)
    (refine nx (a_eql (gN rfl) rfl rfl rfl rfl rfl rfl) rfl ?_)
    (refine nx (aM (gN rfl) rfl rfl rfl rfl rfl) rfl ?_)
    (refine nx (aM (gd_on rfl rfl rfl rfl (by first | rfl | assumption | (simp; done))) rfl rfl rfl rfl rfl) rfl ?_)
    (refine nx (a_convW (gd_on rfl rfl rfl rfl (by first | rfl | assumption | (simp; done))) rfl rfl rfl rfl rfl rfl rfl) rfl ?_)
    (refine nx (a_convW (gd_on rfl rfl rfl rfl (by first | rfl | assumption | (simp; done))) rfl rfl rfl rfl rfl rfl rfl) rfl ?_)
    (refine nx (aM (gd_on rfl rfl rfl rfl (by first | rfl | assumption | (simp; done))) rfl rfl rfl rfl rfl) rfl ?_)
    (refine nx (a_neq (gd_on rfl rfl rfl rfl (by first | rfl | assumption | (simp; done))) rfl rfl rfl rfl rfl rfl) rfl ?_)
    (refine ⟨_, _, _, aPt (gN rfl) rfl rfl rfl rfl rfl ?hb rfl, rfl, ?_⟩; case hb => (first | rfl | assumption | (simp; done)))
    show AWp _ _ _ _ _ _ _
    refine aC rfl (fun hc => ?_) (fun hc => by rw [g] at hc; cases hc)
    refine aR ?_
    (refine nx (aA (gN rfl) rfl rfl rfl rfl rfl) rfl ?_)
    show AWp _ _ _ _ _ _ _
    refine aS (aS (aR ?_))
    (refine nx (aM (gN rfl) rfl rfl rfl rfl rfl) rfl ?_)
    (refine nx (a_neq (gN rfl) rfl rfl rfl rfl rfl rfl) rfl ?_)
    show AWp _ _ _ _ _ _ _
    refine aC rfl (fun hc => ?_) (fun hc => by cases hc)
    refine aS (aR ?_)
    (refine nx (a_build (gN rfl) rfl rfl rfl rfl rfl rfl rfl rfl rfl rfl rfl) rfl ?_)
    (refine nx (aM (gN rfl) rfl rfl rfl rfl rfl) rfl ?_)
    (refine nx (aSt (gN rfl) rfl rfl rfl rfl rfl rfl rfl rfl rfl rfl) rfl ?_)
    (refine nx (aA (gN rfl) rfl rfl rfl rfl rfl) rfl ?_)
    (refine nx (aA (gN rfl) rfl rfl rfl rfl rfl) rfl ?_)
    show AWp _ _ _ _ _ _ _
    exact aT (And.intro (.inr rfl) rfl)
def cmb {α : Type} (xs : List α) (q0 q : Nat) : Except Nat (List α × Nat) → Except Nat (List α × Nat)
  | .error e => .error e
  | .ok (ys, c) => .ok (xs ++ ys, q - q0 + c)
-- 
set_option maxHeartbeats 2000000 in
theorem cListT_abs (W : World) (zs : List Int) (hw : wfB zs) (hl : zs.length ≤ 1000000) (fc : CV) (g : List Int → Except Nat (Tm × Nat)) (hg : ∀ l x c, wfB l → g l = .ok (x, c) → c ≤ l.length) (her : ∀ l, Er (g l)) (hf : ∀ w (q : Nat), q ≤ zs.length → AFunV Try.prog w fc [.i (q : Int)] (.tup (tupT q (g (zs.drop q))))) (q : Nat) (hq : q ≤ zs.length) : AFun Try.prog W 88 [.lst (zs.map by8), .i (q : Int), fc] (.tup (tupLT q (rList g (zs.drop q)))) := by
  have hn := fun w => cGetN_abs w zs hw hl q hq 4096
  obtain ⟨R, hR⟩ : ∃ R, R = rList g (zs.drop q) := ⟨_, rfl⟩
  have hR' := hR
  unfold rList at hR'
  cases hrn : rN 4096 (zs.drop q) with
  | error e =>
    rw [hrn] at hn hR'
    simp only at hR'
    rw [← hR, hR']
    have he0 : e ≠ 0 := by rcases rN_er _ hrn with h | h <;> omega
    have g2 : decide ((e : Int) ≠ 0) = true := by rw [decide_eq_true_eq]; omega
    refine afun_of (rs := tupLT q (.error e)) Try.func88 Try.ntmps88 rfl rfl rfl rfl ?_
    intro w U hW
    refine aS (aR ?_)
    (refine nx (aA (gN rfl) rfl rfl rfl rfl rfl) rfl ?_)
    (refine nx (aA (gN rfl) rfl rfl rfl rfl rfl) rfl ?_)
    (refine nx (aA (gN rfl) rfl rfl rfl rfl rfl) rfl ?_)
    show AWp _ _ _ _ _ _ _
    refine aS (aR ?_)
    (refine nx (aM (gN rfl) rfl rfl rfl rfl rfl) rfl ?_)
    (refine nx (aM (gN rfl) rfl rfl rfl rfl rfl) rfl ?_)
    (refine nx (a_call (gN rfl) rfl rfl rfl rfl rfl (hn w)) rfl ?_)
    (refine nx (aM (gN rfl) rfl rfl rfl rfl rfl) rfl ?_)
    (refine nx (aX (gN rfl) rfl rfl rfl rfl rfl rfl) rfl ?_)
    (refine nx (aX (gN rfl) rfl rfl rfl rfl rfl rfl) rfl ?_)
    (refine nx (aX (gN rfl) rfl rfl rfl rfl rfl rfl) rfl ?_)
    (refine nx (aA (gN rfl) rfl rfl rfl rfl rfl) rfl ?_)
    (refine nx (aA (gN rfl) rfl rfl rfl rfl rfl) rfl ?_)
    (refine nx (aA (gN rfl) rfl rfl rfl rfl rfl) rfl ?_)
    show AWp _ _ _ _ _ _ _
    refine aS (aS (aR ?_))
    (refine nx (aM (gN rfl) rfl rfl rfl rfl rfl) rfl ?_)
    (refine nx (a_neq (gN rfl) rfl rfl rfl rfl rfl rfl) rfl ?_)
    show AWp _ _ _ _ _ _ _
    refine aC rfl (fun hc => ?_) (fun hc => Bool.noConfusion (g2.symm.trans hc))
    refine aS (aR ?_)
    (refine nx (aM (gN rfl) rfl rfl rfl rfl rfl) rfl ?_)
    (refine nx (aA (gN rfl) rfl rfl rfl rfl rfl) rfl ?_)
    (refine nx (aA (gN rfl) rfl rfl rfl rfl rfl) rfl ?_)
    (refine nx (aA (gN rfl) rfl rfl rfl rfl rfl) rfl ?_)
    show AWp _ _ _ _ _ _ _
    exact aT (And.intro (.inr rfl) rfl)
  | ok vc =>
  obtain ⟨n, c⟩ := vc
  rw [hrn] at hn hR'
  simp only at hR'
  obtain ⟨hcl, _⟩ := rN_back (hw.drop q) n c hrn
  rw [List.length_drop] at hcl
  have hn4 : n ≤ 4096 := by
    unfold rN at hrn
    split at hrn
    · split at hrn
      · cases hrn
      · cases hrn; omega
    · cases hrn
  rw [List.drop_drop] at hR'
  rw [← hR]
  refine afun_of (rs := tupLT q R) Try.func88 Try.ntmps88 rfl rfl rfl rfl ?_
  intro w U hW
  refine aS (aR ?_)
  (refine nx (aA (gN rfl) rfl rfl rfl rfl rfl) rfl ?_)
  (refine nx (aA (gN rfl) rfl rfl rfl rfl rfl) rfl ?_)
  (refine nx (aA (gN rfl) rfl rfl rfl rfl rfl) rfl ?_)
  show AWp _ _ _ _ _ _ _
  refine aS (aR ?_)
  (refine nx (aM (gN rfl) rfl rfl rfl rfl rfl) rfl ?_)
  (refine nx (aM (gN rfl) rfl rfl rfl rfl rfl) rfl ?_)
  (refine nx (a_call (gN rfl) rfl rfl rfl rfl rfl (hn w)) rfl ?_)
  (refine nx (aM (gN rfl) rfl rfl rfl rfl rfl) rfl ?_)
  (refine nx (aX (gN rfl) rfl rfl rfl rfl rfl rfl) rfl ?_)
  (refine nx (aX (gN rfl) rfl rfl rfl rfl rfl rfl) rfl ?_)
  (refine nx (aX (gN rfl) rfl rfl rfl rfl rfl rfl) rfl ?_)
  (refine nx (aA (gN rfl) rfl rfl rfl rfl rfl) rfl ?_)
  (refine nx (aA (gN rfl) rfl rfl rfl rfl rfl) rfl ?_)
  (refine nx (aA (gN rfl) rfl rfl rfl rfl rfl) rfl ?_)
  show AWp _ _ _ _ _ _ _
  refine aS (aS (aR ?_))
  (refine nx (aM (gN rfl) rfl rfl rfl rfl rfl) rfl ?_)
  (refine nx (a_neq (gN rfl) rfl rfl rfl rfl rfl rfl) rfl ?_)
  show AWp _ _ _ _ _ _ _
  refine aC rfl (fun hc => by cases hc) (fun hc => aK ?_)
  show AWp _ _ _ _ _ _ _
  refine aS (aR ?_)
  (refine nx (aA (gN rfl) rfl rfl rfl rfl rfl) rfl ?_)
  show AWp _ _ _ _ _ _ _
  refine aS (aS (aR ?_))
  (refine nx (aM (gN rfl) rfl rfl rfl rfl rfl) rfl ?_)
  (refine nx (aM (gN rfl) rfl rfl rfl rfl rfl) rfl ?_)
  show AWp _ _ _ _ _ _ _
  refine aB (awp_loop (fun m st => ∃ (xs : List Tm) (p : Nat), xs.length + m = n ∧ q ≤ p ∧ p ≤ zs.length ∧ R = cmb xs q p (rMany g m (zs.drop p)) ∧ st = [(1, AV.val (.i (p : Int))), (2, .val fc), (11, .own (.lst (xs.map Tm.cv)) 200039), (200039, .tok 50 2), (23, .val (.sc (.int .u64 (n : Int)))), (24, .val (.sc (.int .u64 (xs.length : Int))))]) (n := n) (s' := [(1, AV.val (.i ((q + c : Nat) : Int))), (2, .val fc), (11, .own (.lst (([] : List Tm).map Tm.cv)) 200039), (200039, .tok 50 2), (23, .val (.sc (.int .u64 (n : Int)))), (24, .val (.sc (.int .u64 ((([] : List Tm).length : Nat) : Int))))]) ((wk_nil 11 200039 50 2 rfl rfl rfl rfl rfl rfl rfl).trans (wk_sub ⟨rfl, rfl, rfl, rfl, rfl, rfl, trivial⟩)) ⟨[], q + c, by simp, by omega, by omega, ?_, rfl⟩ ?_)
  · rw [hR']
    unfold cmb
    cases rMany g n (zs.drop (q + c)) with
    | error e => rfl
    | ok yc => obtain ⟨ys, c'⟩ := yc; simp
  clear hR hR' hn hrn
  rintro m st ⟨xs, p, hxm, hqp, hpl, hR, rfl⟩
  refine aS (aR ?_)
  (refine nx (a_lss (gN rfl) rfl rfl rfl rfl rfl rfl) rfl ?_)
  show AWp _ _ _ _ _ _ _
  cases m with
  | zero =>
    refine aS (aC rfl (fun hlt => ?_) (fun hlt => ?_))
    · have := of_decide_eq_true hlt
      omega
    refine aE ?_
    show AWp _ _ _ _ _ _ _
    have hR2 : R = .ok (xs, p - q) := by rw [hR]; simp [rMany, cmb]
    rw [hR2]
    refine aS (aR ?_)
    (refine nx (aM (gN rfl) rfl rfl rfl rfl rfl) rfl ?_)
    (refine nx (aM (gN rfl) rfl rfl rfl rfl rfl) rfl ?_)
    (refine nx (aA (gN rfl) rfl rfl rfl rfl rfl) rfl ?_)
    (refine nx (aA (gN rfl) rfl rfl rfl rfl rfl) rfl ?_)
    (refine nx (aA (gN rfl) rfl rfl rfl rfl rfl) rfl ?_)
    show AWp _ _ _ _ _ _ _
    refine aT (And.intro (.inr rfl) ?_)
    show some [CV.lst (xs.map Tm.cv), .i (p : Int), by8 0] = some [CV.lst (xs.map Tm.cv), .i ((q + (p - q) : Nat) : Int), by8 0]
    rw [show q + (p - q) = p by omega]
  | succ m =>
    refine aS (aC rfl (fun hlt => ?_) (fun hlt => ?_))
    case refine_2 =>
      have := of_decide_eq_false hlt
      omega
    refine aK ?_
    show AWp _ _ _ _ _ _ _
    rw [rMany] at hR
    have hcall := hf w p hpl
    cases hgp : g (zs.drop p) with
    | error e =>
      rw [hgp] at hR hcall
      simp only [cmb] at hR
      have he0 : e ≠ 0 := by rcases her _ _ hgp with h | h <;> omega
      have g2 : decide ((e : Int) ≠ 0) = true := by rw [decide_eq_true_eq]; omega
      rw [hR]
      refine aS (aB (aS (aR ?_)))
      (refine nx (a_alloc (gN rfl) rfl rfl rfl rfl rfl rfl rfl rfl rfl rfl) rfl ?_)
      show AWp _ _ _ _ _ _ _
      refine aS (aR ?_)
      (refine nx (aM (gN rfl) rfl rfl rfl rfl rfl) rfl ?_)
      (refine nx (aM (gN rfl) rfl rfl rfl rfl rfl) rfl ?_)
      (refine nx (a_callv (gN rfl) rfl rfl rfl rfl rfl rfl (hcall)) rfl ?_)
      (refine nx (aM (gN rfl) rfl rfl rfl rfl rfl) rfl ?_)
      (refine nx (aX (gN rfl) rfl rfl rfl rfl rfl rfl) rfl ?_)
      (refine nx (aX (gN rfl) rfl rfl rfl rfl rfl rfl) rfl ?_)
      (refine nx (aX (gN rfl) rfl rfl rfl rfl rfl rfl) rfl ?_)
      (refine nx (aSt (gN rfl) rfl rfl rfl rfl rfl rfl rfl rfl rfl rfl) rfl ?_)
      (refine nx (aA (gN rfl) rfl rfl rfl rfl rfl) rfl ?_)
      (refine nx (aA (gN rfl) rfl rfl rfl rfl rfl) rfl ?_)
      show AWp _ _ _ _ _ _ _
      refine aS (aS (aR ?_))
      (refine nx (aM (gN rfl) rfl rfl rfl rfl rfl) rfl ?_)
      (refine nx (a_neq (gN rfl) rfl rfl rfl rfl rfl rfl) rfl ?_)
      show AWp _ _ _ _ _ _ _
      refine aC rfl (fun hc => ?_) (fun hc => Bool.noConfusion (g2.symm.trans hc))
      refine aS (aR ?_)
      (refine nx (aM (gN rfl) rfl rfl rfl rfl rfl) rfl ?_)
      (refine nx (aA (gN rfl) rfl rfl rfl rfl rfl) rfl ?_)
      (refine nx (aA (gN rfl) rfl rfl rfl rfl rfl) rfl ?_)
      (refine nx (aA (gN rfl) rfl rfl rfl rfl rfl) rfl ?_)
      show AWp _ _ _ _ _ _ _
      exact aT (And.intro (.inr rfl) rfl)
    | ok xc =>
      obtain ⟨x, c1⟩ := xc
      rw [hgp] at hR hcall
      simp only at hR
      have hc1 := hg _ x c1 (hw.drop p) hgp
      rw [List.length_drop] at hc1
      rw [List.drop_drop] at hR
      have hsx := Tm.size_all xs
      have hbx : (xs.map Tm.cv).length ≤ 4096 := by rw [List.length_map]; omega
      have hak : IntKind.u64.wrap ((xs.length : Int) + 1) = (xs.length : Int) + 1 := by rw [IntKind.wrap_u64]; omega
      refine aS (aB (aS (aR ?_)))
      (refine nx (a_alloc (gN rfl) rfl rfl rfl rfl rfl rfl rfl rfl rfl rfl) rfl ?_)
      show AWp _ _ _ _ _ _ _
      refine aS (aR ?_)
      (refine nx (aM (gN rfl) rfl rfl rfl rfl rfl) rfl ?_)
      (refine nx (aM (gN rfl) rfl rfl rfl rfl rfl) rfl ?_)
      (refine nx (a_callv (gN rfl) rfl rfl rfl rfl rfl rfl (hcall)) rfl ?_)
      (refine nx (aM (gN rfl) rfl rfl rfl rfl rfl) rfl ?_)
      (refine nx (aX (gN rfl) rfl rfl rfl rfl rfl rfl) rfl ?_)
      (refine nx (aX (gN rfl) rfl rfl rfl rfl rfl rfl) rfl ?_)
      (refine nx (aX (gN rfl) rfl rfl rfl rfl rfl rfl) rfl ?_)
      (refine nx (aSt (gN rfl) rfl rfl rfl rfl rfl rfl rfl rfl rfl rfl) rfl ?_)
      (refine nx (aA (gN rfl) rfl rfl rfl rfl rfl) rfl ?_)
      (refine nx (aA (gN rfl) rfl rfl rfl rfl rfl) rfl ?_)
      show AWp _ _ _ _ _ _ _
      refine aS (aS (aR ?_))
      (refine nx (aM (gN rfl) rfl rfl rfl rfl rfl) rfl ?_)
      (refine nx (a_neq (gN rfl) rfl rfl rfl rfl rfl rfl) rfl ?_)
      show AWp _ _ _ _ _ _ _
      refine aC rfl (fun hc => by cases hc) (fun hc => aK ?_)
      show AWp _ _ _ _ _ _ _
      refine aR ?_
      (refine nx (aM (gN rfl) rfl rfl rfl rfl rfl) rfl ?_)
      (refine nx (aL (gN rfl) rfl rfl rfl rfl rfl rfl rfl rfl rfl rfl rfl rfl) rfl ?_)
      (refine nx (a_bslice (gN rfl) rfl rfl rfl rfl rfl rfl rfl rfl rfl rfl rfl rfl rfl) rfl ?_)
      (refine nx (a_app (gN rfl) rfl rfl rfl rfl rfl rfl rfl rfl rfl rfl rfl rfl rfl rfl rfl (by first | assumption | exact sZ rfl | exact Tm.size_all _ | exact Bd.size_all _ | exact ints_size _ | exact bys_size _ | exact Lt.size_all _) (by first | assumption | exact sZ rfl | exact Tm.size_all _ | exact Bd.size_all _ | exact ints_size _ | exact bys_size _ | exact Lt.size_all _) (by first | omega | (simp only [List.length_map, List.length_append, List.length_cons, List.length_nil] <;> omega) | (simp <;> omega))) rfl ?_)
      (refine nx (aA (gN rfl) rfl rfl rfl rfl rfl) rfl ?_)
      show AWp _ _ _ _ _ _ _
      refine aR ?_
      (refine nx (a_addK (gN rfl) rfl rfl rfl rfl rfl rfl (hak)) rfl ?_)
      (refine nx (aM (gN rfl) rfl rfl rfl rfl rfl) rfl ?_)
      refine ⟨m, [(1, AV.val (.i ((p + c1 : Nat) : Int))), (2, .val fc), (11, .own (.lst ((xs ++ [x]).map Tm.cv)) 200039), (200039, .tok 50 2), (23, .val (.sc (.int .u64 (n : Int)))), (24, .val (.sc (.int .u64 ((xs ++ [x]).length : Int))))], by omega, ⟨xs ++ [x], p + c1, by rw [List.length_append, List.length_singleton]; omega, by omega, by omega, ?_, rfl⟩, ?_⟩
      · rw [hR]
        cases rMany g m (zs.drop (p + c1)) with
        | error e => rfl
        | ok yc =>
          obtain ⟨ys, c'⟩ := yc
          simp only [cmb, List.append_assoc, List.singleton_append]
          rw [show p - q + (c1 + c') = p + c1 - q + c' by omega]
      · refine Wk.trans (wk_sub (s' := [(1, AV.val (.i ((p + c1 : Nat) : Int))), (2, .val fc), (11, .own (.lst ((xs ++ [x]).map Tm.cv)) 300039), (300039, .tok 50 2), (23, .val (.sc (.int .u64 (n : Int)))), (24, .val (.sc (.int .u64 ((xs ++ [x]).length : Int))))]) ⟨rfl, rfl, ?_, rfl, rfl, ?_, trivial⟩) (wk_ren 300039 200039 rfl rfl rfl rfl)
        · rw [List.map_append]
          simp only [List.map_cons, List.map_nil, Tm.cv_eq]
          rfl
        · rw [List.length_append, List.length_singleton, Int.natCast_add]
          rfl
-- 
set_option maxHeartbeats 2000000 in
theorem cListG_abs (W : World) (zs : List Int) (hw : wfB zs) (hl : zs.length ≤ 1000000) (fc : CV) (g : List Int → Except Nat (Lt × Nat)) (hg : ∀ l x c, wfB l → g l = .ok (x, c) → c ≤ l.length) (her : ∀ l, Er (g l)) (hf : ∀ w (q : Nat), q ≤ zs.length → AFunV Try.prog w fc [.i (q : Int)] (.tup (tupG q (g (zs.drop q))))) (q : Nat) (hq : q ≤ zs.length) : AFun Try.prog W 33 [.lst (zs.map by8), .i (q : Int), fc] (.tup (tupLG q (rList g (zs.drop q)))) := by
  have hn := fun w => cGetN_abs w zs hw hl q hq 4096
  obtain ⟨R, hR⟩ : ∃ R, R = rList g (zs.drop q) := ⟨_, rfl⟩
  have hR' := hR
  unfold rList at hR'
  cases hrn : rN 4096 (zs.drop q) with
  | error e =>
    rw [hrn] at hn hR'
    simp only at hR'
    rw [← hR, hR']
    have he0 : e ≠ 0 := by rcases rN_er _ hrn with h | h <;> omega
    have g2 : decide ((e : Int) ≠ 0) = true := by rw [decide_eq_true_eq]; omega
    refine afun_of (rs := tupLG q (.error e)) Try.func33 Try.ntmps33 rfl rfl rfl rfl ?_
    intro w U hW
    refine aS (aR ?_)
    (refine nx (aA (gN rfl) rfl rfl rfl rfl rfl) rfl ?_)
    (refine nx (aA (gN rfl) rfl rfl rfl rfl rfl) rfl ?_)
    (refine nx (aA (gN rfl) rfl rfl rfl rfl rfl) rfl ?_)
    show AWp _ _ _ _ _ _ _
    refine aS (aR ?_)
    (refine nx (aM (gN rfl) rfl rfl rfl rfl rfl) rfl ?_)
    (refine nx (aM (gN rfl) rfl rfl rfl rfl rfl) rfl ?_)
    (refine nx (a_call (gN rfl) rfl rfl rfl rfl rfl (hn w)) rfl ?_)
    (refine nx (aM (gN rfl) rfl rfl rfl rfl rfl) rfl ?_)
    (refine nx (aX (gN rfl) rfl rfl rfl rfl rfl rfl) rfl ?_)
    (refine nx (aX (gN rfl) rfl rfl rfl rfl rfl rfl) rfl ?_)
    (refine nx (aX (gN rfl) rfl rfl rfl rfl rfl rfl) rfl ?_)
    (refine nx (aA (gN rfl) rfl rfl rfl rfl rfl) rfl ?_)
    (refine nx (aA (gN rfl) rfl rfl rfl rfl rfl) rfl ?_)
    (refine nx (aA (gN rfl) rfl rfl rfl rfl rfl) rfl ?_)
    show AWp _ _ _ _ _ _ _
    refine aS (aS (aR ?_))
    (refine nx (aM (gN rfl) rfl rfl rfl rfl rfl) rfl ?_)
    (refine nx (a_neq (gN rfl) rfl rfl rfl rfl rfl rfl) rfl ?_)
    show AWp _ _ _ _ _ _ _
    refine aC rfl (fun hc => ?_) (fun hc => Bool.noConfusion (g2.symm.trans hc))
    refine aS (aR ?_)
    (refine nx (aM (gN rfl) rfl rfl rfl rfl rfl) rfl ?_)
    (refine nx (aA (gN rfl) rfl rfl rfl rfl rfl) rfl ?_)
    (refine nx (aA (gN rfl) rfl rfl rfl rfl rfl) rfl ?_)
    (refine nx (aA (gN rfl) rfl rfl rfl rfl rfl) rfl ?_)
    show AWp _ _ _ _ _ _ _
    exact aT (And.intro (.inr rfl) rfl)
  | ok vc =>
  obtain ⟨n, c⟩ := vc
  rw [hrn] at hn hR'
  simp only at hR'
  obtain ⟨hcl, _⟩ := rN_back (hw.drop q) n c hrn
  rw [List.length_drop] at hcl
  have hn4 : n ≤ 4096 := by
    unfold rN at hrn
    split at hrn
    · split at hrn
      · cases hrn
      · cases hrn; omega
    · cases hrn
  rw [List.drop_drop] at hR'
  rw [← hR]
  refine afun_of (rs := tupLG q R) Try.func33 Try.ntmps33 rfl rfl rfl rfl ?_
  intro w U hW
  refine aS (aR ?_)
  (refine nx (aA (gN rfl) rfl rfl rfl rfl rfl) rfl ?_)
  (refine nx (aA (gN rfl) rfl rfl rfl rfl rfl) rfl ?_)
  (refine nx (aA (gN rfl) rfl rfl rfl rfl rfl) rfl ?_)
  show AWp _ _ _ _ _ _ _
  refine aS (aR ?_)
  (refine nx (aM (gN rfl) rfl rfl rfl rfl rfl) rfl ?_)
  (refine nx (aM (gN rfl) rfl rfl rfl rfl rfl) rfl ?_)
  (refine nx (a_call (gN rfl) rfl rfl rfl rfl rfl (hn w)) rfl ?_)
  (refine nx (aM (gN rfl) rfl rfl rfl rfl rfl) rfl ?_)
  (refine nx (aX (gN rfl) rfl rfl rfl rfl rfl rfl) rfl ?_)
  (refine nx (aX (gN rfl) rfl rfl rfl rfl rfl rfl) rfl ?_)
  (refine nx (aX (gN rfl) rfl rfl rfl rfl rfl rfl) rfl ?_)
  (refine nx (aA (gN rfl) rfl rfl rfl rfl rfl) rfl ?_)
  (refine nx (aA (gN rfl) rfl rfl rfl rfl rfl) rfl ?_)
  (refine nx (aA (gN rfl) rfl rfl rfl rfl rfl) rfl ?_)
  show AWp _ _ _ _ _ _ _
  refine aS (aS (aR ?_))
  (refine nx (aM (gN rfl) rfl rfl rfl rfl rfl) rfl ?_)
  (refine nx (a_neq (gN rfl) rfl rfl rfl rfl rfl rfl) rfl ?_)
  show AWp _ _ _ _ _ _ _
  refine aC rfl (fun hc => by cases hc) (fun hc => aK ?_)
  show AWp _ _ _ _ _ _ _
  refine aS (aR ?_)
  (refine nx (aA (gN rfl) rfl rfl rfl rfl rfl) rfl ?_)
  show AWp _ _ _ _ _ _ _
  refine aS (aS (aR ?_))
  (refine nx (aM (gN rfl) rfl rfl rfl rfl rfl) rfl ?_)
  (refine nx (aM (gN rfl) rfl rfl rfl rfl rfl) rfl ?_)
  show AWp _ _ _ _ _ _ _
  refine aB (awp_loop (fun m st => ∃ (xs : List Lt) (p : Nat), xs.length + m = n ∧ q ≤ p ∧ p ≤ zs.length ∧ R = cmb xs q p (rMany g m (zs.drop p)) ∧ st = [(1, AV.val (.i (p : Int))), (2, .val fc), (11, .own (.lst (xs.map Lt.cv)) 200039), (200039, .tok 63 5), (23, .val (.sc (.int .u64 (n : Int)))), (24, .val (.sc (.int .u64 (xs.length : Int))))]) (n := n) (s' := [(1, AV.val (.i ((q + c : Nat) : Int))), (2, .val fc), (11, .own (.lst (([] : List Lt).map Lt.cv)) 200039), (200039, .tok 63 5), (23, .val (.sc (.int .u64 (n : Int)))), (24, .val (.sc (.int .u64 ((([] : List Lt).length : Nat) : Int))))]) ((wk_nil 11 200039 63 5 rfl rfl rfl rfl rfl rfl rfl).trans (wk_sub ⟨rfl, rfl, rfl, rfl, rfl, rfl, trivial⟩)) ⟨[], q + c, by simp, by omega, by omega, ?_, rfl⟩ ?_)
  · rw [hR']
    unfold cmb
    cases rMany g n (zs.drop (q + c)) with
    | error e => rfl
    | ok yc => obtain ⟨ys, c'⟩ := yc; simp
  clear hR hR' hn hrn
  rintro m st ⟨xs, p, hxm, hqp, hpl, hR, rfl⟩
  refine aS (aR ?_)
  (refine nx (a_lss (gN rfl) rfl rfl rfl rfl rfl rfl) rfl ?_)
  show AWp _ _ _ _ _ _ _
  cases m with
  | zero =>
    refine aS (aC rfl (fun hlt => ?_) (fun hlt => ?_))
    · have := of_decide_eq_true hlt
      omega
    refine aE ?_
    show AWp _ _ _ _ _ _ _
    have hR2 : R = .ok (xs, p - q) := by rw [hR]; simp [rMany, cmb]
    rw [hR2]
    refine aS (aR ?_)
    (refine nx (aM (gN rfl) rfl rfl rfl rfl rfl) rfl ?_)
    (refine nx (aM (gN rfl) rfl rfl rfl rfl rfl) rfl ?_)
    (refine nx (aA (gN rfl) rfl rfl rfl rfl rfl) rfl ?_)
    (refine nx (aA (gN rfl) rfl rfl rfl rfl rfl) rfl ?_)
    (refine nx (aA (gN rfl) rfl rfl rfl rfl rfl) rfl ?_)
    show AWp _ _ _ _ _ _ _
    refine aT (And.intro (.inr rfl) ?_)
    show some [CV.lst (xs.map Lt.cv), .i (p : Int), by8 0] = some [CV.lst (xs.map Lt.cv), .i ((q + (p - q) : Nat) : Int), by8 0]
    rw [show q + (p - q) = p by omega]
  | succ m =>
    refine aS (aC rfl (fun hlt => ?_) (fun hlt => ?_))
    case refine_2 =>
      have := of_decide_eq_false hlt
      omega
    refine aK ?_
    show AWp _ _ _ _ _ _ _
    rw [rMany] at hR
    have hcall := hf w p hpl
    cases hgp : g (zs.drop p) with
    | error e =>
      rw [hgp] at hR hcall
      simp only [cmb] at hR
      have he0 : e ≠ 0 := by rcases her _ _ hgp with h | h <;> omega
      have g2 : decide ((e : Int) ≠ 0) = true := by rw [decide_eq_true_eq]; omega
      rw [hR]
      refine aS (aB (aS (aR ?_)))
      (refine nx (a_alloc (gN rfl) rfl rfl rfl rfl rfl rfl rfl rfl rfl rfl) rfl ?_)
      show AWp _ _ _ _ _ _ _
      refine aS (aR ?_)
      (refine nx (aM (gN rfl) rfl rfl rfl rfl rfl) rfl ?_)
      (refine nx (aM (gN rfl) rfl rfl rfl rfl rfl) rfl ?_)
      (refine nx (a_callv (gN rfl) rfl rfl rfl rfl rfl rfl (hcall)) rfl ?_)
      (refine nx (aM (gN rfl) rfl rfl rfl rfl rfl) rfl ?_)
      (refine nx (aX (gN rfl) rfl rfl rfl rfl rfl rfl) rfl ?_)
      (refine nx (aX (gN rfl) rfl rfl rfl rfl rfl rfl) rfl ?_)
      (refine nx (aX (gN rfl) rfl rfl rfl rfl rfl rfl) rfl ?_)
      (refine nx (aSt (gN rfl) rfl rfl rfl rfl rfl rfl rfl rfl rfl rfl) rfl ?_)
      (refine nx (aA (gN rfl) rfl rfl rfl rfl rfl) rfl ?_)
      (refine nx (aA (gN rfl) rfl rfl rfl rfl rfl) rfl ?_)
      show AWp _ _ _ _ _ _ _
      refine aS (aS (aR ?_))
      (refine nx (aM (gN rfl) rfl rfl rfl rfl rfl) rfl ?_)
      (refine nx (a_neq (gN rfl) rfl rfl rfl rfl rfl rfl) rfl ?_)
      show AWp _ _ _ _ _ _ _
      refine aC rfl (fun hc => ?_) (fun hc => Bool.noConfusion (g2.symm.trans hc))
      refine aS (aR ?_)
      (refine nx (aM (gN rfl) rfl rfl rfl rfl rfl) rfl ?_)
      (refine nx (aA (gN rfl) rfl rfl rfl rfl rfl) rfl ?_)
      (refine nx (aA (gN rfl) rfl rfl rfl rfl rfl) rfl ?_)
      (refine nx (aA (gN rfl) rfl rfl rfl rfl rfl) rfl ?_)
      show AWp _ _ _ _ _ _ _
      exact aT (And.intro (.inr rfl) rfl)
    | ok xc =>
      obtain ⟨x, c1⟩ := xc
      rw [hgp] at hR hcall
      simp only at hR
      have hc1 := hg _ x c1 (hw.drop p) hgp
      rw [List.length_drop] at hc1
      rw [List.drop_drop] at hR
      have hsx := Lt.size_all xs
      have hbx : (xs.map Lt.cv).length ≤ 4096 := by rw [List.length_map]; omega
      have hak : IntKind.u64.wrap ((xs.length : Int) + 1) = (xs.length : Int) + 1 := by rw [IntKind.wrap_u64]; omega
      refine aS (aB (aS (aR ?_)))
      (refine nx (a_alloc (gN rfl) rfl rfl rfl rfl rfl rfl rfl rfl rfl rfl) rfl ?_)
      show AWp _ _ _ _ _ _ _
      refine aS (aR ?_)
      (refine nx (aM (gN rfl) rfl rfl rfl rfl rfl) rfl ?_)
      (refine nx (aM (gN rfl) rfl rfl rfl rfl rfl) rfl ?_)
      (refine nx (a_callv (gN rfl) rfl rfl rfl rfl rfl rfl (hcall)) rfl ?_)
      (refine nx (aM (gN rfl) rfl rfl rfl rfl rfl) rfl ?_)
      (refine nx (aX (gN rfl) rfl rfl rfl rfl rfl rfl) rfl ?_)
      (refine nx (aX (gN rfl) rfl rfl rfl rfl rfl rfl) rfl ?_)
      (refine nx (aX (gN rfl) rfl rfl rfl rfl rfl rfl) rfl ?_)
      (refine nx (aSt (gN rfl) rfl rfl rfl rfl rfl rfl rfl rfl rfl rfl) rfl ?_)
      (refine nx (aA (gN rfl) rfl rfl rfl rfl rfl) rfl ?_)
      (refine nx (aA (gN rfl) rfl rfl rfl rfl rfl) rfl ?_)
      show AWp _ _ _ _ _ _ _
      refine aS (aS (aR ?_))
      (refine nx (aM (gN rfl) rfl rfl rfl rfl rfl) rfl ?_)
      (refine nx (a_neq (gN rfl) rfl rfl rfl rfl rfl rfl) rfl ?_)
      show AWp _ _ _ _ _ _ _
      refine aC rfl (fun hc => by cases hc) (fun hc => aK ?_)
      show AWp _ _ _ _ _ _ _
      refine aR ?_
      (refine nx (aM (gN rfl) rfl rfl rfl rfl rfl) rfl ?_)
      (refine nx (aL (gN rfl) rfl rfl rfl rfl rfl rfl rfl rfl rfl rfl rfl rfl) rfl ?_)
      (refine nx (a_bslice (gN rfl) rfl rfl rfl rfl rfl rfl rfl rfl rfl rfl rfl rfl rfl) rfl ?_)
      (refine nx (a_app (gN rfl) rfl rfl rfl rfl rfl rfl rfl rfl rfl rfl rfl rfl rfl rfl rfl (by first | assumption | exact sZ rfl | exact Tm.size_all _ | exact Bd.size_all _ | exact ints_size _ | exact bys_size _ | exact Lt.size_all _) (by first | assumption | exact sZ rfl | exact Tm.size_all _ | exact Bd.size_all _ | exact ints_size _ | exact bys_size _ | exact Lt.size_all _) (by first | omega | (simp only [List.length_map, List.length_append, List.length_cons, List.length_nil] <;> omega) | (simp <;> omega))) rfl ?_)
      (refine nx (aA (gN rfl) rfl rfl rfl rfl rfl) rfl ?_)
      show AWp _ _ _ _ _ _ _
      refine aR ?_
      (refine nx (a_addK (gN rfl) rfl rfl rfl rfl rfl rfl (hak)) rfl ?_)
      (refine nx (aM (gN rfl) rfl rfl rfl rfl rfl) rfl ?_)
      refine ⟨m, [(1, AV.val (.i ((p + c1 : Nat) : Int))), (2, .val fc), (11, .own (.lst ((xs ++ [x]).map Lt.cv)) 200039), (200039, .tok 63 5), (23, .val (.sc (.int .u64 (n : Int)))), (24, .val (.sc (.int .u64 ((xs ++ [x]).length : Int))))], by omega, ⟨xs ++ [x], p + c1, by rw [List.length_append, List.length_singleton]; omega, by omega, by omega, ?_, rfl⟩, ?_⟩
      · rw [hR]
        cases rMany g m (zs.drop (p + c1)) with
        | error e => rfl
        | ok yc =>
          obtain ⟨ys, c'⟩ := yc
          simp only [cmb, List.append_assoc, List.singleton_append]
          rw [show p - q + (c1 + c') = p + c1 - q + c' by omega]
      · refine Wk.trans (wk_sub (s' := [(1, AV.val (.i ((p + c1 : Nat) : Int))), (2, .val fc), (11, .own (.lst ((xs ++ [x]).map Lt.cv)) 300039), (300039, .tok 63 5), (23, .val (.sc (.int .u64 (n : Int)))), (24, .val (.sc (.int .u64 ((xs ++ [x]).length : Int))))]) ⟨rfl, rfl, ?_, rfl, rfl, ?_, trivial⟩) (wk_ren 300039 200039 rfl rfl rfl rfl)
        · rw [List.map_append]
          rfl
        · rw [List.length_append, List.length_singleton, Int.natCast_add]
          rfl
-- 
theorem cGetT1_abs (W : World) (zs : List Int) (d : Nat) (hd : d ≤ 256) (r : Nat → Except Nat (Tm × Nat)) (hr : ∀ w q, q ≤ zs.length → AFun Try.prog w 58 [.lst (zs.map by8), .i (q : Int), .i ((257 : Int) - d)] (.tup (tupT q (r q)))) (q : Nat) (hq : q ≤ zs.length) : AFun Try.prog W 89 [.i (q : Int), .ptr (.lst (zs.map by8)), .ptr (.i ((257 : Int) - (d + 1 : Nat)))] (.tup (tupT q (r q))) := by
  have hc := fun w => hr w q hq
  have e : (257 : Int) - ((d + 1 : Nat) : Int) + 1 = 257 - d := by omega
  refine afun_of (rs := tupT q (r q)) Try.func89 Try.ntmps89 rfl rfl rfl rfl ?_
  intro w U hW
  have hc := hc w
  cases hrq : r q with
  | error er =>
    rw [hrq] at hc
    refine aS (aR ?_)
    (refine nx (a_alloc (gN rfl) rfl rfl rfl rfl rfl rfl rfl rfl rfl rfl) rfl ?_)
    (refine nx (aA (gN rfl) rfl rfl rfl rfl rfl) rfl ?_)
    (refine nx (aA (gN rfl) rfl rfl rfl rfl rfl) rfl ?_)
    show AWp _ _ _ _ _ _ _
    refine aS (aR ?_)
    (refine nx (a_load_ptr (gN rfl) rfl rfl rfl rfl rfl rfl rfl rfl rfl) rfl ?_)
    (refine nx (aM (gN rfl) rfl rfl rfl rfl rfl) rfl ?_)
    (refine nx (a_load_ptr (gN rfl) rfl rfl rfl rfl rfl rfl rfl rfl rfl) rfl ?_)
    (refine nx (a_add (gN rfl) rfl rfl rfl rfl rfl rfl (by first | omega | (simp only [List.length_map, List.length_append, List.length_cons, List.length_nil] <;> omega) | (simp <;> omega))) rfl ?_)
    (refine nx (a_call (gN rfl) rfl rfl rfl rfl rfl ((by rw [e]; exact hc))) rfl ?_)
    (refine nx (aX (gN rfl) rfl rfl rfl rfl rfl rfl) rfl ?_)
    (refine nx (aX (gN rfl) rfl rfl rfl rfl rfl rfl) rfl ?_)
    (refine nx (aX (gN rfl) rfl rfl rfl rfl rfl rfl) rfl ?_)
    (refine nx (aSt (gN rfl) rfl rfl rfl rfl rfl rfl rfl rfl rfl rfl) rfl ?_)
    (refine nx (aA (gN rfl) rfl rfl rfl rfl rfl) rfl ?_)
    (refine nx (aA (gN rfl) rfl rfl rfl rfl rfl) rfl ?_)
    show AWp _ _ _ _ _ _ _
    exact aT (And.intro (.inr rfl) rfl)
  | ok xc =>
    obtain ⟨x, c⟩ := xc
    rw [hrq] at hc
    refine aS (aR ?_)
    (refine nx (a_alloc (gN rfl) rfl rfl rfl rfl rfl rfl rfl rfl rfl rfl) rfl ?_)
    (refine nx (aA (gN rfl) rfl rfl rfl rfl rfl) rfl ?_)
    (refine nx (aA (gN rfl) rfl rfl rfl rfl rfl) rfl ?_)
    show AWp _ _ _ _ _ _ _
    refine aS (aR ?_)
    (refine nx (a_load_ptr (gN rfl) rfl rfl rfl rfl rfl rfl rfl rfl rfl) rfl ?_)
    (refine nx (aM (gN rfl) rfl rfl rfl rfl rfl) rfl ?_)
    (refine nx (a_load_ptr (gN rfl) rfl rfl rfl rfl rfl rfl rfl rfl rfl) rfl ?_)
    (refine nx (a_add (gN rfl) rfl rfl rfl rfl rfl rfl (by first | omega | (simp only [List.length_map, List.length_append, List.length_cons, List.length_nil] <;> omega) | (simp <;> omega))) rfl ?_)
    (refine nx (a_call (gN rfl) rfl rfl rfl rfl rfl ((by rw [e]; exact hc))) rfl ?_)
    (refine nx (aX (gN rfl) rfl rfl rfl rfl rfl rfl) rfl ?_)
    (refine nx (aX (gN rfl) rfl rfl rfl rfl rfl rfl) rfl ?_)
    (refine nx (aX (gN rfl) rfl rfl rfl rfl rfl rfl) rfl ?_)
    (refine nx (aSt (gN rfl) rfl rfl rfl rfl rfl rfl rfl rfl rfl rfl) rfl ?_)
    (refine nx (aA (gN rfl) rfl rfl rfl rfl rfl) rfl ?_)
    (refine nx (aA (gN rfl) rfl rfl rfl rfl rfl) rfl ?_)
    show AWp _ _ _ _ _ _ _
    exact aT (And.intro (.inr rfl) rfl)
-- 
set_option maxHeartbeats 2000000 in
theorem cGetT_abs (zs : List Int) (hw : wfB zs) (hl : zs.length ≤ 1000000) : ∀ (d : Nat), d ≤ 257 → ∀ (W : World) (q : Nat), q ≤ zs.length → AFun Try.prog W 58 [.lst (zs.map by8), .i (q : Int), .i ((257 : Int) - d)] (.tup (tupT q (rT d (zs.drop q)))) := by
  intro d
  induction d with
  | zero =>
    intro _ W q hq
    refine afun_of (rs := tupT q (.error 7)) Try.func58 Try.ntmps58 rfl rfl rfl rfl ?_
    intro w U hW
    refine aS (aR ?_)
    (refine nx (a_box (gN rfl) rfl rfl rfl rfl rfl) rfl ?_)
    (refine nx (a_box (gN rfl) rfl rfl rfl rfl rfl) rfl ?_)
    (refine nx (a_alloc (gN rfl) rfl rfl rfl rfl rfl rfl rfl rfl rfl rfl) rfl ?_)
    (refine nx (aA (gN rfl) rfl rfl rfl rfl rfl) rfl ?_)
    (refine nx (aA (gN rfl) rfl rfl rfl rfl rfl) rfl ?_)
    show AWp _ _ _ _ _ _ _
    refine aS (aS (aR ?_))
    (refine nx (aL (gN rfl) rfl rfl rfl rfl rfl rfl rfl rfl rfl rfl rfl rfl) rfl ?_)
    (refine nx (a_gtr (gN rfl) rfl rfl rfl rfl rfl rfl) rfl ?_)
    show AWp _ _ _ _ _ _ _
    refine aC rfl (fun hc => ?_) (fun hc => by simp at hc)
    refine aS (aR ?_)
    (refine nx (a_build (gN rfl) rfl rfl rfl rfl rfl rfl rfl rfl rfl rfl rfl) rfl ?_)
    (refine nx (aSt (gN rfl) rfl rfl rfl rfl rfl rfl rfl rfl rfl rfl) rfl ?_)
    (refine nx (aA (gN rfl) rfl rfl rfl rfl rfl) rfl ?_)
    (refine nx (aA (gN rfl) rfl rfl rfl rfl rfl) rfl ?_)
    show AWp _ _ _ _ _ _ _
    exact aT (And.intro (.inr rfl) rfl)
  | succ d ih =>
    intro hd W q hq
    have hh := fun w => cGetH_abs w zs hw hl q hq
    obtain ⟨T, hT⟩ : ∃ T, T = rT (d + 1) (zs.drop q) := ⟨_, rfl⟩
    have hT' := hT
    rw [rT] at hT'
    rw [← hT]
    have go : decide ((257 : Int) - ((d + 1 : Nat) : Int) > 256) = false := by rw [decide_eq_false_iff_not]; omega
    unfold rHd at hh
    cases hrh : rH (zs.drop q) with
    | error e =>
      rw [hrh] at hh hT'
      simp only at hT' hh
      rw [hT']
      have he0 : e ≠ 0 := by rcases rH_er _ hrh with h | h <;> omega
      have g2 : decide ((e : Int) ≠ 0) = true := by rw [decide_eq_true_eq]; omega
      refine afun_of (rs := tupT q (.error e)) Try.func58 Try.ntmps58 rfl rfl rfl rfl ?_
      intro w U hW
      refine aS (aR ?_)
      (refine nx (a_box (gN rfl) rfl rfl rfl rfl rfl) rfl ?_)
      (refine nx (a_box (gN rfl) rfl rfl rfl rfl rfl) rfl ?_)
      (refine nx (a_alloc (gN rfl) rfl rfl rfl rfl rfl rfl rfl rfl rfl rfl) rfl ?_)
      (refine nx (aA (gN rfl) rfl rfl rfl rfl rfl) rfl ?_)
      (refine nx (aA (gN rfl) rfl rfl rfl rfl rfl) rfl ?_)
      show AWp _ _ _ _ _ _ _
      refine aS (aS (aR ?_))
      (refine nx (aL (gN rfl) rfl rfl rfl rfl rfl rfl rfl rfl rfl rfl rfl rfl) rfl ?_)
      (refine nx (a_gtr (gN rfl) rfl rfl rfl rfl rfl rfl) rfl ?_)
      show AWp _ _ _ _ _ _ _
      refine aC rfl (fun hc => by rw [go] at hc; cases hc) (fun hc => aK ?_)
      show AWp _ _ _ _ _ _ _
      refine aS (aR ?_)
      (refine nx (aL (gN rfl) rfl rfl rfl rfl rfl rfl rfl rfl rfl rfl rfl rfl) rfl ?_)
      (refine nx (aM (gN rfl) rfl rfl rfl rfl rfl) rfl ?_)
      (refine nx (a_call (gN rfl) rfl rfl rfl rfl rfl (hh w)) rfl ?_)
      (refine nx (aM (gN rfl) rfl rfl rfl rfl rfl) rfl ?_)
      (refine nx (aX (gN rfl) rfl rfl rfl rfl rfl rfl) rfl ?_)
      (refine nx (aX (gN rfl) rfl rfl rfl rfl rfl rfl) rfl ?_)
      (refine nx (aX (gN rfl) rfl rfl rfl rfl rfl rfl) rfl ?_)
      (refine nx (a_alloc (gN rfl) rfl rfl rfl rfl rfl rfl rfl rfl rfl rfl) rfl ?_)
      (refine nx (aSt (gN rfl) rfl rfl rfl rfl rfl rfl rfl rfl rfl rfl) rfl ?_)
      (refine nx (aA (gN rfl) rfl rfl rfl rfl rfl) rfl ?_)
      (refine nx (aA (gN rfl) rfl rfl rfl rfl rfl) rfl ?_)
      show AWp _ _ _ _ _ _ _
      refine aS (aS (aR ?_))
      (refine nx (aM (gN rfl) rfl rfl rfl rfl rfl) rfl ?_)
      (refine nx (a_neq (gN rfl) rfl rfl rfl rfl rfl rfl) rfl ?_)
      (refine nx (aM (gN rfl) rfl rfl rfl rfl rfl) rfl ?_)
      (refine ⟨_, _, _, a_off (go_off rfl rfl rfl rfl (by first | rfl | assumption | (simp; done) | (simp [*]; done))) rfl rfl rfl, rfl, ?_⟩)
      (refine ⟨_, _, _, a_off (go_off rfl rfl rfl rfl (by first | rfl | assumption | (simp; done) | (simp [*]; done))) rfl rfl rfl, rfl, ?_⟩)
      (refine ⟨_, _, _, aPt (gN rfl) rfl rfl rfl rfl rfl ?hb rfl, rfl, ?_⟩; case hb => (first | rfl | assumption | (simp; done)))
      show AWp _ _ _ _ _ _ _
      refine aC rfl (fun hc => ?_) (fun hc => by cases hc)
      refine aS (aR ?_)
      (refine nx (aL (gN rfl) rfl rfl rfl rfl rfl rfl rfl rfl rfl rfl rfl rfl) rfl ?_)
      (refine nx (aM (gN rfl) rfl rfl rfl rfl rfl) rfl ?_)
      (refine nx (aM (gN rfl) rfl rfl rfl rfl rfl) rfl ?_)
      (refine nx (aSt (gN rfl) rfl rfl rfl rfl rfl rfl rfl rfl rfl rfl) rfl ?_)
      (refine nx (aA (gN rfl) rfl rfl rfl rfl rfl) rfl ?_)
      (refine nx (aA (gN rfl) rfl rfl rfl rfl rfl) rfl ?_)
      show AWp _ _ _ _ _ _ _
      exact aT (And.intro (.inr rfl) rfl)
    | ok fc =>
      obtain ⟨f, c⟩ := fc
      rw [hrh] at hh hT'
      simp only at hT' hh
      obtain ⟨hcl, _⟩ := rH_back (hw.drop q) f c hrh
      rw [List.length_drop] at hcl
      by_cases hf : f < 0
      · rw [if_pos hf] at hT'
        rw [hT']
        have g1 : decide (f < 0) = true := by simpa using hf
        refine afun_of (rs := tupT q (.ok (⟨f, []⟩, c))) Try.func58 Try.ntmps58 rfl rfl rfl rfl ?_
        intro w U hW
        refine aS (aR ?_)
        (refine nx (a_box (gN rfl) rfl rfl rfl rfl rfl) rfl ?_)
        (refine nx (a_box (gN rfl) rfl rfl rfl rfl rfl) rfl ?_)
        (refine nx (a_alloc (gN rfl) rfl rfl rfl rfl rfl rfl rfl rfl rfl rfl) rfl ?_)
        (refine nx (aA (gN rfl) rfl rfl rfl rfl rfl) rfl ?_)
        (refine nx (aA (gN rfl) rfl rfl rfl rfl rfl) rfl ?_)
        show AWp _ _ _ _ _ _ _
        refine aS (aS (aR ?_))
        (refine nx (aL (gN rfl) rfl rfl rfl rfl rfl rfl rfl rfl rfl rfl rfl rfl) rfl ?_)
        (refine nx (a_gtr (gN rfl) rfl rfl rfl rfl rfl rfl) rfl ?_)
        show AWp _ _ _ _ _ _ _
        refine aC rfl (fun hc => by rw [go] at hc; cases hc) (fun hc => aK ?_)
        show AWp _ _ _ _ _ _ _
        refine aS (aR ?_)
        (refine nx (aL (gN rfl) rfl rfl rfl rfl rfl rfl rfl rfl rfl rfl rfl rfl) rfl ?_)
        (refine nx (aM (gN rfl) rfl rfl rfl rfl rfl) rfl ?_)
        (refine nx (a_call (gN rfl) rfl rfl rfl rfl rfl (hh w)) rfl ?_)
        (refine nx (aM (gN rfl) rfl rfl rfl rfl rfl) rfl ?_)
        (refine nx (aX (gN rfl) rfl rfl rfl rfl rfl rfl) rfl ?_)
        (refine nx (aX (gN rfl) rfl rfl rfl rfl rfl rfl) rfl ?_)
        (refine nx (aX (gN rfl) rfl rfl rfl rfl rfl rfl) rfl ?_)
        (refine nx (a_alloc (gN rfl) rfl rfl rfl rfl rfl rfl rfl rfl rfl rfl) rfl ?_)
        (refine nx (aSt (gN rfl) rfl rfl rfl rfl rfl rfl rfl rfl rfl rfl) rfl ?_)
        (refine nx (aA (gN rfl) rfl rfl rfl rfl rfl) rfl ?_)
        (refine nx (aA (gN rfl) rfl rfl rfl rfl rfl) rfl ?_)
        show AWp _ _ _ _ _ _ _
        refine aS (aS (aR ?_))
        (refine nx (aM (gN rfl) rfl rfl rfl rfl rfl) rfl ?_)
        (refine nx (a_neq (gN rfl) rfl rfl rfl rfl rfl rfl) rfl ?_)
        (refine nx (aM (gN rfl) rfl rfl rfl rfl rfl) rfl ?_)
        (refine nx (aL (gd_on rfl rfl rfl rfl (by first | rfl | assumption | (simp; done))) rfl rfl rfl rfl rfl rfl rfl rfl rfl rfl rfl rfl) rfl ?_)
        (refine nx (a_call (gd_on rfl rfl rfl rfl (by first | rfl | assumption | (simp; done))) rfl rfl rfl rfl rfl (cIsVar_abs w ⟨f, []⟩)) rfl ?_)
        (refine ⟨_, _, _, aPf (gN rfl) rfl rfl rfl rfl rfl ?hb rfl, rfl, ?_⟩; case hb => (first | rfl | assumption | (simp; done)))
        show AWp _ _ _ _ _ _ _
        refine aC rfl (fun hc => ?_) (fun hc => by rw [g1] at hc; cases hc)
        refine aS (aR ?_)
        (refine nx (aL (gN rfl) rfl rfl rfl rfl rfl rfl rfl rfl rfl rfl rfl rfl) rfl ?_)
        (refine nx (aM (gN rfl) rfl rfl rfl rfl rfl) rfl ?_)
        (refine nx (aM (gN rfl) rfl rfl rfl rfl rfl) rfl ?_)
        (refine nx (aSt (gN rfl) rfl rfl rfl rfl rfl rfl rfl rfl rfl rfl) rfl ?_)
        (refine nx (aA (gN rfl) rfl rfl rfl rfl rfl) rfl ?_)
        (refine nx (aA (gN rfl) rfl rfl rfl rfl rfl) rfl ?_)
        show AWp _ _ _ _ _ _ _
        exact aT (And.intro (.inr rfl) rfl)
      · rw [if_neg hf, List.drop_drop] at hT'
        have g1 : decide (f < 0) = false := by simpa using hf
        have hli := fun w => cListT_abs w zs hw hl (.fn 89 0 [.ptr (.lst (zs.map by8)), .ptr (.i ((257 : Int) - (d + 1 : Nat)))]) (rT d) (fun l x c hwl h => (rT_back d l hwl x c h).1) (rT_er d) (fun w q hq => ⟨_, _, _, rfl, cGetT1_abs w zs d (by omega) (fun q => rT d (zs.drop q)) (fun w q hq => ih (by omega) w q hq) q hq⟩) (q + c) (by omega)
        refine afun_of (rs := tupT q T) Try.func58 Try.ntmps58 rfl rfl rfl rfl ?_
        intro w U hW
        refine aS (aR ?_)
        (refine nx (a_box (gN rfl) rfl rfl rfl rfl rfl) rfl ?_)
        (refine nx (a_box (gN rfl) rfl rfl rfl rfl rfl) rfl ?_)
        (refine nx (a_alloc (gN rfl) rfl rfl rfl rfl rfl rfl rfl rfl rfl rfl) rfl ?_)
        (refine nx (aA (gN rfl) rfl rfl rfl rfl rfl) rfl ?_)
        (refine nx (aA (gN rfl) rfl rfl rfl rfl rfl) rfl ?_)
        show AWp _ _ _ _ _ _ _
        refine aS (aS (aR ?_))
        (refine nx (aL (gN rfl) rfl rfl rfl rfl rfl rfl rfl rfl rfl rfl rfl rfl) rfl ?_)
        (refine nx (a_gtr (gN rfl) rfl rfl rfl rfl rfl rfl) rfl ?_)
        show AWp _ _ _ _ _ _ _
        refine aC rfl (fun hc => by rw [go] at hc; cases hc) (fun hc => aK ?_)
        show AWp _ _ _ _ _ _ _
        refine aS (aR ?_)
        (refine nx (aL (gN rfl) rfl rfl rfl rfl rfl rfl rfl rfl rfl rfl rfl rfl) rfl ?_)
        (refine nx (aM (gN rfl) rfl rfl rfl rfl rfl) rfl ?_)
        (refine nx (a_call (gN rfl) rfl rfl rfl rfl rfl (hh w)) rfl ?_)
        (refine nx (aM (gN rfl) rfl rfl rfl rfl rfl) rfl ?_)
        (refine nx (aX (gN rfl) rfl rfl rfl rfl rfl rfl) rfl ?_)
        (refine nx (aX (gN rfl) rfl rfl rfl rfl rfl rfl) rfl ?_)
        (refine nx (aX (gN rfl) rfl rfl rfl rfl rfl rfl) rfl ?_)
        (refine nx (a_alloc (gN rfl) rfl rfl rfl rfl rfl rfl rfl rfl rfl rfl) rfl ?_)
        (refine nx (aSt (gN rfl) rfl rfl rfl rfl rfl rfl rfl rfl rfl rfl) rfl ?_)
        (refine nx (aA (gN rfl) rfl rfl rfl rfl rfl) rfl ?_)
        (refine nx (aA (gN rfl) rfl rfl rfl rfl rfl) rfl ?_)
        show AWp _ _ _ _ _ _ _
        refine aS (aS (aR ?_))
        (refine nx (aM (gN rfl) rfl rfl rfl rfl rfl) rfl ?_)
        (refine nx (a_neq (gN rfl) rfl rfl rfl rfl rfl rfl) rfl ?_)
        (refine nx (aM (gN rfl) rfl rfl rfl rfl rfl) rfl ?_)
        (refine nx (aL (gd_on rfl rfl rfl rfl (by first | rfl | assumption | (simp; done))) rfl rfl rfl rfl rfl rfl rfl rfl rfl rfl rfl rfl) rfl ?_)
        (refine nx (a_call (gd_on rfl rfl rfl rfl (by first | rfl | assumption | (simp; done))) rfl rfl rfl rfl rfl (cIsVar_abs w ⟨f, []⟩)) rfl ?_)
        (refine ⟨_, _, _, aPf (gN rfl) rfl rfl rfl rfl rfl ?hb rfl, rfl, ?_⟩; case hb => (first | rfl | assumption | (simp; done)))
        show AWp _ _ _ _ _ _ _
        refine aC rfl (fun hc => by rw [g1] at hc; cases hc) (fun hc => aK ?_)
        show AWp _ _ _ _ _ _ _
        refine AWp.wk ((wk_freeze 3 rfl rfl rfl (s' := [(1, .val (.i ((q + c : Nat) : Int))), (5, .bp 5 0 []), (100005, .bx (.i ((257 : Int) - (d + 1 : Nat)))), (6, .bp 6 0 []), (100006, ⟨5, .row [.i 0, .lst []], 1, 0, [1]⟩), (9, .bp 9 0 []), (100009, .bx (.row [.i f, .lst []]))]) ⟨rfl, rfl, rfl, rfl, rfl, rfl, rfl, trivial⟩ rfl rfl rfl).trans (wk_freeze 5 rfl rfl rfl (s' := [(3, .val (.ptr (.lst (zs.map by8)))), (1, .val (.i ((q + c : Nat) : Int))), (6, .bp 6 0 []), (100006, ⟨5, .row [.i 0, .lst []], 1, 0, [1]⟩), (9, .bp 9 0 []), (100009, .bx (.row [.i f, .lst []]))]) ⟨rfl, rfl, rfl, rfl, rfl, rfl, trivial⟩ rfl rfl rfl)) ?_
        have hli := hli w
        cases hrl : rList (rT d) (zs.drop (q + c)) with
        | error e =>
          rw [hrl] at hli hT'
          simp only at hT'
          rw [hT']
          have he0 : e ≠ 0 := by rcases rList_er (rT_er d) _ _ hrl with h | h <;> omega
          have g2 : decide ((e : Int) ≠ 0) = true := by rw [decide_eq_true_eq]; omega
          refine aS (aR ?_)
          (refine nx (a_load_ptr (gN rfl) rfl rfl rfl rfl rfl rfl rfl rfl rfl) rfl ?_)
          (refine nx (aM (gN rfl) rfl rfl rfl rfl rfl) rfl ?_)
          (refine nx (a_mkfunc (gN rfl) rfl rfl rfl rfl rfl rfl) rfl ?_)
          (refine nx (a_call (gN rfl) rfl rfl rfl rfl rfl (hli)) rfl ?_)
          (refine nx (aM (gN rfl) rfl rfl rfl rfl rfl) rfl ?_)
          (refine nx (aX (gN rfl) rfl rfl rfl rfl rfl rfl) rfl ?_)
          (refine nx (aX (gN rfl) rfl rfl rfl rfl rfl rfl) rfl ?_)
          (refine nx (aX (gN rfl) rfl rfl rfl rfl rfl rfl) rfl ?_)
          (refine nx (aF (gN rfl) rfl rfl rfl rfl rfl rfl rfl rfl rfl) rfl ?_)
          (refine nx (a_store (gN rfl) rfl rfl rfl rfl rfl rfl rfl rfl rfl rfl) rfl ?_)
          (refine nx (aA (gN rfl) rfl rfl rfl rfl rfl) rfl ?_)
          (refine nx (aA (gN rfl) rfl rfl rfl rfl rfl) rfl ?_)
          show AWp _ _ _ _ _ _ _
          refine aS (aS (aR ?_))
          (refine nx (aM (gN rfl) rfl rfl rfl rfl rfl) rfl ?_)
          (refine nx (a_neq (gN rfl) rfl rfl rfl rfl rfl rfl) rfl ?_)
          show AWp _ _ _ _ _ _ _
          refine aC rfl (fun hc => ?_) (fun hc => Bool.noConfusion (g2.symm.trans hc))
          refine aS (aR ?_)
          (refine nx (a_build (gN rfl) rfl rfl rfl rfl rfl rfl rfl rfl rfl rfl rfl) rfl ?_)
          (refine nx (aM (gN rfl) rfl rfl rfl rfl rfl) rfl ?_)
          (refine nx (aSt (gN rfl) rfl rfl rfl rfl rfl rfl rfl rfl rfl rfl) rfl ?_)
          (refine nx (aA (gN rfl) rfl rfl rfl rfl rfl) rfl ?_)
          (refine nx (aA (gN rfl) rfl rfl rfl rfl rfl) rfl ?_)
          show AWp _ _ _ _ _ _ _
          exact aT (And.intro (.inr rfl) rfl)
        | ok xc =>
          obtain ⟨xs, c'⟩ := xc
          rw [hrl] at hli hT'
          simp only at hT'
          rw [hT']
          refine aS (aR ?_)
          (refine nx (a_load_ptr (gN rfl) rfl rfl rfl rfl rfl rfl rfl rfl rfl) rfl ?_)
          (refine nx (aM (gN rfl) rfl rfl rfl rfl rfl) rfl ?_)
          (refine nx (a_mkfunc (gN rfl) rfl rfl rfl rfl rfl rfl) rfl ?_)
          (refine nx (a_call (gN rfl) rfl rfl rfl rfl rfl (hli)) rfl ?_)
          (refine nx (aM (gN rfl) rfl rfl rfl rfl rfl) rfl ?_)
          (refine nx (aX (gN rfl) rfl rfl rfl rfl rfl rfl) rfl ?_)
          (refine nx (aX (gN rfl) rfl rfl rfl rfl rfl rfl) rfl ?_)
          (refine nx (aX (gN rfl) rfl rfl rfl rfl rfl rfl) rfl ?_)
          (refine nx (aF (gN rfl) rfl rfl rfl rfl rfl rfl rfl rfl rfl) rfl ?_)
          (refine nx (a_store (gN rfl) rfl rfl rfl rfl rfl rfl rfl rfl rfl rfl) rfl ?_)
          (refine nx (aA (gN rfl) rfl rfl rfl rfl rfl) rfl ?_)
          (refine nx (aA (gN rfl) rfl rfl rfl rfl rfl) rfl ?_)
          show AWp _ _ _ _ _ _ _
          refine aS (aS (aR ?_))
          (refine nx (aM (gN rfl) rfl rfl rfl rfl rfl) rfl ?_)
          (refine nx (a_neq (gN rfl) rfl rfl rfl rfl rfl rfl) rfl ?_)
          show AWp _ _ _ _ _ _ _
          refine aC rfl (fun hc => by cases hc) (fun hc => aK ?_)
          show AWp _ _ _ _ _ _ _
          refine aS (aR ?_)
          (refine nx (aL (gN rfl) rfl rfl rfl rfl rfl rfl rfl rfl rfl rfl rfl rfl) rfl ?_)
          (refine nx (aM (gN rfl) rfl rfl rfl rfl rfl) rfl ?_)
          (refine nx (aSt (gN rfl) rfl rfl rfl rfl rfl rfl rfl rfl rfl rfl) rfl ?_)
          (refine nx (aA (gN rfl) rfl rfl rfl rfl rfl) rfl ?_)
          (refine nx (aA (gN rfl) rfl rfl rfl rfl rfl) rfl ?_)
          show AWp _ _ _ _ _ _ _
          refine aT (And.intro (.inr rfl) ?_)
          show some [CV.row [.i f, .lst (xs.map Tm.cv)], .i ((q + c + c' : Nat) : Int), by8 0] = some [CV.row [.i f, .lst (xs.map Tm.cv)], .i ((q + (c + c') : Nat) : Int), by8 0]
          rw [Nat.add_assoc]
-- 
set_option maxHeartbeats 2000000 in
theorem cGetL_abs (W : World) (zs : List Int) (hw : wfB zs) (hl : zs.length ≤ 1000000) (q : Nat) (hq : q ≤ zs.length) : AFun Try.prog W 35 [.lst (zs.map by8), .i (q : Int)] (.tup (tupG q (rL (zs.drop q)))) := by
  have hn := fun w => cGetN_abs w zs hw hl q hq 1
  obtain ⟨R, hR⟩ : ∃ R, R = rL (zs.drop q) := ⟨_, rfl⟩
  rw [← hR]
  unfold rL at hR
  refine afun_of (rs := tupG q R) Try.func35 Try.ntmps35 rfl rfl rfl rfl ?_
  intro w U hW
  have hn := hn w
  refine aS (aR ?_)
  (refine nx (a_alloc (gN rfl) rfl rfl rfl rfl rfl rfl rfl rfl rfl rfl) rfl ?_)
  (refine nx (aA (gN rfl) rfl rfl rfl rfl rfl) rfl ?_)
  (refine nx (aA (gN rfl) rfl rfl rfl rfl rfl) rfl ?_)
  show AWp _ _ _ _ _ _ _
  cases hrn : rN 1 (zs.drop q) with
  | error e =>
    rw [hrn] at hn hR
    simp only at hR
    rw [hR]
    have he0 : e ≠ 0 := by rcases rN_er _ hrn with h | h <;> omega
    have g2 : decide ((e : Int) ≠ 0) = true := by rw [decide_eq_true_eq]; omega
    refine aS (aR ?_)
    (refine nx (aM (gN rfl) rfl rfl rfl rfl rfl) rfl ?_)
    (refine nx (aM (gN rfl) rfl rfl rfl rfl rfl) rfl ?_)
    (refine nx (a_call (gN rfl) rfl rfl rfl rfl rfl (hn)) rfl ?_)
    (refine nx (aM (gN rfl) rfl rfl rfl rfl rfl) rfl ?_)
    (refine nx (aX (gN rfl) rfl rfl rfl rfl rfl rfl) rfl ?_)
    (refine nx (aX (gN rfl) rfl rfl rfl rfl rfl rfl) rfl ?_)
    (refine nx (aX (gN rfl) rfl rfl rfl rfl rfl rfl) rfl ?_)
    (refine nx (aA (gN rfl) rfl rfl rfl rfl rfl) rfl ?_)
    (refine nx (aA (gN rfl) rfl rfl rfl rfl rfl) rfl ?_)
    (refine nx (aA (gN rfl) rfl rfl rfl rfl rfl) rfl ?_)
    show AWp _ _ _ _ _ _ _
    refine aS (aS (aR ?_))
    (refine nx (aM (gN rfl) rfl rfl rfl rfl rfl) rfl ?_)
    (refine nx (a_neq (gN rfl) rfl rfl rfl rfl rfl rfl) rfl ?_)
    show AWp _ _ _ _ _ _ _
    refine aC rfl (fun hc => ?_) (fun hc => Bool.noConfusion (g2.symm.trans hc))
    refine aS (aR ?_)
    (refine nx (a_build (gN rfl) rfl rfl rfl rfl rfl rfl rfl rfl rfl rfl rfl) rfl ?_)
    (refine nx (aM (gN rfl) rfl rfl rfl rfl rfl) rfl ?_)
    (refine nx (aSt (gN rfl) rfl rfl rfl rfl rfl rfl rfl rfl rfl rfl) rfl ?_)
    (refine nx (aA (gN rfl) rfl rfl rfl rfl rfl) rfl ?_)
    (refine nx (aA (gN rfl) rfl rfl rfl rfl rfl) rfl ?_)
    show AWp _ _ _ _ _ _ _
    exact aT (And.intro (.inr rfl) rfl)
  | ok vc =>
  obtain ⟨n, c⟩ := vc
  rw [hrn] at hn hR
  simp only at hR
  obtain ⟨hcl, _⟩ := rN_back (hw.drop q) n c hrn
  rw [List.length_drop] at hcl
  rw [List.drop_drop] at hR
  have hta := cGetT_abs zs hw hl 257 (Nat.le_refl _) w (q + c) (by omega)
  rw [show (257 : Int) - (257 : Nat) = 0 from rfl] at hta
  refine aS (aR ?_)
  (refine nx (aM (gN rfl) rfl rfl rfl rfl rfl) rfl ?_)
  (refine nx (aM (gN rfl) rfl rfl rfl rfl rfl) rfl ?_)
  (refine nx (a_call (gN rfl) rfl rfl rfl rfl rfl (hn)) rfl ?_)
  (refine nx (aM (gN rfl) rfl rfl rfl rfl rfl) rfl ?_)
  (refine nx (aX (gN rfl) rfl rfl rfl rfl rfl rfl) rfl ?_)
  (refine nx (aX (gN rfl) rfl rfl rfl rfl rfl rfl) rfl ?_)
  (refine nx (aX (gN rfl) rfl rfl rfl rfl rfl rfl) rfl ?_)
  (refine nx (aA (gN rfl) rfl rfl rfl rfl rfl) rfl ?_)
  (refine nx (aA (gN rfl) rfl rfl rfl rfl rfl) rfl ?_)
  (refine nx (aA (gN rfl) rfl rfl rfl rfl rfl) rfl ?_)
  show AWp _ _ _ _ _ _ _
  refine aS (aS (aR ?_))
  (refine nx (aM (gN rfl) rfl rfl rfl rfl rfl) rfl ?_)
  (refine nx (a_neq (gN rfl) rfl rfl rfl rfl rfl rfl) rfl ?_)
  show AWp _ _ _ _ _ _ _
  refine aC rfl (fun hc => by cases hc) (fun hc => aK ?_)
  show AWp _ _ _ _ _ _ _
  cases hra : rT 257 (zs.drop (q + c)) with
  | error e =>
    rw [hra] at hta hR
    simp only at hR
    rw [hR]
    have he0 : e ≠ 0 := by rcases rT_er _ _ _ hra with h | h <;> omega
    have g2 : decide ((e : Int) ≠ 0) = true := by rw [decide_eq_true_eq]; omega
    refine aS (aR ?_)
    (refine nx (aM (gN rfl) rfl rfl rfl rfl rfl) rfl ?_)
    (refine nx (aM (gN rfl) rfl rfl rfl rfl rfl) rfl ?_)
    (refine nx (a_call (gN rfl) rfl rfl rfl rfl rfl (hta)) rfl ?_)
    (refine nx (aM (gN rfl) rfl rfl rfl rfl rfl) rfl ?_)
    (refine nx (aX (gN rfl) rfl rfl rfl rfl rfl rfl) rfl ?_)
    (refine nx (aX (gN rfl) rfl rfl rfl rfl rfl rfl) rfl ?_)
    (refine nx (aX (gN rfl) rfl rfl rfl rfl rfl rfl) rfl ?_)
    (refine nx (a_alloc (gN rfl) rfl rfl rfl rfl rfl rfl rfl rfl rfl rfl) rfl ?_)
    (refine nx (aSt (gN rfl) rfl rfl rfl rfl rfl rfl rfl rfl rfl rfl) rfl ?_)
    (refine nx (aA (gN rfl) rfl rfl rfl rfl rfl) rfl ?_)
    (refine nx (aA (gN rfl) rfl rfl rfl rfl rfl) rfl ?_)
    show AWp _ _ _ _ _ _ _
    refine aS (aS (aR ?_))
    (refine nx (aM (gN rfl) rfl rfl rfl rfl rfl) rfl ?_)
    (refine nx (a_neq (gN rfl) rfl rfl rfl rfl rfl rfl) rfl ?_)
    show AWp _ _ _ _ _ _ _
    refine aC rfl (fun hc => ?_) (fun hc => Bool.noConfusion (g2.symm.trans hc))
    refine aS (aR ?_)
    (refine nx (a_build (gN rfl) rfl rfl rfl rfl rfl rfl rfl rfl rfl rfl rfl) rfl ?_)
    (refine nx (aM (gN rfl) rfl rfl rfl rfl rfl) rfl ?_)
    (refine nx (aSt (gN rfl) rfl rfl rfl rfl rfl rfl rfl rfl rfl rfl) rfl ?_)
    (refine nx (aA (gN rfl) rfl rfl rfl rfl rfl) rfl ?_)
    (refine nx (aA (gN rfl) rfl rfl rfl rfl rfl) rfl ?_)
    show AWp _ _ _ _ _ _ _
    exact aT (And.intro (.inr rfl) rfl)
  | ok ac =>
  obtain ⟨a, c1⟩ := ac
  rw [hra] at hta hR
  simp only at hR
  obtain ⟨hc1, _⟩ := rT_back 257 (zs.drop (q + c)) (hw.drop _) a c1 hra
  rw [List.length_drop] at hc1
  rw [List.drop_drop, show q + (c + c1) = q + c + c1 by omega] at hR
  have htb := cGetT_abs zs hw hl 257 (Nat.le_refl _) w (q + c + c1) (by omega)
  rw [show (257 : Int) - (257 : Nat) = 0 from rfl] at htb
  refine aS (aR ?_)
  (refine nx (aM (gN rfl) rfl rfl rfl rfl rfl) rfl ?_)
  (refine nx (aM (gN rfl) rfl rfl rfl rfl rfl) rfl ?_)
  (refine nx (a_call (gN rfl) rfl rfl rfl rfl rfl (hta)) rfl ?_)
  (refine nx (aM (gN rfl) rfl rfl rfl rfl rfl) rfl ?_)
  (refine nx (aX (gN rfl) rfl rfl rfl rfl rfl rfl) rfl ?_)
  (refine nx (aX (gN rfl) rfl rfl rfl rfl rfl rfl) rfl ?_)
  (refine nx (aX (gN rfl) rfl rfl rfl rfl rfl rfl) rfl ?_)
  (refine nx (a_alloc (gN rfl) rfl rfl rfl rfl rfl rfl rfl rfl rfl rfl) rfl ?_)
  (refine nx (aSt (gN rfl) rfl rfl rfl rfl rfl rfl rfl rfl rfl rfl) rfl ?_)
  (refine nx (aA (gN rfl) rfl rfl rfl rfl rfl) rfl ?_)
  (refine nx (aA (gN rfl) rfl rfl rfl rfl rfl) rfl ?_)
  show AWp _ _ _ _ _ _ _
  refine aS (aS (aR ?_))
  (refine nx (aM (gN rfl) rfl rfl rfl rfl rfl) rfl ?_)
  (refine nx (a_neq (gN rfl) rfl rfl rfl rfl rfl rfl) rfl ?_)
  show AWp _ _ _ _ _ _ _
  refine aC rfl (fun hc => by cases hc) (fun hc => aK ?_)
  show AWp _ _ _ _ _ _ _
  cases hrb : rT 257 (zs.drop (q + c + c1)) with
  | error e =>
    rw [hrb] at htb hR
    simp only at hR
    rw [hR]
    have he0 : e ≠ 0 := by rcases rT_er _ _ _ hrb with h | h <;> omega
    have g2 : decide ((e : Int) ≠ 0) = true := by rw [decide_eq_true_eq]; omega
    refine aS (aR ?_)
    (refine nx (aM (gN rfl) rfl rfl rfl rfl rfl) rfl ?_)
    (refine nx (aM (gN rfl) rfl rfl rfl rfl rfl) rfl ?_)
    (refine nx (a_call (gN rfl) rfl rfl rfl rfl rfl (htb)) rfl ?_)
    (refine nx (aM (gN rfl) rfl rfl rfl rfl rfl) rfl ?_)
    (refine nx (aX (gN rfl) rfl rfl rfl rfl rfl rfl) rfl ?_)
    (refine nx (aX (gN rfl) rfl rfl rfl rfl rfl rfl) rfl ?_)
    (refine nx (aX (gN rfl) rfl rfl rfl rfl rfl rfl) rfl ?_)
    (refine nx (a_alloc (gN rfl) rfl rfl rfl rfl rfl rfl rfl rfl rfl rfl) rfl ?_)
    (refine nx (aSt (gN rfl) rfl rfl rfl rfl rfl rfl rfl rfl rfl rfl) rfl ?_)
    (refine nx (aA (gN rfl) rfl rfl rfl rfl rfl) rfl ?_)
    (refine nx (aA (gN rfl) rfl rfl rfl rfl rfl) rfl ?_)
    show AWp _ _ _ _ _ _ _
    refine aS (aS (aR ?_))
    (refine nx (aM (gN rfl) rfl rfl rfl rfl rfl) rfl ?_)
    (refine nx (a_neq (gN rfl) rfl rfl rfl rfl rfl rfl) rfl ?_)
    show AWp _ _ _ _ _ _ _
    refine aC rfl (fun hc => ?_) (fun hc => Bool.noConfusion (g2.symm.trans hc))
    refine aS (aR ?_)
    (refine nx (a_build (gN rfl) rfl rfl rfl rfl rfl rfl rfl rfl rfl rfl rfl) rfl ?_)
    (refine nx (aM (gN rfl) rfl rfl rfl rfl rfl) rfl ?_)
    (refine nx (aSt (gN rfl) rfl rfl rfl rfl rfl rfl rfl rfl rfl rfl) rfl ?_)
    (refine nx (aA (gN rfl) rfl rfl rfl rfl rfl) rfl ?_)
    (refine nx (aA (gN rfl) rfl rfl rfl rfl rfl) rfl ?_)
    show AWp _ _ _ _ _ _ _
    exact aT (And.intro (.inr rfl) rfl)
  | ok bc =>
  obtain ⟨b, c2⟩ := bc
  rw [hrb] at htb hR
  simp only at hR
  rw [hR]
  refine aS (aR ?_)
  (refine nx (aM (gN rfl) rfl rfl rfl rfl rfl) rfl ?_)
  (refine nx (aM (gN rfl) rfl rfl rfl rfl rfl) rfl ?_)
  (refine nx (a_call (gN rfl) rfl rfl rfl rfl rfl (htb)) rfl ?_)
  (refine nx (aM (gN rfl) rfl rfl rfl rfl rfl) rfl ?_)
  (refine nx (aX (gN rfl) rfl rfl rfl rfl rfl rfl) rfl ?_)
  (refine nx (aX (gN rfl) rfl rfl rfl rfl rfl rfl) rfl ?_)
  (refine nx (aX (gN rfl) rfl rfl rfl rfl rfl rfl) rfl ?_)
  (refine nx (a_alloc (gN rfl) rfl rfl rfl rfl rfl rfl rfl rfl rfl rfl) rfl ?_)
  (refine nx (aSt (gN rfl) rfl rfl rfl rfl rfl rfl rfl rfl rfl rfl) rfl ?_)
  (refine nx (aA (gN rfl) rfl rfl rfl rfl rfl) rfl ?_)
  (refine nx (aA (gN rfl) rfl rfl rfl rfl rfl) rfl ?_)
  show AWp _ _ _ _ _ _ _
  refine aS (aS (aR ?_))
  (refine nx (aM (gN rfl) rfl rfl rfl rfl rfl) rfl ?_)
  (refine nx (a_neq (gN rfl) rfl rfl rfl rfl rfl rfl) rfl ?_)
  show AWp _ _ _ _ _ _ _
  refine aC rfl (fun hc => by cases hc) (fun hc => aK ?_)
  show AWp _ _ _ _ _ _ _
  refine aS (aR ?_)
  (refine nx (aM (gN rfl) rfl rfl rfl rfl rfl) rfl ?_)
  (refine nx (a_eql (gN rfl) rfl rfl rfl rfl rfl rfl) rfl ?_)
  (refine nx (aL (gN rfl) rfl rfl rfl rfl rfl rfl rfl rfl rfl rfl rfl rfl) rfl ?_)
  (refine nx (aL (gN rfl) rfl rfl rfl rfl rfl rfl rfl rfl rfl rfl rfl rfl) rfl ?_)
  (refine nx (a_build (gN rfl) rfl rfl rfl rfl rfl rfl rfl rfl rfl rfl rfl) rfl ?_)
  (refine nx (aM (gN rfl) rfl rfl rfl rfl rfl) rfl ?_)
  (refine nx (aSt (gN rfl) rfl rfl rfl rfl rfl rfl rfl rfl rfl rfl) rfl ?_)
  (refine nx (aA (gN rfl) rfl rfl rfl rfl rfl) rfl ?_)
  (refine nx (aA (gN rfl) rfl rfl rfl rfl rfl) rfl ?_)
  show AWp _ _ _ _ _ _ _
  refine aT (And.intro (.inr rfl) ?_)
  show some [CV.row [.b (decide ((n : Int) = 1)), a.cw, b.cw], .i ((q + c + c1 + c2 : Nat) : Int), by8 0] = some [CV.row [.b (decide (n = 1)), a.cw, b.cw], .i ((q + (c + c1 + c2) : Nat) : Int), by8 0]
  rw [show q + (c + c1 + c2) = q + c + c1 + c2 by omega, show decide ((n : Int) = 1) = decide (n = 1) from decide_eq_decide.2 (by omega)]
-- 
theorem cGet1_abs (W : World) (zs : List Int) (hw : wfB zs) (hl : zs.length ≤ 1000000) (q : Nat) (hq : q ≤ zs.length) : AFun Try.prog W 34 [.i (q : Int), .ptr (.lst (zs.map by8))] (.tup (tupG q (rL (zs.drop q)))) := by
  have hc := fun w => cGetL_abs w zs hw hl q hq
  refine afun_of (rs := tupG q (rL (zs.drop q))) Try.func34 Try.ntmps34 rfl rfl rfl rfl ?_
  intro w U hW
  have hc := hc w
  cases hrq : rL (zs.drop q) with
  | error er =>
    rw [hrq] at hc
    refine aS (aR ?_)
    (refine nx (a_alloc (gN rfl) rfl rfl rfl rfl rfl rfl rfl rfl rfl rfl) rfl ?_)
    (refine nx (aA (gN rfl) rfl rfl rfl rfl rfl) rfl ?_)
    (refine nx (aA (gN rfl) rfl rfl rfl rfl rfl) rfl ?_)
    show AWp _ _ _ _ _ _ _
    refine aS (aR ?_)
    (refine nx (a_load_ptr (gN rfl) rfl rfl rfl rfl rfl rfl rfl rfl rfl) rfl ?_)
    (refine nx (aM (gN rfl) rfl rfl rfl rfl rfl) rfl ?_)
    (refine nx (a_call (gN rfl) rfl rfl rfl rfl rfl (hc)) rfl ?_)
    (refine nx (aX (gN rfl) rfl rfl rfl rfl rfl rfl) rfl ?_)
    (refine nx (aX (gN rfl) rfl rfl rfl rfl rfl rfl) rfl ?_)
    (refine nx (aX (gN rfl) rfl rfl rfl rfl rfl rfl) rfl ?_)
    (refine nx (aSt (gN rfl) rfl rfl rfl rfl rfl rfl rfl rfl rfl rfl) rfl ?_)
    (refine nx (aA (gN rfl) rfl rfl rfl rfl rfl) rfl ?_)
    (refine nx (aA (gN rfl) rfl rfl rfl rfl rfl) rfl ?_)
    show AWp _ _ _ _ _ _ _
    exact aT (And.intro (.inr rfl) rfl)
  | ok xc =>
    obtain ⟨x, c⟩ := xc
    rw [hrq] at hc
    refine aS (aR ?_)
    (refine nx (a_alloc (gN rfl) rfl rfl rfl rfl rfl rfl rfl rfl rfl rfl) rfl ?_)
    (refine nx (aA (gN rfl) rfl rfl rfl rfl rfl) rfl ?_)
    (refine nx (aA (gN rfl) rfl rfl rfl rfl rfl) rfl ?_)
    show AWp _ _ _ _ _ _ _
    refine aS (aR ?_)
    (refine nx (a_load_ptr (gN rfl) rfl rfl rfl rfl rfl rfl rfl rfl rfl) rfl ?_)
    (refine nx (aM (gN rfl) rfl rfl rfl rfl rfl) rfl ?_)
    (refine nx (a_call (gN rfl) rfl rfl rfl rfl rfl (hc)) rfl ?_)
    (refine nx (aX (gN rfl) rfl rfl rfl rfl rfl rfl) rfl ?_)
    (refine nx (aX (gN rfl) rfl rfl rfl rfl rfl rfl) rfl ?_)
    (refine nx (aX (gN rfl) rfl rfl rfl rfl rfl rfl) rfl ?_)
    (refine nx (aSt (gN rfl) rfl rfl rfl rfl rfl rfl rfl rfl rfl rfl) rfl ?_)
    (refine nx (aA (gN rfl) rfl rfl rfl rfl rfl) rfl ?_)
    (refine nx (aA (gN rfl) rfl rfl rfl rfl rfl) rfl ?_)
    show AWp _ _ _ _ _ _ _
    exact aT (And.intro (.inr rfl) rfl)
-- 
theorem cListE_abs (W : World) (zs : List Int) (hl : zs.length ≤ 1000000) (fc : CV) (p : Int) (h : p < 0 ∨ p > zs.length) : AFun Try.prog W 33 [.lst (zs.map by8), .i p, fc] (.tup [.lst [], .i 0, by8 1]) := by
  have hn := fun w => cGetE_abs w zs p 4096 1 (by decide) (fun w => cUintA_abs w zs hl p h)
  refine afun_of (rs := [.lst [], .i 0, by8 1]) Try.func33 Try.ntmps33 rfl rfl rfl rfl ?_
  intro w U hW
  refine aS (aR ?_)
  (refine nx (aA (gN rfl) rfl rfl rfl rfl rfl) rfl ?_)
  (refine nx (aA (gN rfl) rfl rfl rfl rfl rfl) rfl ?_)
  (refine nx (aA (gN rfl) rfl rfl rfl rfl rfl) rfl ?_)
  show AWp _ _ _ _ _ _ _
  refine aS (aR ?_)
  (refine nx (aM (gN rfl) rfl rfl rfl rfl rfl) rfl ?_)
  (refine nx (aM (gN rfl) rfl rfl rfl rfl rfl) rfl ?_)
  (refine nx (a_call (gN rfl) rfl rfl rfl rfl rfl (hn w)) rfl ?_)
  (refine nx (aM (gN rfl) rfl rfl rfl rfl rfl) rfl ?_)
  (refine nx (aX (gN rfl) rfl rfl rfl rfl rfl rfl) rfl ?_)
  (refine nx (aX (gN rfl) rfl rfl rfl rfl rfl rfl) rfl ?_)
  (refine nx (aX (gN rfl) rfl rfl rfl rfl rfl rfl) rfl ?_)
  (refine nx (aA (gN rfl) rfl rfl rfl rfl rfl) rfl ?_)
  (refine nx (aA (gN rfl) rfl rfl rfl rfl rfl) rfl ?_)
  (refine nx (aA (gN rfl) rfl rfl rfl rfl rfl) rfl ?_)
  show AWp _ _ _ _ _ _ _
  refine aS (aS (aR ?_))
  (refine nx (aM (gN rfl) rfl rfl rfl rfl rfl) rfl ?_)
  (refine nx (a_neq (gN rfl) rfl rfl rfl rfl rfl rfl) rfl ?_)
  show AWp _ _ _ _ _ _ _
  refine aC rfl (fun hc => ?_) (fun hc => by cases hc)
  refine aS (aR ?_)
  (refine nx (aM (gN rfl) rfl rfl rfl rfl rfl) rfl ?_)
  (refine nx (aA (gN rfl) rfl rfl rfl rfl rfl) rfl ?_)
  (refine nx (aA (gN rfl) rfl rfl rfl rfl rfl) rfl ?_)
  (refine nx (aA (gN rfl) rfl rfl rfl rfl rfl) rfl ?_)
  show AWp _ _ _ _ _ _ _
  exact aT (And.intro (.inr rfl) rfl)
def gC (zs : List Int) (p : Int) : Except Nat (List Lt × Nat) := if p < 0 ∨ p > zs.length then .error 1 else rC (zs.drop p.toNat)
-- 
theorem cGet_abs (W : World) (zs : List Int) (hw : wfB zs) (hl : zs.length ≤ 1000000) (p : Int) : AFun Try.prog W 11 [.lst (zs.map by8), .i p] (.tup (tupLG p.toNat (gC zs p))) := by
  have hc : ∀ w, AFun Try.prog w 33 [.lst (zs.map by8), .i p, .fn 34 0 [.ptr (.lst (zs.map by8))]] (.tup (tupLG p.toNat (gC zs p))) := fun w => by
    unfold gC
    by_cases hp : p < 0 ∨ p > zs.length
    · rw [if_pos hp]
      exact cListE_abs w zs hl _ p hp
    · rw [if_neg hp]
      obtain ⟨q, rfl⟩ : ∃ q : Nat, p = q := ⟨p.toNat, by omega⟩
      exact cListG_abs w zs hw hl _ rL (fun l x c hwl h => (rL_back l hwl x c h).1) rL_er (fun w q hq => ⟨_, _, _, rfl, cGet1_abs w zs hw hl q hq⟩) q (by omega)
  obtain ⟨R, hR⟩ : ∃ R, R = gC zs p := ⟨_, rfl⟩
  rw [← hR] at hc ⊢
  refine afun_of (rs := tupLG p.toNat R) Try.func11 Try.ntmps11 rfl rfl rfl rfl ?_
  intro w U hW
  refine aS (aR ?_)
  (refine nx (a_box (gN rfl) rfl rfl rfl rfl rfl) rfl ?_)
  (refine nx (aA (gN rfl) rfl rfl rfl rfl rfl) rfl ?_)
  (refine nx (aA (gN rfl) rfl rfl rfl rfl rfl) rfl ?_)
  (refine nx (aA (gN rfl) rfl rfl rfl rfl rfl) rfl ?_)
  show AWp _ _ _ _ _ _ _
  refine AWp.wk (wk_freeze 2 rfl rfl rfl (s' := [(1, .val (.i p))]) ⟨rfl, trivial⟩ rfl rfl rfl) ?_
  refine aS (aR ?_)
  (refine nx (a_load_ptr (gN rfl) rfl rfl rfl rfl rfl rfl rfl rfl rfl) rfl ?_)
  (refine nx (aM (gN rfl) rfl rfl rfl rfl rfl) rfl ?_)
  (refine nx (a_mkfunc (gN rfl) rfl rfl rfl rfl rfl rfl) rfl ?_)
  (refine nx (a_call (gN rfl) rfl rfl rfl rfl rfl (hc w)) rfl ?_)
  (refine nx (aX (gN rfl) rfl rfl rfl rfl rfl rfl) rfl ?_)
  (refine nx (aX (gN rfl) rfl rfl rfl rfl rfl rfl) rfl ?_)
  (refine nx (aX (gN rfl) rfl rfl rfl rfl rfl rfl) rfl ?_)
  (refine nx (aA (gN rfl) rfl rfl rfl rfl rfl) rfl ?_)
  (refine nx (aA (gN rfl) rfl rfl rfl rfl rfl) rfl ?_)
  (refine nx (aA (gN rfl) rfl rfl rfl rfl rfl) rfl ?_)
  show AWp _ _ _ _ _ _ _
  exact aT (And.intro (.inr rfl) rfl)
def len8 (n : Nat) : Int := if n = 0 then 0 else if n = 1 then 1 else if n < 4 then 2 else if n < 8 then 3 else 4
set_option maxHeartbeats 4000000 in
theorem len64_any (n : Nat) (h : n ≤ 12) (w : World) : Calls Try.prog 118 #[.int .u64 (n : Int)] w fun e w' => e = .returned (.int .i64 (len8 n)) ∧ w' = w := by
  have hn : n = 0 ∨ n = 1 ∨ n = 2 ∨ n = 3 ∨ n = 4 ∨ n = 5 ∨ n = 6 ∨ n = 7 ∨ n = 8 ∨ n = 9 ∨ n = 10 ∨ n = 11 ∨ n = 12 := by omega
  rcases hn with rfl | rfl | rfl | rfl | rfl | rfl | rfl | rfl | rfl | rfl | rfl | rfl | rfl
  all_goals
    go_enter Try.func118, Try.ntmps118
    go_wp2
    go_ret
    exact ⟨by kernel_rfl, rfl⟩
theorem len64_abs (W : World) (n : Nat) (h : n ≤ 12) : AFun Try.prog W 118 [.sc (.int .u64 (n : Int))] (.val (.i (len8 n))) := by
  refine ⟨ent_of Try.func118 rfl rfl, .inl rfl, rfl, ?_⟩
  rintro U w vs _ ⟨u1, us1, rfl, g1, g3⟩
  have g3 : us1 = [] := g3
  subst g3
  obtain ⟨rfl, _⟩ := vrep_sc.1 g1
  refine (len64_any n h w).mono ?_
  rintro e w' ⟨rfl, rfl⟩
  exact ⟨_, rfl, vrep_sc.2 ⟨rfl, rfl⟩, Below.refl _ _⟩
-- 
theorem len_abs (W : World) (n : Nat) (h : n ≤ 12) : AFun Try.prog W 80 [.sc (.int .u64 (n : Int))] (.val (.i (len8 n))) := by
  refine afun_of (rs := [.i (len8 n)]) Try.func80 Try.ntmps80 rfl rfl rfl rfl ?_
  intro w U hW
  refine aS (aR ?_)
  (refine nx (aA (gN rfl) rfl rfl rfl rfl rfl) rfl ?_)
  show AWp _ _ _ _ _ _ _
  refine aS (aC rfl (fun hc => by cases hc) (fun hc => aK ?_))
  show AWp _ _ _ _ _ _ _
  refine aS (aR ?_)
  (refine nx (aM (gN rfl) rfl rfl rfl rfl rfl) rfl ?_)
  (refine nx (a_call (gN rfl) rfl rfl rfl rfl rfl (len64_abs w n h)) rfl ?_)
  (refine nx (aA (gN rfl) rfl rfl rfl rfl rfl) rfl ?_)
  show AWp _ _ _ _ _ _ _
  exact aT (And.intro (.inr rfl) rfl)
section
variable {α : Type} (lt : α → α → Bool) (a : Nat)
def sink : Nat → List α → List α
  | 0, L => L
  | j + 1, L => match L[j + 1]?, L[j]? with
    | some x, some y => if a < j + 1 ∧ lt x y = true then sink j ((L.set (j + 1) y).set j x) else L
    | _, _ => L
def isortN : Nat → Nat → List α → List α
  | 0, _, L => L
  | n + 1, i, L => isortN n (i + 1) (sink lt a i L)
theorem sink_len : ∀ (j : Nat) (L : List α), (sink lt a j L).length = L.length
  | 0, L => rfl
  | j + 1, L => by
    unfold sink
    split
    · split
      · rw [sink_len j]; simp
      · rfl
    · rfl
theorem sink_stop {j : Nat} {L : List α} (h : ¬ a < j) : sink lt a j L = L := by
  cases j with
  | zero => rfl
  | succ j => unfold sink; split <;> simp [h]
theorem sink_no {j : Nat} {L : List α} {x y : α} (hx : L[j + 1]? = some x) (hy : L[j]? = some y) (h : lt x y = false) : sink lt a (j + 1) L = L := by
  unfold sink; rw [hx, hy]; simp [h]
theorem sink_yes {j : Nat} {L : List α} {x y : α} (hx : L[j + 1]? = some x) (hy : L[j]? = some y) (ha : a < j + 1) (h : lt x y = true) : sink lt a (j + 1) L = sink lt a j ((L.set (j + 1) y).set j x) := by
  conv => lhs; unfold sink
  rw [hx, hy]; simp [h, ha]
theorem isortN_len : ∀ (n i : Nat) (L : List α), (isortN lt a n i L).length = L.length
  | 0, _, L => rfl
  | n + 1, i, L => by rw [isortN, isortN_len n, sink_len]
end

def ltC (cmp : Bd → Bd → Int) (x y : Bd) : Bool := decide (cmp x y < 0)
end Go.Proofs.Ytiammidklcjelaa
namespace Go.Proofs.Ytiammidklcjelaa
open Go.RowKit
set_option linter.unusedVariables false
set_option linter.unusedSimpArgs false
def fineB (l : List Tm) : Bool := l.all fun t => decide (0 ≤ smallT t 60 20)

theorem PsT.at {w : World} {base : Nat} {a : Option Addr} {n c : Nat} {ps : List (List Int)} (h : PsT w base (.slice a n c) ps) {i : Nat} (hi : i < ps.length) :
    ∃ (b off : Nat) (x : Pr), a = some ⟨b, off, none⟩ ∧ ps[i]? = some x.p ∧ x.ok (fun b => base ≤ b) w ∧ w.cell? ⟨b, off + i, none⟩ = some (.slice x.a x.n x.c) := by
  obtain ⟨xs, h1, h2, h3⟩ := h
  obtain ⟨a', c', e1, e2, e3, e4, e5⟩ := ownsRow_cs h1
  cases e1
  have hxl : xs.length = ps.length := by rw [← h2, List.length_map]
  have hix : i < xs.length := by omega
  rcases e5 with h | ⟨b, off, ha, hlt, hc⟩
  · rw [List.map_eq_nil_iff] at h; rw [h] at hix; simp at hix
  · refine ⟨b, off, xs[i], ha, ?_, (h3 _ (List.getElem_mem hix)).keep fun b h _ => ⟨h.1, rfl⟩, ?_⟩
    · rw [← h2, List.getElem?_map, List.getElem?_eq_getElem hix]; rfl
    · rw [hc i (by rw [List.length_map]; exact hix), List.getElem?_map, List.getElem?_eq_getElem hix]; rfl

theorem Pr.ok.at {U : Nat → Prop} {w : World} {x : Pr} (h : x.ok U w) {i : Nat} (hi : i < x.n) : ∃ b off z, x.a = some ⟨b, off, none⟩ ∧ U b ∧ b < w.heap.size ∧ x.p[i]? = some z ∧ w.cell? ⟨b, off + i, none⟩ = some (.int .i64 z) := by
  obtain ⟨h1, h2, h3, h4, h5⟩ := h
  have hip : i < x.p.length := by omega
  rcases h5 with h | ⟨b, off, ha, hu, hlt, hc⟩
  · unfold ints at h; rw [List.map_eq_nil_iff] at h; rw [h] at hip; simp at hip
  · refine ⟨b, off, x.p[i], ha, hu, hlt, List.getElem?_eq_getElem hip, ?_⟩
    rw [hc i (by unfold ints; rw [List.length_map]; exact hip)]
    unfold ints
    rw [List.getElem?_map, List.getElem?_eq_getElem hip]; rfl

def tm0 : Tm := .mk 1 [.mk (-1) [], .mk 2 []]
end Go.Proofs.Ytiammidklcjelaa
namespace Go.Proofs.Ytiammidklcjelaa
open Go.RowKit
set_option linter.unusedVariables false
set_option linter.unusedSimpArgs false
set_option maxRecDepth 100000
theorem compare_abs (W : World) {t s : Tm} (ht : t.rng) (hs : s.rng) : AFun Try.prog W 81 [t.cw, s.cw] (.val (.i (cmpT t s))) := by
  refine ⟨ent_of Try.func81 rfl rfl, .inl rfl, rfl, ?_⟩
  rintro U w vs hW ⟨u1, us1, rfl, h1, u2, us2, rfl, h2, h3⟩
  have h3 : us2 = [] := h3
  subst h3
  obtain ⟨a, n, c, rfl, h4⟩ := tat_of_vrep ht h1
  obtain ⟨a', n', c', rfl, h5⟩ := tat_of_vrep hs h2
  refine (compare_any t s a a' n c n' c' w h4 h5).mono ?_
  rintro e w' ⟨rfl, hb⟩
  exact ⟨_, rfl, vrep_sc.2 ⟨rfl, rfl⟩, hb⟩
def cmpB (x y : Bd) : Int := cmpZ x.v y.v
def idleB (b : Bd) : Bool := decide (b.t.f < 0) && decide (-1 - b.t.f = b.v)
def idxB (q : Bd → Bool) : List Bd → Nat → Int
  | [], _ => -1
  | b :: l, i => if q b then (i : Int) else idxB q l (i + 1)
end Go.Proofs.Ytiammidklcjelaa
