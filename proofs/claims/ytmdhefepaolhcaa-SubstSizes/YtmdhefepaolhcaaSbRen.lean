/-
  Renamings: what they make of terms; variants and canonical forms.
-/
import Derived.Test.YtmdhefepaolhcaaSbVnt
namespace Go.Proofs.Ytmdhefepaolhcaa
set_option linter.unusedVariables false
set_option linter.unusedSimpArgs false

theorem rep_congr {f g : Int → Tm} {t : Tm} (h : ∀ v ∈ t.vs, f v = g v) : repT f t = repT g t := by
  induction t using Tm.indp with
  | h t ih =>
    by_cases hf : t.f < 0
    · rw [Tm.vs_var hf] at h
      rw [repT_var hf, repT_var hf, h _ (by simp)]
    · rw [Tm.vs_sym hf] at h
      rw [Tm.ps_of_sym (by omega)] at ih
      rw [repT_sym hf, repT_sym hf]
      congr 1
      exact List.map_congr_left fun s hs => ih s hs fun v hv => h v (List.mem_flatMap.2 ⟨s, hs, hv⟩)
theorem varT_strip (v : Int) : (varT v).strip = varT v := by
  rw [Tm.strip_eq]
  have : (varT v).ps = [] := by unfold Tm.ps varT; simp
  rw [this]; rfl
theorem rep_comp (img : Int → Tm) (g : Int → Int) {t : Tm} (h : ∀ v ∈ t.vs, 0 ≤ g v) : repT img (repT (fun v => varT (g v)) t) = repT (fun v => img (g v)) t := by
  induction t using Tm.indp with
  | h t ih =>
    by_cases hf : t.f < 0
    · rw [Tm.vs_var hf] at h
      have h := h _ (List.mem_singleton.2 rfl)
      rw [repT_var hf, repT_var hf, varT_strip, repT_var (by show -1 - g (-1 - t.f) < 0; omega)]
      show (img (-1 - (-1 - g (-1 - t.f)))).strip = _
      rw [show -1 - (-1 - g (-1 - t.f)) = g (-1 - t.f) by omega]
    · rw [Tm.vs_sym hf] at h
      rw [Tm.ps_of_sym (by omega)] at ih
      rw [repT_sym hf, repT_sym (t := ⟨t.f, _⟩) hf, repT_sym hf]
      simp only [List.map_map]
      congr 1
      exact List.map_congr_left fun s hs => ih s hs fun v hv => h v (List.mem_flatMap.2 ⟨s, hs, hv⟩)
theorem rep_id (t : Tm) : repT varT t = t.strip := by
  induction t using Tm.indp with
  | h t ih =>
    by_cases hf : t.f < 0
    · rw [repT_var hf, varT_strip, Tm.strip_eq, Tm.ps_of_var hf]
      unfold varT
      rw [show -1 - (-1 - t.f) = t.f by omega]; rfl
    · rw [Tm.ps_of_sym (by omega)] at ih
      rw [repT_sym hf, Tm.strip_eq, Tm.ps_of_sym (by omega)]
      congr 1
      exact List.map_congr_left fun s hs => ih s hs
theorem rep_strip (img : Int → Tm) (t : Tm) : repT img t.strip = repT img t := by
  induction t using Tm.indp with
  | h t ih =>
    by_cases hf : t.f < 0
    · rw [repT_var hf, repT_var (by rw [Tm.strip_f]; exact hf), Tm.strip_f]
    · rw [Tm.ps_of_sym (by omega)] at ih
      rw [repT_sym hf, repT_sym (by rw [Tm.strip_f]; exact hf), Tm.strip_f, Tm.strip_l, Tm.ps_of_sym (by omega), List.map_map]
      congr 1
      exact List.map_congr_left fun s hs => ih s hs
theorem rep_bare (img : Int → Tm) (t : Tm) : (repT img t).strip = repT img t := by
  induction t using Tm.indp with
  | h t ih =>
    by_cases hf : t.f < 0
    · rw [repT_var hf, Tm.strip_strip]
    · rw [Tm.ps_of_sym (by omega)] at ih
      rw [repT_sym hf, Tm.strip_eq, Tm.ps_of_sym (t := ⟨t.f, _⟩) (by show 0 ≤ t.f; omega)]
      simp only [List.map_map]
      congr 1
      exact List.map_congr_left fun s hs => ih s hs
theorem ren_vs' (g : Int → Int) (t : Tm) (h : ∀ v ∈ t.vs, 0 ≤ g v) : (repT (fun v => varT (g v)) t).vs = t.vs.map g := by
  rw [repT_vs]
  generalize t.vs = l at h ⊢
  induction l with
  | nil => rfl
  | cons v l ih =>
    rw [List.flatMap_cons, ih (fun x hx => h x (List.mem_cons_of_mem _ hx)), List.map_cons, varT_vs (h v (by simp))]
    rfl

theorem nub_nodup (l : List Int) : (nub l).Nodup := by
  induction l using snoc_ind with
  | h0 => exact List.nodup_nil
  | h1 l x ih =>
    rw [nub_snoc]
    split
    · exact ih
    · rename_i hx
      rw [List.nodup_append]
      refine ⟨ih, by simp, fun a ha b hb e => ?_⟩
      rw [List.mem_singleton] at hb
      exact hx (by rw [← hb, ← e]; exact ha)
/-- Where it stands first. -/
def ixOf : List Int → Int → Nat
  | [], _ => 0
  | x :: l, v => if x = v then 0 else ixOf l v + 1
theorem ixOf_lt : ∀ {l : List Int} {v : Int}, v ∈ l → ixOf l v < l.length
  | x :: l, v, h => by
    rw [ixOf]
    split
    · simp
    · rename_i e
      have := ixOf_lt (l := l) (v := v) ((List.mem_cons.1 h).resolve_left fun c => e c.symm)
      simp; omega
theorem ixOf_at : ∀ {l : List Int} {v : Int}, v ∈ l → l[ixOf l v]? = some v
  | x :: l, v, h => by
    rw [ixOf]
    split
    · rename_i e; simp [e]
    · rename_i e
      rw [List.getElem?_cons_succ]
      exact ixOf_at ((List.mem_cons.1 h).resolve_left fun c => e c.symm)
theorem ixOf_nodup : ∀ {l : List Int} {i : Nat} {v : Int}, l.Nodup → l[i]? = some v → ixOf l v = i
  | x :: l, 0, v, hn, h => by simp at h; rw [ixOf, if_pos h]
  | x :: l, i + 1, v, hn, h => by
    rw [List.getElem?_cons_succ] at h
    rw [List.nodup_cons] at hn
    have hne : ¬ x = v := fun e => hn.1 (by rw [e]; exact List.mem_of_getElem? h)
    rw [ixOf, if_neg hne, ixOf_nodup hn.2 h]
def zipB (a b : List Int) : List Bd := List.zipWith (fun v u => ⟨v, varT u⟩) a b
def nums (n : Nat) : List Int := (List.range n).map fun i : Nat => (i : Int)
theorem nums_at {n i : Nat} (h : i < n) : (nums n)[i]? = some (i : Int) := by
  unfold nums
  rw [List.getElem?_map, List.getElem?_range h]; rfl
theorem nums_len (n : Nat) : (nums n).length = n := by simp [nums]
theorem img_zip : ∀ {a b : List Int} {v : Int}, a.length = b.length → v ∈ a → imgB (zipB a b) v = varT (b.getD (ixOf a v) 0)
  | x :: a, y :: b, v, hl, h => by
    show ((findB (⟨x, varT y⟩ :: zipB a b) v).getD (varT v)) = _
    rw [findB, ixOf]
    split
    · rfl
    · rename_i e
      have := img_zip (a := a) (b := b) (v := v) (by simpa using hl) ((List.mem_cons.1 h).resolve_left fun c => e c.symm)
      rw [List.getD_cons_succ]
      exact this
theorem getD_of {l : List Int} {i : Nat} {v : Int} (h : l[i]? = some v) : l.getD i 0 = v := by rw [List.getD_eq_getElem?_getD, h]; rfl
/-- A term's numbers of variables, each once. -/
def Tm.nv (t : Tm) : List Int := nub t.vs
theorem nv_vars (t : Tm) : varsF t.flat = t.nv := varsF_nub _
def canT (t : Tm) : Tm := repT (imgB (zipB t.nv (nums t.nv.length))) t
def vntB (a b : Tm) : Bool := decide (a.nv.length = b.nv.length) && sameT (repT (imgB (zipB a.nv b.nv)) a) b
theorem canT_eq (t : Tm) : canT t = repT (fun v => varT (ixOf t.nv v : Nat)) t := by
  unfold canT
  refine rep_congr fun v hv => ?_
  have hv : v ∈ t.nv := (mem_nub _ _).2 hv
  rw [img_zip (nums_len _).symm hv, getD_of (nums_at (ixOf_lt hv))]
theorem canT_vs (t : Tm) : (canT t).vs = t.vs.map fun v => ((ixOf t.nv v : Nat) : Int) := by
  rw [canT_eq]
  exact ren_vs' _ t fun v hv => by omega
theorem canT_nv (t : Tm) : (canT t).nv.length = t.nv.length := by
  unfold Tm.nv
  rw [canT_vs, nub_map, List.length_map]
  · intro x hx y hy e
    have h1 := ixOf_at ((mem_nub _ _).2 hx)
    have h2 := ixOf_at ((mem_nub _ _).2 hy)
    unfold Tm.nv at e
    rw [show ixOf (nub t.vs) x = ixOf (nub t.vs) y by omega, h2] at h1
    exact (Option.some.inj h1).symm
theorem vnt_iff (a b : Tm) : vntB a b = sameT (canT a) (canT b) := by
  rw [Bool.eq_iff_iff]
  unfold vntB
  rw [Bool.and_eq_true, decide_eq_true_eq, sameT_iff, sameT_iff, rep_bare]
  have cb : ∀ t, (canT t).strip = canT t := fun t => rep_bare _ _
  rw [cb, cb]
  constructor
  · rintro ⟨hl, h⟩
    rw [canT_eq, canT_eq, ← rep_strip _ b, ← h]
    have e : repT (imgB (zipB a.nv b.nv)) a = repT (fun v => varT (b.nv.getD (ixOf a.nv v) 0)) a := rep_congr fun v hv => img_zip hl ((mem_nub _ _).2 hv)
    have hat : ∀ v ∈ a.vs, b.nv[ixOf a.nv v]? = some (b.nv.getD (ixOf a.nv v) 0) := fun v hv => by
      have := ixOf_lt (l := a.nv) ((mem_nub _ _).2 hv)
      rw [hl] at this
      rw [List.getD_eq_getElem?_getD, List.getElem?_eq_getElem this]; rfl
    rw [e, rep_comp _ _ fun v hv => vs_nonneg b _ ((mem_nub _ _).1 (List.mem_of_getElem? (hat v hv)))]
    exact rep_congr fun v hv => by rw [ixOf_nodup (l := b.nv) (nub_nodup _) (hat v hv)]
  · intro h
    have hl : a.nv.length = b.nv.length := by rw [← canT_nv a, ← canT_nv b, h]
    refine ⟨hl, ?_⟩
    have h2 : repT (fun v => varT (b.nv.getD v.toNat 0)) (canT a) = repT (fun v => varT (b.nv.getD v.toNat 0)) (canT b) := by rw [h]
    rw [canT_eq, canT_eq, rep_comp _ _ fun v hv => by omega, rep_comp _ _ fun v hv => by omega] at h2
    have e1 : repT (imgB (zipB a.nv b.nv)) a = repT (fun v => varT (b.nv.getD ((ixOf a.nv v : Nat) : Int).toNat 0)) a := rep_congr fun v hv => img_zip hl ((mem_nub _ _).2 hv)
    have e2 : repT (fun v => varT (b.nv.getD ((ixOf b.nv v : Nat) : Int).toNat 0)) b = repT varT b := rep_congr fun v hv => by
      rw [Int.toNat_natCast, getD_of (ixOf_at (l := b.nv) ((mem_nub _ _).2 hv))]
    rw [e1, h2, e2, rep_id]
theorem vnt_symm (a b : Tm) : vntB b a = sameT (canT a) (canT b) := by
  rw [vnt_iff, Bool.eq_iff_iff, sameT_iff, sameT_iff]
  exact eq_comm
theorem vnt_ren (a : Tm) (g : Int → Int) (h0 : ∀ v ∈ a.vs, 0 ≤ g v) (hg : ∀ x ∈ a.vs, ∀ y ∈ a.vs, g x = g y → x = y) : vntB a (repT (fun v => varT (g v)) a) = true := by
  have e : (repT (fun v => varT (g v)) a).nv = a.nv.map g := by
    unfold Tm.nv
    rw [ren_vs' g a h0, nub_map g _ hg]
  unfold vntB
  rw [e, Bool.and_eq_true, decide_eq_true_eq, sameT_iff]
  refine ⟨by simp, congrArg Tm.strip (rep_congr fun v hv => ?_)⟩
  have hm : v ∈ a.nv := (mem_nub a.vs v).2 hv
  rw [img_zip (by simp [Tm.nv]) hm]
  congr 1
  refine getD_of ?_
  rw [List.getElem?_map]
  show Option.map g (a.nv)[ixOf a.nv v]? = _
  rw [ixOf_at (l := a.nv) hm]; rfl
end Go.Proofs.Ytmdhefepaolhcaa
