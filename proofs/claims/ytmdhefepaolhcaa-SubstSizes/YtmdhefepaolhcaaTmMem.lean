/-
  Terms in memory: two cells an element (its head, its list); U tells in which blocks.
-/
import Derived.Test.YtmdhefepaolhcaaTmMath
import Derived.Test.YtmdhefepaolhcaaRowMem
namespace Go.Proofs.Ytmdhefepaolhcaa
open Go.RowKit
set_option linter.unusedVariables false

/-- At a slice's head lie these cells, in a block of U. -/
def Cu (U : Nat → Prop) (w : World) (a : Option Addr) (xs : List Value) : Prop :=
  xs = [] ∨ ∃ b off, a = some ⟨b, off, none⟩ ∧ U b ∧ b < w.heap.size ∧ ∀ i, i < xs.length → w.cell? ⟨b, off + i, none⟩ = xs[i]?

theorem Cu.cs {U : Nat → Prop} {w : World} {a : Option Addr} {xs : List Value} (h : Cu U w a xs) : Cs w a xs := by
  rcases h with h | ⟨b, off, h1, _, h2, h3⟩
  · exact .inl h
  · exact .inr ⟨b, off, h1, h2, h3⟩

/-- These cells are elements with these heads, of whose lists this is told. -/
def EcsW : List (Int × (Option Addr → Nat → Nat → Prop)) → List Value → Prop
  | [], xs => xs = []
  | t :: ts, xs => ∃ a n c ys, xs = .int .i64 t.1 :: .slice a n c :: ys ∧ t.2 a n c ∧ EcsW ts ys
/-- The head f is an int, its list (a, n, c) holds its parts. -/
def Tat (U : Nat → Prop) (w : World) : Tm → Option Addr → Nat → Nat → Prop
  | ⟨f, l⟩, a, n, c => (-9223372036854775808 ≤ f ∧ f ≤ 9223372036854775807) ∧ (n = l.length ∧ n ≤ c ∧ c ≤ maxLen ∧ (a = none → n = 0 ∧ c = 0) ∧ ∃ xs, Cu U w a xs ∧ EcsW (l.map fun s => (s.f, fun a n c => Tat U w s a n c)) xs)
/-- These cells are the elements l. -/
def Ecs (U : Nat → Prop) (w : World) (l : List Tm) (xs : List Value) : Prop := EcsW (l.map fun s => (s.f, fun a n c => Tat U w s a n c)) xs

/-- A slice of terms. -/
def Las (U : Nat → Prop) (w : World) (l : List Tm) (a : Option Addr) (n c : Nat) : Prop :=
  n = l.length ∧ n ≤ c ∧ c ≤ maxLen ∧ (a = none → n = 0 ∧ c = 0) ∧ ∃ xs, Cu U w a xs ∧ Ecs U w l xs

theorem tat_iff {U : Nat → Prop} {w : World} {t : Tm} {a : Option Addr} {n c : Nat} : Tat U w t a n c ↔ (-9223372036854775808 ≤ t.f ∧ t.f ≤ 9223372036854775807) ∧ Las U w t.l a n c := by
  cases t with
  | mk f l => rw [Tat]; rfl

theorem Ecs.nil_iff {U : Nat → Prop} {w : World} {xs : List Value} : Ecs U w [] xs ↔ xs = [] := Iff.rfl
theorem Ecs.cons_iff {U : Nat → Prop} {w : World} {t : Tm} {ts : List Tm} {xs : List Value} : Ecs U w (t :: ts) xs ↔ ∃ a n c ys, xs = .int .i64 t.f :: .slice a n c :: ys ∧ Tat U w t a n c ∧ Ecs U w ts ys := Iff.rfl

theorem Las.nil (U : Nat → Prop) (w : World) : Las U w [] none 0 0 := ⟨rfl, Nat.le_refl _, by unfold maxLen; omega, fun _ => ⟨rfl, rfl⟩, [], .inl rfl, Ecs.nil_iff.2 rfl⟩

theorem Ecs.length {U : Nat → Prop} {w : World} : ∀ {l : List Tm} {xs : List Value}, Ecs U w l xs → xs.length = l.length * 2
  | [], _, h => by rw [Ecs.nil_iff.1 h]; rfl
  | t :: ts, _, h => by
    obtain ⟨a, n, c, ys, rfl, _, h2⟩ := Ecs.cons_iff.1 h
    have := Ecs.length h2
    simp only [List.length_cons]
    omega

theorem Ecs.one {U : Nat → Prop} {w : World} : ∀ {l : List Tm} {xs : List Value}, Ecs U w l xs → ∀ u ∈ xs, u.oneCell' = true
  | [], _, h => by rw [Ecs.nil_iff.1 h]; simp
  | t :: ts, _, h => by
    obtain ⟨a, n, c, ys, rfl, _, h2⟩ := Ecs.cons_iff.1 h
    have := Ecs.one h2
    intro u hu
    rcases List.mem_cons.1 hu with rfl | hu
    · rfl
    · rcases List.mem_cons.1 hu with rfl | hu
      · rfl
      · exact this u hu

theorem Ecs.at {U : Nat → Prop} {w : World} : ∀ {l : List Tm} {xs : List Value}, Ecs U w l xs → ∀ {i : Nat}, i < l.length → ∃ s a n c, l[i]? = some s ∧ Tat U w s a n c ∧ xs[i * 2]? = some (.int .i64 s.f) ∧ xs[i * 2 + 1]? = some (.slice a n c)
  | [], _, h, i, hi => by simp at hi
  | t :: ts, _, h, i, hi => by
    obtain ⟨a, n, c, ys, rfl, h1, h2⟩ := Ecs.cons_iff.1 h
    cases i with
    | zero => exact ⟨t, a, n, c, rfl, h1, rfl, rfl⟩
    | succ i =>
      obtain ⟨s, a', n', c', e1, e2, e3, e4⟩ := Ecs.at h2 (i := i) (by simpa using hi)
      refine ⟨s, a', n', c', by simpa using e1, e2, ?_, ?_⟩
      · rw [show (i + 1) * 2 = i * 2 + 1 + 1 by omega]; simpa using e3
      · rw [show (i + 1) * 2 + 1 = i * 2 + 1 + 1 + 1 by omega]; simpa using e4

theorem Ecs.append {U : Nat → Prop} {w : World} : ∀ {l m : List Tm} {xs ys : List Value}, Ecs U w l xs → Ecs U w m ys → Ecs U w (l ++ m) (xs ++ ys)
  | [], m, xs, ys, h, h2 => by rw [Ecs.nil_iff.1 h]; exact h2
  | t :: ts, m, xs, ys, h, h2 => by
    obtain ⟨a, n, c, zs, rfl, h1, h3⟩ := Ecs.cons_iff.1 h
    exact Ecs.cons_iff.2 ⟨a, n, c, zs ++ ys, rfl, h1, Ecs.append h3 h2⟩

theorem Ecs.single {U : Nat → Prop} {w : World} {t : Tm} {a : Option Addr} {n c : Nat} (h : Tat U w t a n c) : Ecs U w [t] [.int .i64 t.f, .slice a n c] := Ecs.cons_iff.2 ⟨a, n, c, [], rfl, h, Ecs.nil_iff.2 rfl⟩

theorem Ecs.take {U : Nat → Prop} {w : World} : ∀ {l : List Tm} {xs : List Value}, Ecs U w l xs → ∀ (k : Nat), Ecs U w (l.take k) (xs.take (k * 2))
  | [], _, h, k => by rw [Ecs.nil_iff.1 h]; simp [Ecs.nil_iff]
  | t :: ts, _, h, 0 => by simp [Ecs.nil_iff]
  | t :: ts, _, h, k + 1 => by
    obtain ⟨a, n, c, zs, rfl, h1, h3⟩ := Ecs.cons_iff.1 h
    rw [show (k + 1) * 2 = k * 2 + 1 + 1 by omega]
    exact Ecs.cons_iff.2 ⟨a, n, c, zs.take (k * 2), rfl, h1, Ecs.take h3 k⟩
theorem Ecs.drop {U : Nat → Prop} {w : World} : ∀ {l : List Tm} {xs : List Value}, Ecs U w l xs → ∀ (k : Nat), Ecs U w (l.drop k) (xs.drop (k * 2))
  | [], _, h, k => by rw [Ecs.nil_iff.1 h]; simp [Ecs.nil_iff]
  | t :: ts, _, h, 0 => by simpa using h
  | t :: ts, _, h, k + 1 => by
    obtain ⟨a, n, c, zs, rfl, h1, h3⟩ := Ecs.cons_iff.1 h
    rw [show (k + 1) * 2 = k * 2 + 1 + 1 by omega]
    exact Ecs.drop h3 k

theorem Las.at {U : Nat → Prop} {w : World} {l : List Tm} {a : Option Addr} {n c : Nat} (h : Las U w l a n c) {i : Nat} (hi : i < n) :
    ∃ b off s a' n' c', a = some ⟨b, off, none⟩ ∧ U b ∧ b < w.heap.size ∧ l[i]? = some s ∧ Tat U w s a' n' c' ∧ w.cell? ⟨b, off + i * 2, none⟩ = some (.int .i64 s.f) ∧ w.cell? ⟨b, off + i * 2 + 1, none⟩ = some (.slice a' n' c') := by
  obtain ⟨h1, _, _, _, xs, h2, h3⟩ := h
  obtain ⟨s, a', n', c', e1, e2, e3, e4⟩ := h3.at (i := i) (by omega)
  have hl := h3.length
  rcases h2 with rfl | ⟨b, off, rfl, hu, hlt, hc⟩
  · simp at e3
  · refine ⟨b, off, s, a', n', c', rfl, hu, hlt, e1, e2, ?_, ?_⟩
    · rw [hc (i * 2) (by omega), e3]
    · rw [Nat.add_assoc, hc (i * 2 + 1) (by omega), e4]

theorem cell_congr {w w' : World} {b o : Nat} (h : w'.heap[b]? = w.heap[b]?) : w'.cell? ⟨b, o, none⟩ = w.cell? ⟨b, o, none⟩ := by simp [World.cell?, h]

theorem Cu.keep {U V : Nat → Prop} {w w' : World} {a : Option Addr} {xs : List Value} (h : Cu U w a xs) (hs : ∀ b, U b → b < w.heap.size → V b ∧ w'.heap[b]? = w.heap[b]?) : Cu V w' a xs := by
  rcases h with h | ⟨b, off, ha, hu, hlt, hc⟩
  · exact .inl h
  · obtain ⟨h1, h2⟩ := hs b hu hlt
    refine .inr ⟨b, off, ha, h1, ?_, fun i hi => ?_⟩
    · rw [Array.getElem?_eq_getElem hlt] at h2
      exact (Array.getElem?_eq_some_iff.1 h2).1
    · rw [cell_congr h2]; exact hc i hi

theorem ecs_keep {U V : Nat → Prop} {w w' : World} : ∀ {l : List Tm} {xs : List Value}, (∀ t ∈ l, ∀ a n c, Tat U w t a n c → Tat V w' t a n c) → Ecs U w l xs → Ecs V w' l xs
  | [], _, _, h => h
  | t :: ts, _, ht, h => by
    obtain ⟨a, n, c, ys, h1, h2, h3⟩ := Ecs.cons_iff.1 h
    exact Ecs.cons_iff.2 ⟨a, n, c, ys, h1, ht t (by simp) a n c h2, ecs_keep (fun s hs => ht s (List.mem_cons_of_mem _ hs)) h3⟩
/-- What lies in blocks that stay is still there. -/
theorem Tat.keep {U V : Nat → Prop} {w w' : World} (hs : ∀ b, U b → b < w.heap.size → V b ∧ w'.heap[b]? = w.heap[b]?) : ∀ {t : Tm} {a : Option Addr} {n c : Nat}, Tat U w t a n c → Tat V w' t a n c := by
  intro t
  induction t using Tm.ind with
  | h f l ih =>
    intro a n c h
    rw [tat_iff] at h ⊢
    obtain ⟨h1, h2, h3, h4, h5, xs, h6, h7⟩ := h
    exact ⟨h1, h2, h3, h4, h5, xs, h6.keep hs, ecs_keep (fun s hs' a n c => ih s hs') h7⟩
theorem Ecs.keep {U V : Nat → Prop} {w w' : World} (hs : ∀ b, U b → b < w.heap.size → V b ∧ w'.heap[b]? = w.heap[b]?) {l : List Tm} {xs : List Value} (h : Ecs U w l xs) : Ecs V w' l xs := ecs_keep (fun s _ a n c h' => h'.keep hs) h
theorem Las.keep {U V : Nat → Prop} {w w' : World} (hs : ∀ b, U b → b < w.heap.size → V b ∧ w'.heap[b]? = w.heap[b]?) {l : List Tm} {a : Option Addr} {n c : Nat} (h : Las U w l a n c) : Las V w' l a n c := by
  obtain ⟨h2, h3, h4, h5, xs, h6, h7⟩ := h
  exact ⟨h2, h3, h4, h5, xs, h6.keep hs, Ecs.keep hs h7⟩

theorem Tat.below {U : Nat → Prop} {B : Nat} {w w' : World} (hb : Below B w w') (hU : ∀ b, U b → b < w.heap.size → b < B) {t : Tm} {a : Option Addr} {n c : Nat} (h : Tat U w t a n c) : Tat U w' t a n c :=
  h.keep fun b h1 h2 => ⟨h1, hb.block b (hU b h1 h2)⟩
theorem Las.below {U : Nat → Prop} {B : Nat} {w w' : World} (hb : Below B w w') (hU : ∀ b, U b → b < w.heap.size → b < B) {l : List Tm} {a : Option Addr} {n c : Nat} (h : Las U w l a n c) : Las U w' l a n c :=
  h.keep fun b h1 h2 => ⟨h1, hb.block b (hU b h1 h2)⟩
theorem Ecs.below {U : Nat → Prop} {B : Nat} {w w' : World} (hb : Below B w w') (hU : ∀ b, U b → b < w.heap.size → b < B) {l : List Tm} {xs : List Value} (h : Ecs U w l xs) : Ecs U w' l xs :=
  h.keep fun b h1 h2 => ⟨h1, hb.block b (hU b h1 h2)⟩
theorem Tat.mono {U V : Nat → Prop} {w : World} (hU : ∀ b, U b → b < w.heap.size → V b) {t : Tm} {a : Option Addr} {n c : Nat} (h : Tat U w t a n c) : Tat V w t a n c :=
  h.keep fun b h1 h2 => ⟨hU b h1 h2, rfl⟩
theorem Las.mono {U V : Nat → Prop} {w : World} (hU : ∀ b, U b → b < w.heap.size → V b) {l : List Tm} {a : Option Addr} {n c : Nat} (h : Las U w l a n c) : Las V w l a n c :=
  h.keep fun b h1 h2 => ⟨hU b h1 h2, rfl⟩
theorem Ecs.mono {U V : Nat → Prop} {w : World} (hU : ∀ b, U b → b < w.heap.size → V b) {l : List Tm} {xs : List Value} (h : Ecs U w l xs) : Ecs V w l xs :=
  h.keep fun b h1 h2 => ⟨hU b h1 h2, rfl⟩

theorem Tat.las {U : Nat → Prop} {w : World} {t : Tm} {a : Option Addr} {n c : Nat} (h : Tat U w t a n c) : Las U w t.l a n c := (tat_iff.1 h).2
theorem Tat.wf {U : Nat → Prop} {w : World} {t : Tm} {a : Option Addr} {n c : Nat} (h : Tat U w t a n c) : -9223372036854775808 ≤ t.f ∧ t.f ≤ 9223372036854775807 := (tat_iff.1 h).1
theorem Las.len {U : Nat → Prop} {w : World} {l : List Tm} {a : Option Addr} {n c : Nat} (h : Las U w l a n c) : n = l.length ∧ n ≤ c ∧ c ≤ maxLen := ⟨h.1, h.2.1, h.2.2.1⟩

end Go.Proofs.Ytmdhefepaolhcaa
