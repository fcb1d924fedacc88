/-
  Where the document's files lie, and that they stay where other memory is written.
-/
import Derived.Test.YtngkapddobgfaaaDiskRefSeen
namespace Go.Proofs.Ytngkapddobgfaaa
open Go.RowKit Go.Maps
set_option linter.unusedVariables false

/-- Where a row of files and its bytes lie. -/
def FIn (T : Nat → Prop) (la : Option Addr) (ln : Nat) (rs : List FRef) : Prop := (∀ x, la = some x → 0 < ln → T x.block) ∧ ∀ r ∈ rs, ∀ x, r.a = some x → 0 < r.n → T x.block

theorem bs_kp {S : Nat → Prop} {w w' : World} {a : Option Addr} {n : Nat} {zs : List Int} (h : Bs w a n zs) (hk : Kp S w w') (hn : ∀ x, a = some x → 0 < n → ¬ S x.block) : Bs w' a n zs := by
  obtain ⟨h1, h2, h3⟩ := h
  refine ⟨h1, h2, ?_⟩
  rcases h3 with h3 | ⟨b, off, ha, hl, hc⟩
  · exact .inl h3
  · rcases Nat.eq_zero_or_pos n with h0 | h0
    · exact .inl h0
    · exact .inr ⟨b, off, ha, Nat.lt_of_lt_of_le hl hk.size, fun i hi => hk.cell (hc i hi) (hn ⟨b, off, none⟩ ha h0)⟩
theorem cs_kp {S : Nat → Prop} {w w' : World} {a : Option Addr} {xs : List Value} (h : Cs w a xs) (hk : Kp S w w') (hn : ∀ x, a = some x → xs ≠ [] → ¬ S x.block) : Cs w' a xs := by
  rcases h with h | ⟨b, off, ha, hl, hc⟩
  · exact .inl h
  · by_cases h0 : xs = []
    · exact .inl h0
    · refine .inr ⟨b, off, ha, Nat.lt_of_lt_of_le hl hk.size, fun i hi => ?_⟩
      have h1 := hc i hi
      rw [List.getElem?_eq_getElem hi] at h1 ⊢
      exact hk.cell h1 (hn ⟨b, off, none⟩ ha h0)
theorem Fs.kp {S : Nat → Prop} {w w' : World} {a : Option Addr} {n c : Nat} {rs : List FRef} (h : Fs w a n c rs) (hk : Kp S w w') (hn : FIn (fun i => ¬ S i) a n rs) : Fs w' a n c rs := by
  obtain ⟨h1, h2, h3, h4, h5⟩ := h
  refine ⟨h1, h2, h3, cs_kp h4 hk (fun x hx h0 => hn.1 x hx ?_), fun r hr => ⟨(h5 r hr).1, (h5 r hr).2.1, (h5 r hr).2.2.1, bs_kp (h5 r hr).2.2.2 hk (hn.2 r hr)⟩⟩
  rcases Nat.eq_zero_or_pos n with e | e
  · exfalso
    apply h0
    have : rs = [] := List.eq_nil_of_length_eq_zero (by omega)
    rw [this]; rfl
  · exact e
theorem Fs.fin {w : World} {a : Option Addr} {n c : Nat} {rs : List FRef} (h : Fs w a n c rs) : FIn (fun i => i < w.heap.size) a n rs := by
  obtain ⟨h1, h2, h3, h4, h5⟩ := h
  refine ⟨fun x hx hn => ?_, fun r hr x hx hn => ?_⟩
  · rcases h4 with e | ⟨b, off, ha, hl, _⟩
    · have := congrArg List.length e
      rw [fcells_length, List.length_nil] at this
      omega
    · rw [hx] at ha; cases ha; exact hl
  · rcases (h5 r hr).2.2.2.2.2 with e | ⟨b, off, ha, hl, _⟩
    · omega
    · rw [hx] at ha; cases ha; exact hl
/-- What came of old files, or is new. -/
theorem FIn.from {T T' : Nat → Prop} {w w' : World} {la a : Option Addr} {ln n c : Nat} {rs rs' : List FRef} (h : FIn T la ln rs) (hf : From w rs rs') (ha : (a = la ∧ n = ln) ∨ ∃ x, a = some x ∧ w.heap.size ≤ x.block ∨ a = none) (hw : Fs w' a n c rs') (h1 : ∀ i, T i → T' i) (h2 : ∀ i, w.heap.size ≤ i → i < w'.heap.size → T' i) : FIn T' a n rs' := by
  have hlt := hw.fin
  refine ⟨fun x hx hn => ?_, fun r hr x hx hn => ?_⟩
  · rcases ha with ⟨e1, e2⟩ | ⟨y, ⟨e1, e2⟩ | e1⟩
    · exact h1 _ (h.1 x (by rw [← e1]; exact hx) (by omega))
    · rw [hx] at e1; cases e1; exact h2 _ e2 (hlt.1 x hx hn)
    · rw [hx] at e1; cases e1
  · rcases hf r hr with ⟨q, hq, e1, e2⟩ | e1 | ⟨y, e1, e2⟩
    · exact h1 _ (h.2 q hq x (by rw [← e1]; exact hx) (by omega))
    · rw [hx] at e1; cases e1
    · rw [hx] at e1; cases e1; exact h2 _ e2 (hlt.2 r hr x hx hn)
theorem From.older {w w0 : World} {rs rs' : List FRef} (h : From w0 rs rs') (hs : w.heap.size ≤ w0.heap.size) : From w rs rs' := fun r hr => by
  rcases h r hr with e | e | ⟨x, e1, e2⟩
  · exact .inl e
  · exact .inr (.inl e)
  · exact .inr (.inr ⟨x, e1, by omega⟩)
end Go.Proofs.Ytngkapddobgfaaa
