/-
 The shapes of terms and of bindings.
-/
import Derived.Test.YtekboofbedakcaaGreatMg10
import Derived.Test.YtekboofbedakcaaGreatAbOpen
import Derived.Test.YtekboofbedakcaaGreatMg2
namespace Go.Proofs.YtekboofbedakcaaGreat
open Go.RowKit Go.ChangeShapes
set_option linter.unusedVariables false
set_option linter.unusedSimpArgs false
set_option maxRecDepth 100000
theorem b8g {n:Int} (h:(Lit.int .i64 n).wf=true) : -9223372036854775808≤n∧n≤9223372036854775807:=by
 simpa [Lit.wf,IntKind.min,IntKind.max,IntKind.signed,IntKind.bits] using h
theorem a9w {n:Nat} {c:CV} (h:Shp Tryz.prog n 3 c):∃ z,c = .i z ∧ -9223372036854775808≤z∧z≤9223372036854775807:=by
 cases n with
 | zero=>exact h.elim
 | succ n =>
  rw [Shp,Tryz.underlying3] at h
  obtain ⟨z,h1,h2⟩:=h
  exact ⟨z,h1,b8g h2⟩
theorem a0M {α:Type} (f:α→CV) (g:α→Prop):∀ {l:List CV},(∀ x∈l,∃ t:α,x=f t∧g t)→∃ m:List α,l=m.map f∧∀ t∈m,g t
 | [],_=>⟨[],rfl,fun t ht=>by cases ht⟩
 | x::l,h=>by
  obtain ⟨t,h1,h2⟩:=h x (by simp)
  obtain ⟨m,h3,h4⟩:=a0M f g (l:=l) (fun y hy=>h y (List.mem_cons_of_mem _ hy))
  exact ⟨t::m,by rw [h1,h3];rfl,fun s hs=>by
   rcases List.mem_cons.1 hs with rfl | hs
   ·exact h2
   ·exact h4 s hs⟩
theorem a3V:∀ (n:Nat) {c:CV},Shp Tryz.prog n 25 c→∃ t:Tm,c=t.cw∧t.rng:=by
 intro n
 induction n using Nat.strongRecOn with
 | ind n ih =>
  intro c h
  cases n with
  | zero=>exact h.elim
  | succ n =>
   rw [Shp,Tryz.underlying25] at h
   obtain ⟨l,rfl,hl,hf⟩:=h
   match l,hl with
   | [x,y],_ =>
    obtain ⟨z,rfl,hz⟩:=a9w (hf 0 _ x rfl rfl)
    have hy:=hf 1 _ y rfl rfl
    cases n with
    | zero=>exact hy.elim
    | succ n =>
     have hy:Shp Tryz.prog (n+1) 23 y:=hy
     rw [Shp,Tryz.underlying23] at hy
     obtain ⟨m,rfl,hm⟩:=hy
     obtain ⟨ts,h1,h2⟩:=a0M Tm.cv Tm.rng (l:=m) (fun x hx=>by
      obtain ⟨t,h1,h2⟩:=ih n (by omega) (hm x hx)
      exact ⟨t,by rw [h1,Tm.cv_eq],h2⟩)
     exact ⟨⟨z,ts⟩,by rw [h1],(Tm.rng_iff _).2 ⟨hz,h2⟩⟩
theorem b0X {n:Nat} {c:CV} (h:Shp Tryz.prog n 26 c):∃ l:List Bd,c = .lst (l.map Bd.cv)∧∀ b∈l,(-9223372036854775808≤b.v∧b.v≤9223372036854775807)∧b.t.rng:=by
 cases n with
 | zero=>exact h.elim
 | succ n =>
  rw [Shp,Tryz.underlying26] at h
  obtain ⟨l,rfl,hl⟩:=h
  obtain ⟨m,h1,h2⟩:=a0M Bd.cv (fun b=>(-9223372036854775808≤b.v∧b.v≤9223372036854775807)∧b.t.rng) (l:=l) (fun x hx=>by
   have hx:=hl x hx
   cases n with
   | zero=>exact hx.elim
   | succ n =>
    have hx:Shp Tryz.prog (n+1) 66 x:=hx
    rw [Shp,Tryz.underlying66] at hx
    obtain ⟨l,rfl,hl,hf⟩:=hx
    match l,hl with
    | [x,y],_ =>
     obtain ⟨z,rfl,hz⟩:=a9w (hf 0 _ x rfl rfl)
     obtain ⟨t,rfl,ht⟩:=a3V n (hf 1 _ y rfl rfl)
     exact ⟨⟨z,t⟩,rfl,hz,ht⟩)
  exact ⟨m,by rw [h1],h2⟩
end Go.Proofs.YtekboofbedakcaaGreat
