/-
 EqAll: what follows from any clause by resolution and by factoring of equals.
-/
import Derived.Test.YtglmoficcjphaaaGreatMg13
import Derived.Test.YtglmoficcjphaaaGreatAbShp
namespace Go.Proofs.YtglmoficcjphaaaGreat
open List (length_append length_cons length_map length_nil mem_map)
open Go.RowKit
set_option linter.unusedVariables false
set_option linter.unusedSimpArgs false
set_option maxRecDepth 100000
set_option maxHeartbeats 4000000 in
theorem b3z (W:World) (c:List Lt) (i:Int) (hr:okC c):AFun Tryz.prog W 3 [.lst (c.map Lt.cv),.i i] (.val (.b true)):=by
 refine a9 (rs:=[.b true]) Tryz.func3 Tryz.ntmps3 rfl rfl rfl rfl ?_;intro w U hW;refine aS (aR ?_);refine nc ze ?_;refine aS (aS (aR ?_));refine nc (zw (z:=a8v w)) (nc zF ?_);refine aC rfl (fun hc=>by cases hc) (fun _=>aK ?_);have iC:=b0L w c 4 10 (by decide) (by decide) (by decide) hr;cases hF:Y2 c 4 10 with
 | false =>
  rw [hF] at iC;refine aS (aS (aR ?_));refine nc zl (nc (zw (z:=iC)) (nc zF ?_));refine aC rfl (fun hc=>?_) (fun hc=>by cases hc);refine aS (aR ?_);refine nc ze ?_;exact aT (And.intro (.inr rfl) rfl)
 | true =>
 rw [hF] at iC;obtain ⟨jP,pA⟩:=b6S (by decide) (by decide) hF;have tR:=a1P pA;have kG:∀ l∈c,l.a.ok/\l.b.ok:=fun l hl=>⟨(tR l hl).1.2,(tR l hl).2.2⟩
 refine aS (aS (aR ?_));refine nc zl (nc (zw (z:=iC)) (nc zF ?_));refine aC rfl (fun hc=>by cases hc) (fun _=>aK ?_);refine aS (aR ?_);refine nc zl (nc (zw (z:=b5B w c (by omega) kG)) (nc ze ?_))
 have hA:∀ d∈S2 c,d.length<=1000000/\∀ l∈d,l.a.ok/\l.b.ok:=fun d hd=>by obtain ⟨h1,h2⟩:=b8n pA hd;exact ⟨by omega,fun l hl=>⟨(h2 l hl).1.2.1,(h2 l hl).2.2.1⟩⟩
 have hAl:(S2 c).length<=100:=by have:=b9b c;omega
 have c1:=b0h w c (by omega) pA;have c2:=a9f w (S2 c) (by omega) hA;have c3:=b5w w c (by omega) pA;have c4:=a2A w (stC (S2 c)) (a2w c c.length) (by unfold stC;rw [length_map];omega) (b2y hA) (fun d hd=>b5h pA hd) (by rw [c2L];exact b9O pA)
 have hB:∀ d∈a4u c,d.length<=1000000/\∀ l∈d,l.a.ok/\l.b.ok:=fun d hd=>by obtain ⟨h1,h2,_⟩:=b9J pA hd;exact ⟨by omega,fun l hl=>⟨(h2 l hl).1.2.1,(h2 l hl).2.2.1⟩⟩
 have hBl:(a4u c).length<=100:=by have h1:=b8t c;have h2:4*c.length*(c.length+1)<=16*5:=Nat.mul_le_mul (by omega) (by omega);omega
 have d1:=a8u w c (by omega) pA;have d2:=a9f w (a4u c) (by omega) hB;have d3:=a8P w c (by omega) pA;have d4:=a2A w (stC (a4u c)) (a2E c (4*c.length*c.length)) (by unfold stC;rw [length_map];omega) (b2y hB) (fun d hd=>b6e pA hd) (by rw [c2L];exact b8y pA)
 obtain ⟨V,hV⟩:∃ V,V=if 0<=i/\i<c.length then y7 c i.toNat else c:=⟨_,rfl⟩
 have sD:∀ l∈V,l∈c:=fun l hl=>by
  rw [hV] at hl;split at hl
  ·exact W9 hl
  ·exact hl
 have hVl:V.length<=c.length:=by
  rw [hV];split
  ·rename_i h;have:=I7 (c:=c) (n:=i.toNat) (by omega);omega
  ·exact Nat.le_refl _
 have e1:=a6N w c i (by omega) tR;have e2:=a5b w (V.map Lt.strip) (by rw [length_map];omega) (fun l hl=>by obtain ⟨x,hx,rfl⟩:=mem_map.1 hl;exact ⟨Tm.strip_ok (kG x (sD x hx)).1,Tm.strip_ok (kG x (sD x hx)).2⟩)
 have e3:=a1b w c i (by omega);rw [b3e,<-hV] at e3;rw [<-hV] at e1;rw [a3Z] at e2;have e4:=a0H w (V.map Lt.strip) V (by rw [length_map];omega) (fun l hl=>by obtain ⟨x,hx,rfl⟩:=mem_map.1 hl;exact ⟨Tm.strip_ok (kG x (sD x hx)).1,Tm.strip_ok (kG x (sD x hx)).2⟩) (fun l hl=>kG l (sD l hl))
 rw [H9.2 (a3Z V)] at e4
 have g1:=a5b w c (by omega) kG;have g2:=a0H w (c.map Lt.strip) c (by rw [length_map];omega) (fun l hl=>by obtain ⟨x,hx,rfl⟩:=mem_map.1 hl;exact ⟨Tm.strip_ok (kG x hx).1,Tm.strip_ok (kG x hx).2⟩) kG
 rw [H9.2 (a3Z c)] at g2;refine aS (aR ?_);refine nc zl (nc (zw (z:=c1)) (nc (zw (z:=c2)) (nc zl (nc (zw (z:=c3)) (nc (zw (z:=c4)) (nc zl (nc (zl (p:=gb)) (nc (zw (p:=gb) (z:=d1)) (nc (zw (p:=gb) (z:=d2)) (nc (zl (p:=gb)) (nc (zw (p:=gb) (z:=d3)) (nc (zw (p:=gb) (z:=d4)) (nc zJ (nc zl (nc (zl (p:=gb)) (nc (zl (p:=gb)) (nc (zw (p:=gb) (z:=e1)) (nc (zw (p:=gb) (z:=e2)) (nc (zl (p:=gb)) (nc (zl (p:=gb)) (nc (zw (p:=gb) (z:=e3)) (nc (zw (p:=gb) (z:=e4)) (nc zJ ?_)))))))))))))))))))))));refine nc zl (nc (zl (p:=gb)) (nc (zw (p:=gb) (z:=g1)) (nc (zl (p:=gb)) (nc (zw (p:=gb) (z:=g2)) (nc zJ (nc ze ?_))))));exact aT (And.intro (.inr rfl) rfl)
theorem b5I {n:Nat} {c:CV} (h:Shp Tryz.prog n 4 c):∃ b,c = .b b:=by
 cases n with
 | zero=>exact h.elim
 | succ n =>
  rw [Shp,Tryz.underlying4] at h;exact h
theorem b6B {n:Nat} {c:CV} (h:Shp Tryz.prog n 22 c):∃ l:List Lt,c = .lst (l.map Lt.cv)/\okC l:=by
 cases n with
 | zero=>exact h.elim
 | succ n =>
  rw [Shp,Tryz.underlying22] at h;obtain ⟨l,rfl,hl⟩:=h;obtain ⟨m,h1,h2⟩:=a3Q Lt.cv (fun l=>l.a.rng/\l.b.rng) (l:=l) (fun x hx=>by
   have hx:=hl x hx;cases n with
   | zero=>exact hx.elim
   | succ n =>
    have hx:Shp Tryz.prog (n+1) 53 x:=hx;rw [Shp,Tryz.underlying53] at hx;obtain ⟨l,rfl,hl,hf⟩:=hx
    match l,hl with
    | [x,y,z],_ =>
     obtain ⟨b,rfl⟩:=b5I (hf 0 _ x rfl rfl);obtain ⟨t,rfl,ht⟩:=b1D n (hf 1 _ y rfl rfl);obtain ⟨u,rfl,hu⟩:=b1D n (hf 2 _ z rfl rfl);exact ⟨⟨b,t,u⟩,rfl,ht,hu⟩)
  exact ⟨m,by rw [h1],h2⟩
end Go.Proofs.YtglmoficcjphaaaGreat
