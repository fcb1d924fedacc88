/-
 EqShapes: how long what follows is;renaming plays no part.
-/
import Derived.Test.YtglmoficcjphaaaGreatMg12
import Derived.Test.YtglmoficcjphaaaGreatAbShp
namespace Go.Proofs.YtglmoficcjphaaaGreat
open List (length_map mem_of_getElem?)
open Go.RowKit
set_option linter.unusedVariables false
set_option linter.unusedSimpArgs false
set_option maxRecDepth 100000
theorem c0u {t:Tm} (h:t.sm):∀ v∈t.vs,v<1000:=fun v hv=>c0x (fun s hs=>(Tm.sm_flat h s hs).1) v hv
theorem b9x {c:List Lt} (h:∀ l∈c,l.a.sm/\l.b.sm) {b:Int} (hb:0<=b/\b<=255):c.map (Lt.rep fun v=>l9 (upV (max b 0) v))=c.map (Lt.rep (O8 b)):=List.map_congr_left fun l hl=>by
 have e:∀ t:Tm,t.sm->a8 (fun v=>l9 (upV (max b 0) v)) t=a8 (O8 b) t:=fun t ht=>F5 fun v hv=>by
  have h1:=c0u ht v hv;have h2:=n9 t v hv;show l9 _=l9 _;congr 1;unfold upV;omega
 unfold Lt.rep;rw [e _ (h l hl).1,e _ (h l hl).2]
theorem b7v {t:Tm} (hs:t.sm) (h:t.ten) {b:Int} (hb:0<=b/\b<=255):(a8 (O8 b) t).ten:=by
 have e:a8 (O8 b) t=a8 (fun v=>l9 (upV (max b 0) v)) t:=F5 fun v hv=>by
  have h1:=c0u hs v hv;have h2:=n9 t v hv;show l9 _=l9 _;congr 1;unfold upV;omega
 refine ⟨⟨?_,?_⟩,by rw [a6V hb.1];exact h.2⟩
 ·rw [e];exact a1q h.1.1 fun v h1 h2=>X4 (a8a h1 h2 (by omega)).1 (a8a h1 h2 (by omega)).2
 ·exact a7G h.1.2 fun v=>a7O _
theorem b2f:I2 []=[]:=by
 unfold I2;rw [if_neg (show ¬ (hvK [] ([]:List Lt).length).1>=0 from (show ¬ (-1:Int)>=0 by decide))];rfl
theorem c3t {A:List (List Lt)} (h:A.length<=1):A=[]\/∃ d,A=[d]:=by
 match A,h with
 | [],_=>exact .inl rfl
 | [d],_=>exact .inr ⟨d,rfl⟩
 | _::_::_,h=>simp at h
set_option maxHeartbeats 8000000 in
theorem a6z (W:World) (c:List Lt) (b:Int) (hr:okC c) (hb:0<=b/\b<=255):AFun Tryz.prog W 4 [.lst (c.map Lt.cv),.sc (.int .u8 b)] (.val (.b true)):=by
 refine b9 (rs:=[.b true]) Tryz.func4 Tryz.ntmps4 rfl rfl rfl rfl ?_;intro w U hW;refine aS (aR ?_);refine nc ze ?_;refine aS (aS (aR ?_));refine nc (zw (z:=a8C w)) (nc z0 ?_);refine aC rfl (fun hc=>by cases hc) (fun _=>aK ?_);have hfi:=b0m w c 4 10 (by decide) (by decide) (by decide) hr;cases hF:Y4 c 4 10 with
 | false =>
  rw [hF] at hfi;refine aS (aS (aR ?_));refine nc zl (nc (zw (z:=hfi)) (nc z0 ?_));refine aC rfl (fun hc=>?_) (fun hc=>by cases hc);refine aS (aR ?_);refine nc ze ?_;exact aT (And.intro (.inr rfl) rfl)
 | true =>
 rw [hF] at hfi;obtain ⟨hcl,hct⟩:=b5e (by decide) (by decide) hF;have hsm:∀ l∈c,l.a.sm/\l.b.sm:=fun l hl=>by
  obtain ⟨_,h3⟩:=a2j (by decide) (by decide) hF;exact ⟨(h3 l hl).1.1.1,(h3 l hl).2.1.1⟩
 have hfit:=a7H hct;have hok:∀ l∈c,l.a.ok/\l.b.ok:=fun l hl=>⟨(hfit l hl).1.2,(hfit l hl).2.2⟩
 have hclm:(c.map Lt.cv).length=c.length:=length_map ..;have hct':∀ l∈c,(Lt.rep (O8 b) l).ten:=fun l hl=>⟨b7v (hsm l hl).1 (hct l hl).1 hb,b7v (hsm l hl).2 (hct l hl).2 hb⟩
 obtain ⟨c',hc'⟩:∃ c',c'=c.map (Lt.rep (O8 b)):=⟨_,rfl⟩
 have hcl':c'.length=c.length:=by rw [hc',length_map]
 have hct2:∀ l∈c',l.ten:=fun l hl=>by
  rw [hc'] at hl;obtain ⟨x,hx,rfl⟩:=List.mem_map.1 hl;exact hct' x hx
 have hC5:okC5 c:=⟨by omega,fun l hl=>⟨⟨(hct l hl).1.1.1,(hct l hl).1.1.2,by have:=(hct l hl).1.2;omega⟩,(hct l hl).2.1.1,(hct l hl).2.1.2,by have:=(hct l hl).2.2;omega⟩⟩
 have hre:=a8z w c b (by omega) hC5.sid.1 hC5.sid.2.1;rw [b9x hsm hb,<-hc'] at hre;have hVA:VL (E7 c) (E7 c'):=by rw [hc'];exact c0R hb.1 hct hct'
 have hVB:VL (U6 c) (U6 c'):=by rw [hc'];exact c1k hb.1 hct hct'
 have fA:∀ d∈E7 c,d.length+1=c.length/\okC5 d:=fun d hd=>by
  obtain ⟨h1,h2⟩:=b2w hct hd;exact ⟨h1,by omega,h2⟩
 have fA':∀ d∈E7 c',okC5 d:=fun d hd=>by
  obtain ⟨h1,h2⟩:=b2w hct2 hd;exact ⟨by omega,h2⟩
 have fB:∀ d∈U6 c,d.length=c.length/\okC5 d/\∃ l,d[c.length-1]?=some l/\l.neg=true:=fun d hd=>by
  obtain ⟨h1,h2,h3⟩:=b2n hct hd;exact ⟨h1,⟨by omega,h2⟩,h3⟩
 have fB':∀ d∈U6 c',okC5 d:=fun d hd=>by
  obtain ⟨h1,h2,_⟩:=b2n hct2 hd;exact ⟨by omega,h2⟩
 have hBl:(U6 c).length<=100:=by
  have h1:=b9L c;have h2:4*c.length*(c.length+1)<=16*5:=Nat.mul_le_mul (by omega) (by omega);omega
 have hRF:=b9l c;have r1:=a1v w c (by omega) hct;have r2:=a1v w c' (by omega) hct2;have r3:=U9 w c (by omega) hct;have r4:=U9 w c' (by omega) hct2;have z1:AFun Tryz.prog w 12 [.lst []] (.val (.lst [])):=by
  have h:=a1v w [] (by simp) (fun l hl=>by cases hl);rw [show E7 []=[] by unfold E7;rw [b2f];rfl] at h;exact h
 have z2:AFun Tryz.prog w 14 [.lst []] (.val (.lst [])):=by
  have h:=U9 w [] (by simp) (fun l hl=>by cases hl);rw [show U6 []=[] by unfold U6;rw [b2f];rfl] at h;exact h
 obtain ⟨A,hA⟩:∃ A,A=E7 c:=⟨_,rfl⟩
 obtain ⟨A',hA'⟩:∃ A,A=E7 c':=⟨_,rfl⟩
 obtain ⟨B,hB⟩:∃ A,A=U6 c:=⟨_,rfl⟩
 obtain ⟨B',hB'⟩:∃ A,A=U6 c':=⟨_,rfl⟩
 rw [<-hA,<-hA'] at hVA;rw [<-hB,<-hB'] at hVB;rw [<-hA] at fA r1 hRF;rw [<-hA'] at fA' r2;rw [<-hB] at fB r3 hRF hBl;rw [<-hB'] at fB' r4;have hszA:=J1 A;have hszA':=J1 A';have hszB:=J1 B;have hszB':=J1 B';have lA:(A.map clC).length=A.length:=length_map ..;have lA':(A'.map clC).length=A'.length:=length_map ..;have lB:(B.map clC).length=B.length:=length_map ..;have lB':(B'.map clC).length=B'.length:=length_map ..;have vA:=hVA.1;have vB:=hVB.1;refine aS (aS (aR ?_));refine nc zl (nc (zw (z:=hfi)) (nc z0 ?_));refine aC rfl (fun hc=>by cases hc) (fun _=>aK ?_);refine aS (aR ?_);refine nc zl (nc (zw (z:=b6e w c (by omega) hok)) (nc ze ?_));refine aS (aR ?_);refine nc zl (nc zl (nc zbr (nc (zw (z:=hre)) (nc ze ?_))));refine aS (aR ?_);refine nc zl (nc (zw (z:=r1)) (nc zl (nc (zw (z:=r2)) (nc ze (nc ze ?_)))));refine aS (aR ?_);refine nc zl (nc (zw (z:=r3)) (nc zl (nc (zw (z:=r4)) (nc ze (nc ze ?_)))));have g1:decide (((A.map clC).length:Int)≠((A'.map clC).length:Int))=false:=decide_eq_false (by omega);have g2:decide (((B.map clC).length:Int)≠((B'.map clC).length:Int))=false:=decide_eq_false (by omega);have g5:decide (((A.map clC).length:Int)>1)=false:=decide_eq_false (by have:=hRF.1;omega);refine aS (a3u [(5,.val (.lst (c.map Lt.cv))),(7,.val (.lst (A.map clC))),(8,.val (.lst (A'.map clC))),(9,.val (.lst (B.map clC))),(10,.val (.lst (B'.map clC))),(58,.val (.b (decide (((A.map clC).length:Int)>1))))] ?_ ?_)
 ·by_cases h0:A.length=0
  ·have g3:decide (((A.map clC).length:Int)>0)=false:=decide_eq_false (by omega);refine aR ?_;refine nc zl (nc zp (nc zl (nc zp (nc zba (nc zl (nc (zl (p:=gb)) (nc (zp (r:=gb)) (nc (zl (p:=gb)) (nc (zp (r:=gb)) (nc (zba (r:=gb)) (nc zS (nc zl (nc (zl (p:=gb)) (nc (zp (r:=gb)) (nc (zK (r:=gb)) (nc (zl (p:=gb)) (nc zbz (nc zbz (nc zbz (nc (zS (r:=gb)) (nc zS (nc zl (nc (zl (p:=gb)) ?_)))))))))))))))))))))));refine nc (zp (r:=gb)) (nc (zK (r:=gb)) (nc zS ?_));exact a7 ⟨rfl,rfl,rfl,rfl,rfl,rfl,trivial⟩
  ·have hB0:B=[]:=by
    rcases hRF.2 with h | h
    ·rw [h] at h0;exact absurd rfl h0
    ·exact h
   have hB1:B.length=0:=by rw [hB0];rfl
   have g3:decide (((A.map clC).length:Int)>0)=true:=decide_eq_true (by omega);have g4:decide (((B.map clC).length:Int)>0)=false:=decide_eq_false (by omega);refine aR ?_;refine nc zl (nc zp (nc zl (nc zp (nc zba (nc zl (nc (zl (p:=gb)) (nc (zp (r:=gb)) (nc (zl (p:=gb)) (nc (zp (r:=gb)) (nc (zba (r:=gb)) (nc zS (nc zl (nc (zl (p:=gb)) (nc (zp (r:=gb)) (nc (zK (r:=gb)) (nc (zl (p:=gb)) (nc (zl (p:=gb)) (nc (zp (r:=gb)) (nc (zK (r:=gb)) (nc (zP (r:=gb)) (nc zS (nc zl (nc (zl (p:=gb)) ?_)))))))))))))))))))))));refine nc (zp (r:=gb)) (nc (zK (r:=gb)) (nc zS ?_));exact a7 ⟨rfl,rfl,rfl,rfl,rfl,rfl,trivial⟩
 refine aC rfl (fun h=>by rw [g5] at h;cases h) (fun _=>aK ?_);refine aS (aS (aR ?_));refine nc ze ?_;refine aB (p6 A.length (fun k=>[(5,.val (.lst (c.map Lt.cv))),(7,.val (.lst (A.map clC))),(8,.val (.lst (A'.map clC))),(9,.val (.lst (B.map clC))),(10,.val (.lst (B'.map clC))),(11,.val (.i k))]) (a7 ⟨rfl,rfl,rfl,rfl,rfl,rfl,trivial⟩) ?_);intro k hk;refine aS (aS (aR ?_));refine nc zl (nc zl (nc zp (nc zi ?_)));refine aC rfl (fun hlt=>?_) (fun hlt=>?_)
 ·have hkl:k<A.length:=by simpa using hlt
  obtain ⟨d,hd⟩:∃ d,A[k]?=some d:=⟨A[k],List.getElem?_eq_getElem hkl⟩
  obtain ⟨e,he⟩:∃ e,A'[k]?=some e:=⟨A'[k]'(by omega),List.getElem?_eq_getElem (by omega)⟩
  have hd':=a8d hd;have he':=a8d he;obtain ⟨hdl,hd5⟩:=fA d (mem_of_getElem? hd);have he5:=fA' e (mem_of_getElem? he);have hv:=a5w w d e hd5 he5;rw [hVA.2 k d e hd he] at hv;have hdm:(d.map Lt.cv).length=d.length:=length_map ..;have g6:decide (((d.map Lt.cv).length:Int)≠((c.map Lt.cv).length:Int)-1)=false:=decide_eq_false (by omega);refine aK ?_;refine aS (aB (aS (aD (by kernel_rfl) (by kernel_rfl) ?_)));refine nc zl (nc zl (nc (zq (j:=k) (H:=hd') (hz:=hszA)) (nc zr (nc zp (nc zl (nc zp (nc zj (nc zba (nc zl (nc (zl (p:=gb)) (nc (zl (p:=gb)) (nc (zq (j:=k) (r:=gb) (H:=hd') (hz:=hszA)) (nc (zr (r:=gb)) (nc (zl (p:=gb)) (nc (zl (p:=gb)) (nc (zq (j:=k) (r:=gb) (H:=he') (hz:=hszA')) (nc (zr (r:=gb)) (nc (zw (p:=gb) (z:=hv)) (nc (z0 (r:=gb)) (nc zS ?_))))))))))))))))))));refine ⟨by kernel_rfl,?_⟩;refine aC rfl (fun h=>by cases h) (fun _=>aK ?_);refine aR ?_;refine nc zl (nc zu (nc ze ?_));exact ⟨hkl,a7 ⟨rfl,rfl,rfl,rfl,rfl,rfl,trivial⟩⟩
 have hkl:k=A.length:=by
  have:¬ k<A.length:=by simpa using hlt
  omega
 refine aE ?_;refine aS (aS (aR ?_));refine nc ze ?_;refine aB (p6 B.length (fun k=>[(5,.val (.lst (c.map Lt.cv))),(9,.val (.lst (B.map clC))),(10,.val (.lst (B'.map clC))),(12,.val (.i k))]) (a7 ⟨rfl,rfl,rfl,rfl,trivial⟩) ?_);intro k hk;refine aS (aS (aR ?_));refine nc zl (nc zl (nc zp (nc zi ?_)));refine aC rfl (fun hlt=>?_) (fun hlt=>?_)
 ·have hkl:k<B.length:=by simpa using hlt
  obtain ⟨d,hd⟩:∃ d,B[k]?=some d:=⟨B[k],List.getElem?_eq_getElem hkl⟩
  obtain ⟨e,he⟩:∃ e,B'[k]?=some e:=⟨B'[k]'(by omega),List.getElem?_eq_getElem (by omega)⟩
  have hd':=a8d hd;have he':=a8d he;obtain ⟨hdl,hd5,x,hx,hxn⟩:=fB d (mem_of_getElem? hd);have he5:=fB' e (mem_of_getElem? he);have hv:=a5w w d e hd5 he5;rw [hVB.2 k d e hd he] at hv;have hx':=Lt.map_at hx;have hszD:=Lt.size_all d;have hlt':=(List.getElem?_eq_some_iff.1 hx).1;have hdm:(d.map Lt.cv).length=d.length:=length_map ..;have g6:decide (((d.map Lt.cv).length:Int)≠((c.map Lt.cv).length:Int))=false:=decide_eq_false (by omega);refine aK ?_;refine aS (aB (aS (aD (by kernel_rfl) (by kernel_rfl) ?_)));refine nc zl (nc zl (nc (zq (j:=k) (H:=hd') (hz:=hszB)) (nc zr (nc zp (nc zl (nc zp (nc zba (nc zl (nc (zl (p:=gb)) (nc (zl (p:=gb)) (nc (zq (j:=k) (r:=gb) (H:=hd') (hz:=hszB)) (nc (zr (r:=gb)) (nc (zl (p:=gb)) (nc (zl (p:=gb)) (nc (zq (j:=k) (r:=gb) (H:=he') (hz:=hszB')) (nc (zr (r:=gb)) (nc (zw (p:=gb) (z:=hv)) (nc (z0 (r:=gb)) (nc zS (nc zl (nc (zl (p:=gb)) (nc (zl (p:=gb)) (nc (zq (j:=k) (r:=gb) (H:=hd') (hz:=hszB)) ?_)))))))))))))))))))))));refine nc (zr (r:=gb)) (nc (zl (p:=gb)) (nc (zp (r:=gb)) (nc (zj (r:=gb)) (nc (zq (j:=(c.length-1)) (r:=gb) (G:=by first | assumption | exact (by first | rfl | omega | (simp only [List.length_set,length_map,List.length_append,List.length_cons,List.length_nil]<;>omega) | (simp<;>omega))) (H:=hx') (hz:=hszD)) (nc (zbM (r:=gb)) (nc (zr (r:=gb)) (nc (z0 (r:=gb)) (nc zS ?_))))))));refine ⟨by kernel_rfl,?_⟩;refine aC rfl (fun h=>?_) (fun _=>aK ?_)
  ·have h:(!x.neg)=true:=h;rw [hxn] at h;cases h
  refine aR ?_;refine nc zl (nc zu (nc ze ?_));exact ⟨hkl,a7 ⟨rfl,rfl,rfl,rfl,trivial⟩⟩
 have hkl:k=B.length:=by
  have:¬ k<B.length:=by simpa using hlt
  omega
 refine aE ?_;refine aS (aR ?_);refine nc (zw (z:=z1)) (nc zp (nc (zw (z:=z2)) (nc zp (nc zu (nc zt (nc ze ?_))))));exact aT (And.intro (.inr rfl) rfl)
theorem b6p {n:Nat} {c:CV} (h:Shp Tryz.prog n 4 c):∃ b,c = .b b:=by
 cases n with
 | zero=>exact h.elim
 | succ n =>
  rw [Shp,Tryz.underlying4] at h;exact h
theorem b5c {n:Nat} {c:CV} (h:Shp Tryz.prog n 22 c):∃ l:List Lt,c = .lst (l.map Lt.cv)/\okC l:=by
 cases n with
 | zero=>exact h.elim
 | succ n =>
  rw [Shp,Tryz.underlying22] at h;obtain ⟨l,rfl,hl⟩:=h;obtain ⟨m,h1,h2⟩:=a3o Lt.cv (fun l=>l.a.rng/\l.b.rng) (l:=l) (fun x hx=>by
   have hx:=hl x hx;cases n with
   | zero=>exact hx.elim
   | succ n =>
    have hx:Shp Tryz.prog (n+1) 53 x:=hx;rw [Shp,Tryz.underlying53] at hx;obtain ⟨l,rfl,hl,hf⟩:=hx
    match l,hl with
    | [x,y,z],_ =>
     obtain ⟨b,rfl⟩:=b6p (hf 0 _ x rfl rfl);obtain ⟨t,rfl,ht⟩:=b1F n (hf 1 _ y rfl rfl);obtain ⟨u,rfl,hu⟩:=b1F n (hf 2 _ z rfl rfl);exact ⟨⟨b,t,u⟩,rfl,ht,hu⟩)
  exact ⟨m,by rw [h1],h2⟩
end Go.Proofs.YtglmoficcjphaaaGreat
