/-
 SupFree: all that Into tells Free tells,in that order;how long it is;renaming plays no part.
-/
import Derived.Test.YteegmcfobgpemaaGreatMg13
import Derived.Test.YteegmcfobgpemaaGreatAbShp
namespace Go.Proofs.YteegmcfobgpemaaGreat
open List (getElem?_map length_append length_cons length_map length_nil mem_of_getElem?)
open Go.RowKit
set_option linter.unusedVariables false
set_option linter.unusedSimpArgs false
set_option maxRecDepth 100000
theorem a4A(W:World){d:List Lt}{k:Int}(hk:0<=k/\k<=1000000)(hdl:d.length<=1000)(hd:∀l∈d,l.s16)(hv:∀v∈cvs d,v<1000000):AFun Tryz.prog W 18 [.lst (d.map Lt.cv),.i k] (.val (.lst ((d.map (Lt.rep (shV k))).map Lt.cv))):=by
 obtain⟨h1,h2⟩:=a4p (by omega) (a3X hd);have h:=a3j W d k (by omega) h1 h2;have e:d.map (Lt.rep λv=>n7 (upV (max k 0) v))=d.map (Lt.rep (shV k)):=List.map_congr_left λl hl=>by
  have e:∀t:Tm,(∀v∈t.vs,v∈cvs d)->a8 (λv=>n7 (upV (max k 0) v)) t=a8 (shV k) t:=λt ht=>y9 λv gD=>by have h3:=hv v (ht v gD);have h4:=l9 t v gD;show n7 _=n7 _;congr 1;unfold upV;omega
  unfold Lt.rep;rw[e _ (b2l hl),e _ (b1Z hl)]
 rw[e]at h;exact h
theorem b7F(free:Bool)(d:List Lt):Q2 free [] d=[]:=by
 cases e:Q2 free [] d with
 | nil=>rfl
 | cons z L =>
  exfalso;obtain⟨m,hm,_,_⟩:=a4S (free:=free) (c:=[]) (d:=d) (z:=z) (by rw[e];simp);have:=(a6C hm).i;simp at this;omega
theorem b7g(free:Bool)(c:List Lt):Q2 free c []=[]:=by
 cases e:Q2 free c []with
 | nil=>rfl
 | cons z L =>
  exfalso;obtain⟨m,hm,_,_⟩:=a4S (free:=free) (c:=c) (d:=[]) (z:=z) (by rw[e];simp);have h:=(a6C hm).j;rw[a9l]at h;simp at h;omega
set_option maxHeartbeats 16000000 in
theorem b0f(W:World)(c d:List Lt)(b:Int)(hrc:okC c)(hrd:okC d)(hb:0<=b/\b<=255):AFun Tryz.prog W 4 [.lst (c.map Lt.cv),.lst (d.map Lt.cv),.sc (.int .u8 b)] (.val (.b true)):=by
 refine b9 (rs:=[.b true]) Tryz.func4 Tryz.ntmps4 rfl rfl rfl rfl ?_;intro w U hW;refine qz<|nc ze ?_;refine aS<|qz<|nc (zk (z:=a9G w))<|nc zZ ?_;refine aC rfl (λhc=>by cases hc) (λ_=>aK ?_);have qY:=a4T w c 3 8 (by decide) (by decide) (by decide) hrc;have lL:=a4T w d 3 8 (by decide) (by decide) (by decide) hrd;cases hF:Y3 c 3 8 with
 | false =>
  rw[hF]at qY;refine aS<|qz<|nc zl<|nc (zk (z:=qY))<|nc zZ<|nc zl<|nc zq<|nc zq<|nc zq<|nc zp ?_;refine aC rfl (λhc=>?_) (λhc=>by cases hc);refine qz<|nc ze ?_;exact aT (And.intro (.inr rfl) rfl)
 | true =>
 cases hG:Y3 d 3 8 with
 | false =>
  rw[hF]at qY;rw[hG]at lL;refine aS<|qz<|nc zl<|nc (zk (z:=qY))<|nc zZ<|nc zl<|nc (zl (p:=gb))<|nc (zk (p:=gb) (z:=lL))<|nc (zZ (r:=gb))<|nc zr ?_;refine aC rfl (λhc=>?_) (λhc=>by cases hc);refine qz<|nc ze ?_;exact aT (And.intro (.inr rfl) rfl)
 | true =>
 rw[hF]at qY;rw[hG]at lL;obtain⟨eF,qZ⟩:=b0U (by decide) (by decide) hF;obtain⟨hdl,pQ⟩:=b0U (by decide) (by decide) hG;have eP:∀l∈c,l.a.sm/\l.b.sm:=λl hl=>by obtain⟨_,h3⟩:=K8 (by decide) (by decide) hF;exact⟨(h3 l hl).1.1.1,(h3 l hl).2.1.1⟩
 have hds:∀l∈d,l.a.sm/\l.b.sm:=λl hl=>by obtain⟨_,h3⟩:=K8 (by decide) (by decide) hG;exact⟨(h3 l hl).1.1.1,(h3 l hl).2.1.1⟩
 have hokc:∀l∈c,l.a.ok/\l.b.ok:=λl hl=>⟨(qZ l hl).1.1.2,(qZ l hl).2.1.2⟩
 have hokd:∀l∈d,l.a.ok/\l.b.ok:=λl hl=>⟨(pQ l hl).1.1.2,(pQ l hl).2.1.2⟩
 have hc8:∀l∈c,l.a.e8/\l.b.e8:=λl hl=>by obtain⟨_,h3⟩:=K8 (by decide) (by decide) hF;obtain⟨⟨_,_,a3⟩,_,_,b3⟩:=h3 l hl;exact⟨⟨(qZ l hl).1,by omega⟩,(qZ l hl).2,by omega⟩
 have hd8:∀l∈d,l.a.e8/\l.b.e8:=λl hl=>by obtain⟨_,h3⟩:=K8 (by decide) (by decide) hG;obtain⟨⟨_,_,a3⟩,_,_,b3⟩:=h3 l hl;exact⟨⟨(pQ l hl).1,by omega⟩,(pQ l hl).2,by omega⟩
 have hp:∀free,Pr2 free c d:=λfree=>b2h free (N:=1000) (by omega) (a9o eP) (a9o hds) (by omega) (by omega) qZ pQ;refine aS<|qz<|nc zl<|nc (zk (z:=qY))<|nc zZ<|nc zl<|nc (zl (p:=gb))<|nc (zk (p:=gb) (z:=lL))<|nc (zZ (r:=gb))<|nc zr ?_;refine aC rfl (λhc=>by cases hc) (λ_=>aK ?_);have fU:=a9o eP;have tX:=a9o hds;obtain⟨uU,lB,iY,mL,mM⟩:=c2Z hb qZ pQ fU tX;have xZ:=a4A w (d:=c) (k:=b) (by omega) (by omega) (λl hl=>⟨C7 (qZ l hl).1,C7 (qZ l hl).2⟩) (λv hv=>by have:=fU v hv;omega);have yA:=a4A w (d:=d) (k:=b) (by omega) (by omega) (λl hl=>⟨C7 (pQ l hl).1,C7 (pQ l hl).2⟩) (λv hv=>by have:=tX v hv;omega);have e8':∀e:List Lt,(∀l∈e,l.a.e8/\l.b.e8)->(∀l∈e.map (Lt.rep (shV b)),l.ten)->∀l∈e.map (Lt.rep (shV b)),l.a.e8/\l.b.e8:=λe he ht l hl=>by have h1:=ht l hl;obtain⟨x,hx,rfl⟩:=List.mem_map.1 hl;exact⟨⟨h1.1,by show(a8 _ x.a).size<=8;rw[O1 hb.1];exact(he x hx).1.2⟩,h1.2,by show(a8 _ x.b).size<=8;rw[O1 hb.1];exact(he x hx).2.2⟩
 have yB:=e8' c hc8 lB;have yC:=e8' d hd8 iY;have pW:(c.map (Lt.rep (shV b))).length=c.length:=length_map ..;have hdl':(d.map (Lt.rep (shV b))).length=d.length:=length_map ..;obtain⟨c',lZ⟩:∃c',c'=c.map (Lt.rep (shV b)):=⟨_,rfl⟩
 obtain⟨d',aZ⟩:∃d',d'=d.map (Lt.rep (shV b)):=⟨_,rfl⟩
 rw[<-lZ]at uU lB mL xZ yB pW;rw[<-aZ]at uU iY mM yA yC hdl';have lH:Pr2 false c' d':=b2h false (N:=1255) (by omega) mL mM (by omega) (by omega) lB iY;have bF:=N6 w c d (hp false);have bZ:=b2o w c d (hp true);have cA:=N6 w c' d' lH;have bI:=N6 w [] d (b2h false (N:=1000) (by omega) (λv hv=>by cases hv) tX (by simp) (by omega) (λl hl=>by cases hl) pQ);have bH:=N6 w c [] (b2h false (N:=1000) (by omega) fU (λv hv=>by cases hv) (by omega) (by simp) qZ (λl hl=>by cases hl));rw[b7F]at bI;rw[b7g]at bH;have qX:=c1F c d;have hfp:=λz (hz:z∈Q2 false c d)=>a8J (hp false) hz;have hfq:=λz (hz:z∈Q2 true c d)=>a8J (hp true) hz;have hDe:=c2u hd8 (b3i (c:=c) pQ (hp false).rn);have hDe':=c2u yC (b3i (c:=c') iY lH.rn);have oY:=λz (hz:z∈Q2 false c d)=>b4y (hp false) (by omega) hc8 hDe hz;have tW:=λz (hz:z∈Q2 false c' d')=>b4y lH (by omega) yB hDe' hz;have hLp:=b0Y (free:=false) (c:=c) (d:=d) (by omega) (by omega) (hp false).rn;have hLq:=b0Y (free:=true) (c:=c) (d:=d) (by omega) (by omega) (hp true).rn;obtain⟨p,wV⟩:∃p,p=Q2 false c d:=⟨_,rfl⟩
 obtain⟨q,hqq⟩:∃q,q=Q2 true c d:=⟨_,rfl⟩
 obtain⟨r,hrr⟩:∃r,r=Q2 false c' d':=⟨_,rfl⟩
 rw[<-wV]at uU bF qX hfp oY hLp;rw[<-hqq]at bZ qX hfq hLq;rw[<-hrr]at uU cA tW;have gR:=a1V p;have uI:=a1V q;have iB:=a1V r;have aH:(p.map clC).length=p.length:=length_map ..;have hqm:(q.map clC).length=q.length:=length_map ..;have uN:(r.map clC).length=r.length:=length_map ..;have mQ:(c.map Lt.cv).length=c.length:=length_map ..;have hdm:(d.map Lt.cv).length=d.length:=length_map ..;have hpr:=uU.1;refine qz<|nc zl<|nc (zk (z:=b1j w c (by omega) hokc))<|nc zl<|nc (zk (z:=b1j w d (by omega) hokd))<|nc ze<|nc ze ?_;refine qz<|nc zl<|nc zl<|nc (zk (z:=bF))<|nc zl<|nc zl<|nc (zk (z:=bZ))<|nc ze<|nc ze ?_;refine qz<|nc zl<|nc zl<|nc zbQ<|nc (zk (z:=xZ))<|nc zl<|nc zl<|nc zbQ<|nc (zk (z:=yA))<|nc (zk (z:=cA))<|nc ze ?_;have g8:decide ((((p.map clC).length:Nat):Int)≠(((r.map clC).length:Nat):Int))=false:=decide_eq_false (by omega);refine aS<|qz<|nc zl<|nc zo<|nc zl<|nc zo<|nc z8 ?_;refine aC rfl (λhc=>by rw[g8]at hc;cases hc) (λ_=>aK ?_);refine qz<|nc ze ?_;refine aS<|qz<|nc ze ?_;refine aB (n6 p.length (λi=>[(7,AV.val (.lst (c.map Lt.cv))),(8,.val (.lst (d.map Lt.cv))),(9,.val (.lst (p.map clC))),(10,.val (.lst (q.map clC))),(11,.val (.lst (r.map clC))),(12,.val (.i (gK p q i:Nat))),(13,.val (.i (i:Int)))]) (a7 ⟨rfl,rfl,rfl,rfl,rfl,rfl,rfl,trivial⟩) ?_);intro i hi;refine aS<|qz<|nc zl<|nc zl<|nc zo<|nc zi ?_;refine aC rfl (λkA=>aK ?_) (λkA=>aE ?_)
 ·have eO:i<p.length:=by have:=of_decide_eq_true kA;omega
  obtain⟨z,hz⟩:∃z,p[i]?=some z:=⟨p[i],List.getElem?_eq_getElem eO⟩
  obtain⟨y,hy⟩:∃y,r[i]?=some y:=⟨r[i]'(by omega),List.getElem?_eq_getElem _⟩
  have iR:(p.map clC)[i]?=some (.lst (z.map Lt.cv)):=by rw[getElem?_map,hz];rfl
  have dW:(r.map clC)[i]?=some (.lst (y.map Lt.cv)):=by rw[getElem?_map,hy];rfl
  have hzm:=mem_of_getElem? hz;have oQ:=mem_of_getElem? hy;obtain⟨qG,hzf⟩:=hfp z hzm;obtain⟨f,f1,f2,f3,f4⟩:=c4C qX hz;have kR:=b5P w z y (oY z hzm) (tW y oQ);rw[uU.2 i z y hz hy]at kR;have hzml:(z.map Lt.cv).length=z.length:=length_map ..;have fH:∀x,x∈q->AFun Tryz.prog w 19 [.lst (z.map Lt.cv),.lst (x.map Lt.cv)] (.val (.b (M0 z x))):=λx hx=>b5L w z x (by omega) (λl hl=>⟨(hzf l hl).1.1.1,(hzf l hl).1.2.1⟩) (λl hl=>⟨((hfq x hx).2 l hl).1.1.1,((hfq x hx).2 l hl).1.2.1⟩);obtain⟨G,hG⟩:∃G,G=gK p q i:=⟨_,rfl⟩
  rw[<-hG]at f1 f2 f3 f4 |-;refine aS<|aB<|aS<|aB (n6 f (λj=>[(7,AV.val (.lst (c.map Lt.cv))),(8,.val (.lst (d.map Lt.cv))),(9,.val (.lst (p.map clC))),(10,.val (.lst (q.map clC))),(11,.val (.lst (r.map clC))),(12,.val (.i ((G+j:Nat):Int))),(13,.val (.i (i:Int)))]) (a7 ⟨rfl,rfl,rfl,rfl,rfl,rfl,rfl,trivial⟩) ?_);intro j hj;have g1:decide ((((G+j:Nat):Nat):Int)<(((q.map clC).length:Nat):Int))=true:=decide_eq_true (by omega);rcases Nat.lt_or_ge j f with hjf | hjf
  ·obtain⟨x,x1,x2⟩:=f3 j hjf;have kT:(q.map clC)[G+j]?=some (.lst (x.map Lt.cv)):=by rw[getElem?_map,x1];rfl
   have lI:=fH x (mem_of_getElem? x1);rw[x2]at lI;refine aS<|aS<|aD (by kernel_rfl) (by kernel_rfl) ?_;refine nc zl<|nc zl<|nc zo<|nc zi<|nc zl<|nc (zl (p:=gb))<|nc (zl (p:=gb))<|nc (zt (j:=i) (r:=gb) (H:=iR) (hz:=gR))<|nc (zu (r:=gb))<|nc (zl (p:=gb))<|nc (zl (p:=gb))<|nc (zt (j:=G+j) (r:=gb) (H:=kT) (hz:=uI))<|nc (zu (r:=gb))<|nc (zk (p:=gb) (z:=lI))<|nc (zZ (r:=gb))<|nc zp ?_;refine⟨by kernel_rfl,?_⟩;refine aC rfl (λ_=>aK ?_) (λhc=>by cases hc);refine aB<|aR<|nc zl<|nc zA<|nc ze ?_;exact⟨hjf,a7 ⟨rfl,rfl,rfl,rfl,rfl,rfl,rfl,trivial⟩⟩
  ·have hjf:j=f:=by omega
   subst hjf;obtain⟨x,x1,x2⟩:=f4;have kT:(q.map clC)[G+j]?=some (.lst (x.map Lt.cv)):=by rw[getElem?_map,x1];rfl
   have lI:=fH x (mem_of_getElem? x1);rw[x2]at lI;refine aS<|aS<|aD (by kernel_rfl) (by kernel_rfl) ?_;refine nc zl<|nc zl<|nc zo<|nc zi<|nc zl<|nc (zl (p:=gb))<|nc (zl (p:=gb))<|nc (zt (j:=i) (r:=gb) (H:=iR) (hz:=gR))<|nc (zu (r:=gb))<|nc (zl (p:=gb))<|nc (zl (p:=gb))<|nc (zt (j:=G+j) (r:=gb) (H:=kT) (hz:=uI))<|nc (zu (r:=gb))<|nc (zk (p:=gb) (z:=lI))<|nc (zZ (r:=gb))<|nc zp ?_;refine⟨by kernel_rfl,?_⟩;refine aC rfl (λhc=>by cases hc) (λ_=>aE ?_);have g2:decide ((((G+j:Nat):Nat):Int)=(((q.map clC).length:Nat):Int))=false:=decide_eq_false (by omega);have g3:decide ((((z.map Lt.cv).length:Nat):Int)≠(((c.map Lt.cv).length:Nat):Int)+(((d.map Lt.cv).length:Nat):Int)-1)=false:=decide_eq_false (by omega);refine aS<|aS<|aD (by kernel_rfl) (by kernel_rfl) ?_;refine nc zl<|nc zl<|nc zo<|nc zD<|nc zl<|nc (zl (p:=gb))<|nc (zl (p:=gb))<|nc (zt (j:=i) (r:=gb) (H:=iR) (hz:=gR))<|nc (zu (r:=gb))<|nc (zo (r:=gb))<|nc (zl (p:=gb))<|nc (zo (r:=gb))<|nc (zl (p:=gb))<|nc (zo (r:=gb))<|nc (zA (r:=gb))<|nc (zB (r:=gb))<|nc (z8 (r:=gb))<|nc zr<|nc zl<|nc (zl (p:=gb))<|nc (zl (p:=gb))<|nc (zt (j:=i) (r:=gb) (H:=iR) (hz:=gR))<|nc (zu (r:=gb))<|nc (zl (p:=gb)) ?_;refine nc (zl (p:=gb))<|nc (zt (j:=i) (r:=gb) (H:=dW) (hz:=iB))<|nc (zu (r:=gb))<|nc (zk (p:=gb) (z:=kR))<|nc (zZ (r:=gb))<|nc zr ?_;refine⟨by kernel_rfl,?_⟩;refine aC rfl (λhc=>by cases hc) (λ_=>aK ?_);refine aR<|nc zl<|nc zA<|nc ze ?_;refine aR<|nc zl<|nc zA<|nc ze ?_;refine⟨eO,?_⟩;show Wk _ _ _ _ [(7,AV.val (.lst (c.map Lt.cv))),(8,.val (.lst (d.map Lt.cv))),(9,.val (.lst (p.map clC))),(10,.val (.lst (q.map clC))),(11,.val (.lst (r.map clC))),(12,.val (.i (gK p q (i+1):Nat))),(13,.val (.i ((i+1:Nat):Int)))];rw[f1];exact a7 ⟨rfl,rfl,rfl,rfl,rfl,rfl,rfl,trivial⟩
 ·show AWp _ _ _ _ _ _ _;refine qz<|nc zl<|nc (zk (z:=bI))<|nc zo<|nc zl<|nc (zk (z:=bH))<|nc zo<|nc zA<|nc zD<|nc ze ?_;exact aT (And.intro (.inr rfl) rfl)
theorem b7a{n:Nat}{c:CV}(h:Shp Tryz.prog n 4 c):∃b,c=.b b:=by
 cases n with
 | zero=>exact h.elim
 | succ n =>
  rw[Shp,Tryz.underlying4]at h;exact h
theorem b0n{n:Nat}{c:CV}(h:Shp Tryz.prog n 22 c):∃l:List Lt,c=.lst (l.map Lt.cv)/\okC l:=by
 cases n with
 | zero=>exact h.elim
 | succ n =>
  rw[Shp,Tryz.underlying22]at h;obtain⟨l,rfl,hl⟩:=h;obtain⟨m,h1,h2⟩:=a4B Lt.cv (λl=>l.a.rng/\l.b.rng) (l:=l) (λx hx=>by
   have hx:=hl x hx;cases n with
   | zero=>exact hx.elim
   | succ n =>
    have hx:Shp Tryz.prog (n+1) 52 x:=hx;rw[Shp,Tryz.underlying52]at hx;obtain⟨l,rfl,hl,hf⟩:=hx
    match l,hl with
    | [x,y,z],_ =>
     obtain⟨b,rfl⟩:=b7a (hf 0 _ x rfl rfl);obtain⟨t,rfl,ht⟩:=b3j n (hf 1 _ y rfl rfl);obtain⟨u,rfl,hu⟩:=b3j n (hf 2 _ z rfl rfl);exact⟨⟨b,t,u⟩,rfl,ht,hu⟩)
  exact⟨m,by rw[h1],h2⟩
end Go.Proofs.YteegmcfobgpemaaGreat
