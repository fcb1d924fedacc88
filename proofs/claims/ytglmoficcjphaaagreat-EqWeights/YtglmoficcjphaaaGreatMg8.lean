/-
 SmSym3 SmStab SmNorm UnPairs UnBig UnLaws UnMid SbRef7 SbRef7N UnRefW UnMidW SbVnt2 Un8A AbRowO Un8B SbNormEq AbDel AbHdl TmPlA TmPlB TmPlC TmPlD KbMath KbMath2 KbMath3 OrMath KbSc
-/
import Derived.Test.YtglmoficcjphaaaGreatMg7
import Derived.Test.YtglmoficcjphaaaGreatMg4
import Derived.Test.YtglmoficcjphaaaGreatMg6
import Derived.Test.YtglmoficcjphaaaGreatMg5
import Derived.Test.YtglmoficcjphaaaGreatMg3
import Derived.Test.YtglmoficcjphaaaGreatMg2
namespace Go.Proofs.YtglmoficcjphaaaGreat
open Go.RowKit
set_option linter.unusedVariables false
set_option linter.unusedSimpArgs false
set_option maxRecDepth 100000
set_option maxHeartbeats 4000000 in
theorem a7v (cmp:Bd→Bd→Int) (fc:CV) (hcm:∀ W x y,L4 Tryz.prog W fc [x.cw,y.cw] (.val (.i (cmp x y)))) (hv:∀ x y,cmp x y<0↔x.v<y.v):∀ (d:Nat) (L:List Bd) (a m b:Nat),b-a≤d→a<m→m<b→b≤L.length→L.length≤1000000→srtB L a m→srtB L m b→AFunE (Sg:=List Bd) Tryz.prog 160 (rwB L) [.sl 400000 0 L.length 3,.val (.i a),.val (.i m),.val (.i b),.val fc] (b0J a b L) (fun _ => .tup []) (fun σ=>rwB σ):=by
 intro d
 induction d with
 | zero=>intro L a m b hd ham hmb;omega
 | succ d ih =>
 intro L a m b hd ham hmb hb hl h1 h2
 by_cases q1:m=a+1
 ·exact b4R cmp fc hcm hv L a m b q1 hmb hb hl h2
 by_cases q2:b=m+1
 ·exact b2N cmp fc hcm hv L a m b (by omega) q2 hb hl h1
 refine G8 Tryz.func160 Tryz.ntmps160 rfl rfl rfl rfl rfl (fun σ=>rfl) ?_
 intro w U hU
 refine aS (aS (aR ?_))
 refine nc zl (nc zl (nc zj (nc zt ?_)))
 refine aC rfl (fun hc=>?_) (fun _=>aK ?_)
 case refine_1 =>
  have hc:=of_decide_eq_true hc
  omega
 refine aS (aS (aR ?_))
 refine nc zl (nc zl (nc zj (nc zt ?_)))
 refine aC rfl (fun hc=>?_) (fun _=>aK ?_)
 case refine_1 =>
  have hc:=of_decide_eq_true hc
  omega
 have hw:=a0V (i:=a) (j:=b) (by omega) (by omega)
 refine aS (aR ?_)
 refine nc zl (nc zl (nc zu (nc zbp (nc zbq (nc zbp (nc ze ?_))))))
 have hcast:=a0R a b
 obtain ⟨mid,hmid⟩:∃ mid,mid=(a+b) / 2:=⟨_,rfl⟩
 have hm2:mid+mid≤a+b∧a+b≤mid+mid+1:=by omega
 rw [←hmid] at hcast
 obtain ⟨N,hN⟩:∃ N,N=L.length:=⟨_,rfl⟩
 rw [←hN] at hb hl ⊢
 refine AWp.wk (a7 (s':=(0,AV.sl 400000 0 N 3)::(1,.val (.i a))::(2,.val (.i m))::(3,.val (.i b))::(4,.val fc)::(18,.val (.i (mid:Nat)))::rwB L) ⟨by rw [hN];rfl,rfl,rfl,rfl,rfl,by rw [←hcast];rfl,rfl,trivial⟩) ?_
 refine aS (aR ?_)
 refine nc zl (nc zl (nc zu (nc ze ?_)))
 refine aS (aR ?_)
 refine nc ze (nc ze ?_)
 obtain ⟨n,hn⟩:∃ n,n=mid+m:=⟨_,rfl⟩
 obtain ⟨s0,r0,h0⟩:∃ s0 r0,(m>mid∧s0=n-b∧r0=mid)∨(m≤mid∧s0=a∧r0=m):=by
  rcases Nat.lt_or_ge mid m with c | c
  ·exact ⟨_,_,.inl ⟨c,rfl,rfl⟩⟩
  ·exact ⟨_,_,.inr ⟨c,rfl,rfl⟩⟩
 refine a3m ((0,AV.sl 400000 0 N 3)::(1,.val (.i a))::(2,.val (.i m))::(3,.val (.i b))::(4,.val fc)::(18,.val (.i (mid:Nat)))::(19,.val (.i (n:Nat)))::(20,.val (.i (s0:Nat)))::(21,.val (.i (r0:Nat)))::rwB L) ?_ ?_
 ·refine aS (aR ?_)
  refine nc zl (nc zl (nc zH ?_))
  rcases h0 with ⟨c,e1,e2⟩ | ⟨c,e1,e2⟩
  ·refine aC rfl (fun _=>?_) (fun hc=>?_)
   case refine_2 =>
    have hc:=of_decide_eq_false hc
    omega
   refine aS (aR ?_)
   refine nc zl (nc zl (nc zj (nc ze ?_)))
   refine aR ?_
   refine nc zl (nc ze ?_)
   refine a7 ⟨rfl,rfl,rfl,rfl,rfl,rfl,?_,?_,?_,rfl,trivial⟩
   ·rw [show ((n:Nat):Int)=(mid:Int)+m by omega];rfl
   ·rw [show ((s0:Nat):Int)=(mid:Int)+m-b by omega];rfl
   ·rw [e2];rfl
  ·refine aC rfl (fun hc=>?_) (fun _=>?_)
   case refine_1 =>
    have hc:=of_decide_eq_true hc
    omega
   refine aS (aR ?_)
   refine nc zl (nc ze ?_)
   refine aR ?_
   refine nc zl (nc ze ?_)
   refine a7 ⟨rfl,rfl,rfl,rfl,rfl,rfl,?_,?_,?_,rfl,trivial⟩
   ·rw [show ((n:Nat):Int)=(mid:Int)+m by omega];rfl
   ·rw [e1];rfl
   ·rw [e2];rfl
 refine aS (aR ?_)
 refine nc zl (nc zj (nc ze ?_))
 have hidx:∀ c,s0≤c→c<r0→a≤c∧c<m∧m≤n-1-c∧n-1-c<b∧c≤n-1:=fun c k1 k2=>by omega
 have hsr:s0≤r0∧r0≤m:=by omega
 have hlm:(L.map Bd.cv).length=L.length:=List.length_map ..
 obtain ⟨st,hst⟩:∃ st:Nat→Nat→AS,st=fun i j=>(0,AV.sl 400000 0 N 3)::(1,.val (.i a))::(2,.val (.i m))::(3,.val (.i b))::(4,.val fc)::(18,.val (.i (mid:Nat)))::(19,.val (.i (n:Nat)))::(20,.val (.i (i:Nat)))::(21,.val (.i (j:Nat)))::(22,.val (.i ((n-1:Nat):Int)))::rwB L:=⟨_,rfl⟩
 refine aS (aB (l6 (fun k s=>∃ i j,k=j-i∧s0≤i∧i≤j∧j≤r0∧(∀ c x y,s0≤c→c<i→L[c]?=some x→L[n-1-c]?=some y→x.v≤y.v)∧(∀ c x y,j≤c→c<r0→L[c]?=some x→L[n-1-c]?=some y→y.v<x.v)∧s=st i j) (n:=r0-s0) (s':=st s0 r0) (by
  rw [hst]
  refine a7 ⟨rfl,rfl,rfl,rfl,rfl,rfl,rfl,rfl,rfl,?_,rfl,trivial⟩
  rw [show ((n-1:Nat):Int)=(n:Int)-1 by omega];rfl) ⟨s0,r0,rfl,Nat.le_refl _,hsr.1,Nat.le_refl _,fun c x y _ _ _=>by omega,fun c x y _ _ _=>by omega,rfl⟩ ?_))
 rintro k s ⟨i,j,rfl,hmi,hij,hjb,hlo,hhi,rfl⟩
 rw [hst]
 refine aS (aS (aR ?_))
 refine nc zl (nc zl (nc zi ?_))
 refine aC rfl (fun hc=>aK ?_) (fun hc=>aE ?_)
 ·have hlt:i<j:=by have:=of_decide_eq_true hc;omega
  have hw:=a0V (i:=i) (j:=j) (by omega) (by omega)
  refine aB (aS (aR ?_))
  refine nc zl (nc zl (nc zu (nc zbp (nc zbq (nc zbp (nc ze ?_))))))
  have hh:i≤(i+j) / 2∧(i+j) / 2<j:=by omega
  have hcast:=a0R i j
  obtain ⟨h,hhd⟩:∃ h,h=(i+j) / 2:=⟨_,rfl⟩
  rw [←hhd] at hh hcast
  obtain ⟨k1,k2,k3,k4,k5⟩:=hidx h (by omega) (by omega)
  refine AWp.wk (a7 (s':=(23,.val (.i (h:Nat)))::(0,AV.sl 400000 0 N 3)::(1,.val (.i a))::(2,.val (.i m))::(3,.val (.i b))::(4,.val fc)::(18,.val (.i (mid:Nat)))::(19,.val (.i (n:Nat)))::(20,.val (.i (i:Nat)))::(21,.val (.i (j:Nat)))::(22,.val (.i ((n-1:Nat):Int)))::rwB L) ⟨by rw [←hcast];rfl,rfl,rfl,rfl,rfl,rfl,rfl,rfl,rfl,rfl,rfl,rfl,trivial⟩) ?_
  obtain ⟨x,hx⟩:=I0 (L:=L) (t:=n-1-h) (by omega)
  obtain ⟨y,hy⟩:=I0 (L:=L) (t:=h) (by omega)
  have hx':=Bd.map_at hx
  have hy':=Bd.map_at hy
  refine aS (aD (by kernel_rfl) (by kernel_rfl) ?_)
  refine nc zl (nc zl (nc zl (nc zl (nc zj (nc (zI (k:=n-1-h)) (nc (zJ (G:=hx')) (nc zl (nc zl (nc (zI (k:=h)) (nc (zJ (G:=hy')) (nc (zK (E:=hcm _ x y)) (nc zi (nc zX ?_)))))))))))))
  refine ⟨by kernel_rfl,?_⟩
  refine aC rfl (fun c1=>?_) (fun c1=>?_)
  ·have c2:¬ x.v<y.v:=fun c=>by
    have:=(hv x y).2 c
    simp [this] at c1
   refine aR ?_
   refine nc zl (nc zu (nc ze ?_))
   refine ⟨j-(h+1),st (h+1) j,by omega,⟨h+1,j,rfl,by omega,by omega,hjb,fun c x' y' g1 g2 g3 g4=>?_,hhi,by rw [hst]⟩,by rw [hst];exact a7 ⟨rfl,rfl,rfl,rfl,rfl,rfl,rfl,rfl,rfl,rfl,rfl,trivial⟩⟩
   by_cases ct:c=h
   ·rw [ct] at g3 g4
    rw [hy] at g3;rw [hx] at g4;cases g3;cases g4;omega
   ·obtain ⟨l1,l2,l3,l4,l5⟩:=hidx c g1 (by omega)
    have e1:=h1 c h x' y (by omega) (by omega) (by omega) g3 hy
    have e2:=h2 (n-1-h) (n-1-c) x y' (by omega) (by omega) (by omega) hx g4
    omega
  ·have c2:x.v<y.v:=(hv x y).1 (by simpa using c1)
   refine aR ?_
   refine nc zl (nc ze ?_)
   refine ⟨h-i,st i h,by omega,⟨i,h,rfl,hmi,by omega,by omega,hlo,fun c x' y' g1 g2 g3 g4=>?_,by rw [hst]⟩,by rw [hst];exact a7 ⟨rfl,rfl,rfl,rfl,rfl,rfl,rfl,rfl,rfl,rfl,rfl,trivial⟩⟩
   by_cases ct:c=h
   ·rw [ct] at g3 g4
    rw [hy] at g3;rw [hx] at g4;cases g3;cases g4;omega
   ·obtain ⟨l1,l2,l3,l4,l5⟩:=hidx c (by omega) g2
    have e1:=h1 h c y x' (by omega) (by omega) (by omega) hy g3
    have e2:=h2 (n-1-c) (n-1-h) y' x (by omega) (by omega) (by omega) g4 hx
    omega
 have hij':i=j:=by have:=of_decide_eq_false hc;omega
 subst hij'
 have hcut:Cut L n s0 i r0:=⟨hlo,hhi⟩
 obtain ⟨f1,f2,f3,f4,f5,f6,f7⟩:=hcut.sides (hN▸hb) ham hmb (by rw [hn,hmid]) (by rw [←hmid];exact h0) h1 h2 hmi hjb
 rw [←hmid] at f5
 refine aS (aR ?_)
 refine nc zl (nc zl (nc zj (nc ze ?_)))
 have hecast:((n:Nat):Int)-(i:Nat)=((n-i:Nat):Int):=by omega
 obtain ⟨e,he⟩:∃ e,e=n-i:=⟨_,rfl⟩
 rw [←he] at f3 f4 f5 f6 f7 hecast
 obtain ⟨st3,hst3⟩:∃ st:List Bd→AS,st=fun M=>(0,AV.sl 400000 0 N 3)::(1,.val (.i a))::(2,.val (.i m))::(3,.val (.i b))::(4,.val fc)::(18,.val (.i (mid:Nat)))::(20,.val (.i (i:Nat)))::(24,.val (.i (e:Nat)))::rwB M:=⟨_,rfl⟩
 refine AWp.wk (s':=st3 L) (by rw [hst3];exact a7 ⟨rfl,rfl,rfl,rfl,rfl,rfl,rfl,by rw [←hecast];rfl,rfl,trivial⟩) ?_
 refine a3X (fun M=>IsG M N (rtG i m e fun t=>L[t]?)) st3 ?_ ?_
 ·rw [hst3]
  refine aS (aR ?_)
  rcases Nat.lt_or_ge i m with c | c
  ·have g:decide (((i:Nat):Int)<(m:Nat))=true:=decide_eq_true (by omega)
   refine nc zl (nc zl (nc zi (nc zl (nc (zl (p:=gb)) (nc (zl (p:=gb)) (nc (zi (r:=gb)) (nc zM ?_)))))))
   refine aC rfl (fun hc=>?_) (fun hc=>aK ?_)
   ·have hc:=of_decide_eq_true hc
    have hr:=a8N fc L i m e c (by omega) (by omega) (by omega)
    rw [←hN] at hr
    refine r8 5 rfl rfl rfl rfl rfl rfl hr (by kernel_rfl) (fun σ=>by kernel_rfl) (fun σ=>by kernel_rfl) (fun σ=>rfl) (fun σ=>c9 (by kernel_rfl)) ?_
    refine nc zl (nc zl (nc zl (nc zl (nc zl ?_))))
    refine ⟨rfl,⟨rfl,trivial⟩,fun σ hσ=>⟨by kernel_rfl,?_⟩⟩
    exact ⟨σ,hσ,a7 ⟨rfl,rfl,rfl,rfl,rfl,rfl,rfl,rfl,rfl,trivial⟩⟩
   ·have hc:=of_decide_eq_false hc
    exact ⟨L,by rw [hN];exact a9j f2 f3 (.inr (by omega)),a7 ⟨rfl,rfl,rfl,rfl,rfl,rfl,rfl,rfl,rfl,trivial⟩⟩
  ·have g:decide (((i:Nat):Int)<(m:Nat))=false:=decide_eq_false (by omega)
   refine nc zl (nc zl (nc zi (nc zl (nc zO (nc zO (nc zO (nc zP ?_)))))))
   refine aC rfl (fun hc=>?_) (fun hc=>aK ?_)
   ·cases hc
   ·exact ⟨L,by rw [hN];exact a9j f2 f3 (.inl (by omega)),a7 ⟨rfl,rfl,rfl,rfl,rfl,rfl,rfl,rfl,rfl,trivial⟩⟩
 intro M hM
 have hMl:=hM.1
 have hM':=hM
 rw [hN] at hM'
 obtain ⟨t1,t2,t3,t4,t5⟩:=Y7 f1 f2 f3 f4 (hN▸hb) f5 h1 h2 f6 f7 hM'
 have hg1:Mg a b L M:=(Mg.rt f2 f3 (by omega) hM').mono f1 f4
 refine a3X (fun M2=>Mg a mid M M2∧srtB M2 a mid) st3 ?_ ?_
 ·rw [hst3]
  refine aS (aR ?_)
  rcases Nat.lt_or_ge a i with c | c
  ·have g:decide (((a:Nat):Int)<(i:Nat))=true:=decide_eq_true (by omega)
   refine nc zl (nc zl (nc zi (nc zl (nc (zl (p:=gb)) (nc (zl (p:=gb)) (nc (zi (r:=gb)) (nc zM ?_)))))))
   refine aC rfl (fun hc=>?_) (fun hc=>aK ?_)
   ·have hc:=of_decide_eq_true hc
    have hr:=ih M a i mid (by omega) c (by omega) (by omega) (by omega) t1 t2
    rw [hMl] at hr
    refine r8 5 rfl rfl rfl rfl rfl rfl hr (by kernel_rfl) (fun σ=>by kernel_rfl) (fun σ=>by kernel_rfl) (fun σ=>rfl) (fun σ=>c9 (by kernel_rfl)) ?_
    refine nc zl (nc zl (nc zl (nc zl (nc zl ?_))))
    refine ⟨rfl,⟨rfl,trivial⟩,fun σ hσ=>⟨by kernel_rfl,?_⟩⟩
    exact ⟨σ,hσ,a7 ⟨rfl,rfl,rfl,rfl,rfl,rfl,rfl,rfl,rfl,trivial⟩⟩
   ·have hc:=of_decide_eq_false hc
    exact ⟨M,⟨Mg.refl _ _ _,by rw [show mid=i by omega];exact t1⟩,a7 ⟨rfl,rfl,rfl,rfl,rfl,rfl,rfl,rfl,rfl,trivial⟩⟩
  ·have g:decide (((a:Nat):Int)<(i:Nat))=false:=decide_eq_false (by omega)
   refine nc zl (nc zl (nc zi (nc zl (nc zO (nc zO (nc zO (nc zP ?_)))))))
   refine aC rfl (fun hc=>?_) (fun hc=>aK ?_)
   ·cases hc
   ·exact ⟨M,⟨Mg.refl _ _ _,by rw [show a=i by omega];exact t2⟩,a7 ⟨rfl,rfl,rfl,rfl,rfl,rfl,rfl,rfl,rfl,trivial⟩⟩
 intro M2 hM2
 obtain ⟨hg2,u1⟩:=hM2
 have hMl2:M2.length=N:=hg2.len.trans hMl
 have u2:srtB M2 mid e:=t3.same fun t k1 k2=>hg2.out t (by omega)
 have u3:srtB M2 e b:=t4.same fun t k1 k2=>hg2.out t (by omega)
 have u4:leB M2 a mid mid b:=t5.mg (by omega) (by omega) (.inl hg2)
 have fin:∀ σ,Mg mid b M2 σ→srtB σ mid b→b0J a b L σ:=fun σ g1 g2 =>
  ⟨(hg1.trans (hg2.mono (Nat.le_refl _) (by omega))).trans (g1.mono (by omega) (Nat.le_refl _)),(u1.same fun t k1 k2=>g1.out t (by omega)).glue g2 (u4.mg (by omega) (by omega) (.inr g1))⟩
 rw [hst3]
 refine aS (aR ?_)
 rcases Nat.lt_or_ge mid e with c | c
 ·have g:decide (((mid:Nat):Int)<(e:Nat))=true:=decide_eq_true (by omega)
  refine nc zl (nc zl (nc zi (nc zl (nc (zl (p:=gb)) (nc (zl (p:=gb)) (nc (zi (r:=gb)) (nc zM ?_)))))))
  refine aC rfl (fun hc=>?_) (fun hc=>aK ?_)
  ·have hc:=of_decide_eq_true hc
   have hr:=ih M2 mid e b (by omega) c (by omega) (by omega) (by omega) u2 u3
   rw [hMl2] at hr
   refine r8 5 rfl rfl rfl rfl rfl rfl hr (by kernel_rfl) (fun σ=>by kernel_rfl) (fun σ=>by kernel_rfl) (fun σ=>rfl) (fun σ=>c9 (by kernel_rfl)) ?_
   refine nc zl (nc zl (nc zl (nc zl (nc zl ?_))))
   refine ⟨rfl,⟨rfl,trivial⟩,fun σ hσ=>⟨by kernel_rfl,?_⟩⟩
   exact ⟨.inl rfl,σ,fin σ hσ.1 hσ.2,_,Wk.refl _,rfl,rfl,trivial⟩
  ·have hc:=of_decide_eq_false hc
   exact ⟨.inl rfl,M2,fin M2 (Mg.refl _ _ _) (by rw [show b=e by omega];exact u2),_,Wk.refl _,rfl,rfl,trivial⟩
 ·have g:decide (((mid:Nat):Int)<(e:Nat))=false:=decide_eq_false (by omega)
  refine nc zl (nc zl (nc zi (nc zl (nc zO (nc zO (nc zO (nc zP ?_)))))))
  refine aC rfl (fun hc=>?_) (fun hc=>aK ?_)
  ·cases hc
  ·exact ⟨.inl rfl,M2,fin M2 (Mg.refl _ _ _) (by rw [show mid=e by omega];exact u3),_,Wk.refl _,rfl,rfl,trivial⟩
structure SkI (L:List Bd) (a j e:Nat):Prop where
 oth:∀ p q x y,a≤p→p<q→q<e→p≠j→q≠j→L[p]?=some x→L[q]?=some y→x.v≤y.v
 beh:∀ q x y,j<q→q<e→L[j]?=some x→L[q]?=some y→x.v≤y.v
theorem a7t {cmp:Bd→Bd→Int} (hv:∀ x y,cmp x y<0↔x.v<y.v) {a e:Nat}:∀ (j:Nat) (L:List Bd),j<e→e≤L.length→SkI L a j e→Mg a e L (T6 (ltC cmp) a j L)∧srtB (T6 (ltC cmp) a j L) a e
 | 0,L,hj,he,h=>⟨Mg.refl _ _ _,fun p q x y k1 k2 k3 k4 k5=>by
   by_cases c:p=0
   ·subst c;exact h.beh q x y (by omega) k3 k4 k5
   ·exact h.oth p q x y k1 k2 k3 c (by omega) k4 k5⟩
 | j+1,L,hj,he,h=>by
  by_cases ha:a<j+1
  ·obtain ⟨x,hx⟩:=I0 (L:=L) (t:=j+1) (by omega)
   obtain ⟨y,hy⟩:=I0 (L:=L) (t:=j) (by omega)
   by_cases hlt:ltC cmp x y=true
   ·rw [a3y _ _ hx hy ha hlt]
    have hxy:x.v<y.v:=(hv x y).1 (of_decide_eq_true hlt)
    have hg:IsG ((L.set (j+1) y).set j x) L.length (rtG j (j+1) (j+1+1) fun t=>L[t]?):=b8u (Nat.le_refl _) (by omega) (a9j (Nat.le_refl _) (by omega) (.inl rfl)) hx hy
    have hm:=(Mg.rt (by omega) (by omega) (by omega) hg).mono (c:=a) (d:=e) (by omega) (by omega)
    have e1:((L.set (j+1) y).set j x)[j]?=some x:=by rw [List.getElem?_set,if_pos rfl,if_pos (by rw [List.length_set];omega)]
    have e2:((L.set (j+1) y).set j x)[j+1]?=some y:=by rw [List.getElem?_set,if_neg (by omega),List.getElem?_set,if_pos rfl,if_pos (by omega)]
    have e3:∀ t,t≠j→t≠j+1→((L.set (j+1) y).set j x)[t]?=L[t]?:=fun t k1 k2=>by rw [List.getElem?_set,if_neg (by omega),List.getElem?_set,if_neg (by omega)]
    have hI:SkI ((L.set (j+1) y).set j x) a j e:=by
     refine ⟨fun p q x' y' k1 k2 k3 k4 k5 k6 k7=>?_,fun q x' y' k1 k2 k3 k4=>?_⟩
     ·by_cases c1:p=j+1
      ·subst c1
       rw [e2] at k6;cases k6
       rw [e3 q (by omega) (by omega)] at k7
       exact h.oth j q _ y' (by omega) (by omega) k3 (by omega) (by omega) hy k7
      ·rw [e3 p k4 c1] at k6
       by_cases c2:q=j+1
       ·subst c2
        rw [e2] at k7;cases k7
        exact h.oth p j x' _ k1 (by omega) (by omega) (by omega) (by omega) k6 hy
       ·rw [e3 q k5 c2] at k7
        exact h.oth p q x' y' k1 k2 k3 c1 c2 k6 k7
     ·rw [e1] at k3;cases k3
      by_cases c2:q=j+1
      ·subst c2
       rw [e2] at k4;cases k4;omega
      ·rw [e3 q (by omega) c2] at k4
       exact h.beh q _ y' (by omega) k2 hx k4
    obtain ⟨r1,r2⟩:=a7t hv j ((L.set (j+1) y).set j x) (by omega) (by rw [List.length_set,List.length_set];exact he) hI
    exact ⟨hm.trans r1,r2⟩
   ·have hlt':ltC cmp x y=false:=by simpa using hlt
    rw [a6w _ _ hx hy hlt']
    have hxy:¬ x.v<y.v:=fun c=>by
     have:=decide_eq_true ((hv x y).2 c)
     exact hlt this
    refine ⟨Mg.refl _ _ _,fun p q x' y' k1 k2 k3 k4 k5=>?_⟩
    by_cases c1:p=j+1
    ·subst c1;exact h.beh q x' y' k2 k3 k4 k5
    ·by_cases c2:q=j+1
     ·subst c2
      rw [hx] at k5;cases k5
      by_cases c3:p=j
      ·subst c3;rw [hy] at k4;cases k4;omega
      ·have:=h.oth p j x' y k1 (by omega) (by omega) c1 (by omega) k4 hy
       omega
     ·exact h.oth p q x' y' k1 k2 k3 c1 c2 k4 k5
  ·rw [a5r _ _ ha]
   refine ⟨Mg.refl _ _ _,fun p q x' y' k1 k2 k3 k4 k5=>?_⟩
   by_cases c1:p=j+1
   ·subst c1;exact h.beh q x' y' k2 k3 k4 k5
   ·exact h.oth p q x' y' k1 k2 k3 c1 (by omega) k4 k5
theorem a4T {cmp:Bd→Bd→Int} (hv:∀ x y,cmp x y<0↔x.v<y.v) {a:Nat}:∀ (n i:Nat) (L:List Bd),a≤i→i+n≤L.length→srtB L a i→Mg a (i+n) L (x6 (ltC cmp) a n i L)∧srtB (x6 (ltC cmp) a n i L) a (i+n)
 | 0,i,L,ha,he,h=>⟨Mg.refl _ _ _,h⟩
 | n+1,i,L,ha,he,h=>by
  have hs:=a7t hv (a:=a) (e:=i+1) i L (by omega) (by omega) ⟨fun p q x y k1 k2 k3 k4 k5 k6 k7=>h p q x y k1 k2 (by omega) k6 k7,fun q x y k1 k2 _ _=>by omega⟩
  have hr:=a4T hv n (i+1) (T6 (ltC cmp) a i L) (by omega) (by rw [a3P];omega) hs.2
  rw [show i+1+n=i+(n+1) by omega] at hr
  exact ⟨(hs.1.mono (Nat.le_refl _) (by omega)).trans hr.1,hr.2⟩
theorem a6i {cmp:Bd→Bd→Int} (hv:∀ x y,cmp x y<0↔x.v<y.v) {a b:Nat} (L:List Bd) (hab:a≤b) (hb:b≤L.length):Mg a b L (x6 (ltC cmp) a (b-(a+1)) (a+1) L)∧srtB (x6 (ltC cmp) a (b-(a+1)) (a+1) L) a b:=by
 by_cases c:a+1≤b
 ·have h:=a4T hv (a:=a) (b-(a+1)) (a+1) L (by omega) (by omega) (fun p q x y _ _ _ _ _=>by omega)
  rw [show a+1+(b-(a+1))=b by omega] at h
  exact h
 ·rw [show b-(a+1)=0 by omega]
  exact ⟨Mg.refl _ _ _,fun p q x y _ _ _ _ _=>by omega⟩
def blk (M:List Bd) (bs n a b:Nat):Prop:=∀ lo,bs∣lo→a≤lo→lo<b→srtB M lo (min (lo+bs) n)
theorem a1c {k x y:Nat} (hx:k∣x) (hy:k∣y) (h:x<y):x+k≤y:=by
 have:=Nat.le_of_dvd (by omega) (Nat.dvd_sub hy hx)
 omega
theorem blk.mg {M σ:List Bd} {bs n a b c d:Nat} (h:blk M bs n a b) (hm:Mg c d M σ) (hs:(bs∣c∧b≤c)∨d≤a):blk σ bs n a b:=fun lo k1 k2 k3=>by
 refine (h lo k1 k2 k3).same fun t h1 h2=>hm.out t ?_
 rcases hs with ⟨s1,s2⟩ | s
 ·have:=a1c k1 s1 (by omega)
  omega
 ·omega
set_option maxHeartbeats 4000000 in
theorem a7n (cmp:Bd→Bd→Int) (fc:CV) (hcm:∀ W x y,L4 Tryz.prog W fc [x.cw,y.cw] (.val (.i (cmp x y)))) (hv:∀ x y,cmp x y<0↔x.v<y.v) (L:List Bd) (hl:L.length≤1000000):AFunE (Sg:=List Bd) Tryz.prog 153 (rwB L) [.sl 400000 0 L.length 3,.val (.i L.length),.val fc] (b0J 0 L.length L) (fun _ => .tup []) (fun σ=>rwB σ):=by
 refine G8 Tryz.func153 Tryz.ntmps153 rfl rfl rfl rfl rfl (fun σ=>rfl) ?_
 intro w U hU
 refine aS (aR ?_)
 refine nc ze ?_
 refine aS (aR ?_)
 refine nc zl (nc ze (nc ze ?_))
 obtain ⟨N,hN⟩:∃ N,N=L.length:=⟨_,rfl⟩
 rw [←hN] at hl ⊢
 obtain ⟨st,hst⟩:∃ st:Nat→Nat→Nat→List Bd→AS,st=fun bs a b M=>(0,AV.sl 400000 0 N 3)::(1,.val (.i N))::(2,.val fc)::(6,.val (.i (bs:Nat)))::(7,.val (.i (a:Nat)))::(8,.val (.i (b:Nat)))::rwB M:=⟨_,rfl⟩
 refine aS (aB (l6 (fun k s=>∃ a M,k=N-a∧20∣a∧a≤N∧Mg 0 N L M∧blk M 20 N 0 a∧s=st 20 a (a+20) M) (n:=N-0) (s':=st 20 0 (0+20) L) (by rw [hst,hN];exact a7 ⟨rfl,rfl,rfl,rfl,rfl,rfl,rfl,trivial⟩) ⟨0,L,rfl,⟨0,rfl⟩,Nat.zero_le _,Mg.refl _ _ _,fun lo _ _ h=>by omega,rfl⟩ ?_))
 rintro k s ⟨a,M,rfl,hda,haN,hMg,hbl,rfl⟩
 have hMl:M.length=N:=hMg.len.trans hN.symm
 rw [hst]
 refine aS (aS (aR ?_))
 refine nc zl (nc zl (nc zA ?_))
 refine aC rfl (fun hc=>aK ?_) (fun hc=>aE ?_)
 ·have hlt:a+20≤N:=by have:=of_decide_eq_true hc;omega
  have hins:=a1I cmp fc M a (a+20) (by omega) (by omega) (by omega) hcm
  rw [hMl] at hins
  have hs:=a6i hv (a:=a) (b:=a+20) M (by omega) (by omega)
  obtain ⟨M',hM'⟩:∃ M',M'=x6 (ltC cmp) a (a+20-(a+1)) (a+1) M:=⟨_,rfl⟩
  rw [←hM'] at hins hs
  refine aB (aS (aR ?_))
  refine nc zl (nc zl (nc zl (nc zl (nc (z0 (z:=hins) (G:=c9 (by first | rfl | kernel_rfl))) ?_))))
  refine aS (aR ?_)
  refine nc zl (nc ze ?_)
  refine aR ?_
  refine nc zl (nc zl (nc zu (nc ze ?_)))
  refine ⟨N-(a+20),st 20 (a+20) (a+20+20) M',by omega,⟨a+20,M',rfl,Nat.dvd_add hda ⟨1,rfl⟩,hlt,hMg.trans (hs.1.mono (Nat.zero_le _) hlt),fun lo k1 k2 k3=>?_,by rw [hst]⟩,by rw [hst];exact a7 ⟨rfl,rfl,rfl,rfl,rfl,rfl,rfl,trivial⟩⟩
  by_cases c:lo<a
  ·exact (hbl.mg hs.1 (.inl ⟨hda,Nat.le_refl _⟩)) lo k1 k2 c
  ·have:lo=a:=by
    rcases Nat.lt_or_ge a lo with c2 | c2
    ·have:=a1c hda k1 c2
     omega
    ·omega
   subst this
   rw [Nat.min_eq_left hlt]
   exact hs.2
 ·have hge:N<a+20:=by have:=of_decide_eq_false hc;omega
  have hins:=a1I cmp fc M a N (by omega) (by omega) (by omega) hcm
  rw [hMl] at hins
  have hs:=a6i hv (a:=a) (b:=N) M haN (by omega)
  obtain ⟨M',hM'⟩:∃ M',M'=x6 (ltC cmp) a (N-(a+1)) (a+1) M:=⟨_,rfl⟩
  rw [←hM'] at hins hs
  refine aS (aR ?_)
  refine nc zl (nc zl (nc zl (nc zl (nc (z0 (z:=hins) (G:=c9 (by first | rfl | kernel_rfl))) ?_))))
  obtain ⟨st2,hst2⟩:∃ st:Nat→List Bd→AS,st=fun bs M=>(0,AV.sl 400000 0 N 3)::(1,.val (.i N))::(2,.val fc)::(6,.val (.i (bs:Nat)))::rwB M:=⟨_,rfl⟩
  have hb0:blk M' 20 N 0 N:=fun lo k1 k2 k3=>by
   by_cases c:lo<a
   ·exact (hbl.mg hs.1 (.inl ⟨hda,Nat.le_refl _⟩)) lo k1 k2 c
   ·have:lo=a:=by
     rcases Nat.lt_or_ge a lo with c2 | c2
     ·have:=a1c hda k1 c2
      omega
     ·omega
    subst this
    rw [Nat.min_eq_right (by omega)]
    exact hs.2
  refine aB (l6 (fun k s=>∃ bs M,k=2*N-bs∧0<bs∧(bs≤20∨bs≤2*N)∧Mg 0 N L M∧blk M bs N 0 N∧s=st2 bs M) (n:=2*N-20) (s':=st2 20 M') (by rw [hst2];exact a7 ⟨rfl,rfl,rfl,rfl,rfl,trivial⟩) ⟨20,M',rfl,by omega,.inl (Nat.le_refl _),hMg.trans (hs.1.mono (Nat.zero_le _) (Nat.le_refl _)),hb0,rfl⟩ ?_)
  clear hs hb0 hins hM' M' hMg hbl hMl M hge hc haN hda a
  rintro k s ⟨bs,M,rfl,hbs,hbn,hMg,hbl,rfl⟩
  rw [hst2]
  refine aS (aS (aR ?_))
  refine nc zl (nc zl (nc zi ?_))
  refine aC rfl (fun hc=>aK ?_) (fun hc=>aE ?_)
  ·have hlt:bs<N:=by have:=of_decide_eq_true hc;omega
   refine aB (aS (aR ?_))
   refine nc zl (nc zbr (nc ze (nc ze ?_)))
   refine aS (aB (l6 (fun k s=>∃ a M,k=N-a∧2*bs∣a∧a≤N∧Mg 0 N L M∧blk M (2*bs) N 0 a∧blk M bs N a N∧s=st bs a (a+2*bs) M) (n:=N-0) (s':=st bs 0 (0+2*bs) M) (by
    rw [hst]
    refine a7 ⟨rfl,rfl,rfl,rfl,rfl,?_,rfl,trivial⟩
    rw [show ((0+2*bs:Nat):Int)=2*(bs:Int) by omega];rfl) ⟨0,M,rfl,⟨0,rfl⟩,Nat.zero_le _,hMg,fun lo _ _ h=>by omega,hbl,rfl⟩ ?_))
   clear hMg hbl M
   rintro k s ⟨a,M,rfl,hda,haN,hMg,hbl,hbr,rfl⟩
   have hMl:M.length=N:=hMg.len.trans hN.symm
   have hda1:bs∣a:=Nat.dvd_trans ⟨2,by omega⟩ hda
   rw [hst]
   refine aS (aS (aR ?_))
   refine nc zl (nc zl (nc zA ?_))
   refine aC rfl (fun hc=>aK ?_) (fun hc=>aE ?_)
   ·have hle:a+2*bs≤N:=by have:=of_decide_eq_true hc;omega
    have p1:=hbr a hda1 (Nat.le_refl _) (by omega)
    have p2:=hbr (a+bs) (Nat.dvd_add hda1 (Nat.dvd_refl _)) (by omega) (by omega)
    rw [Nat.min_eq_left (by omega)] at p1 p2
    have hr:=a7v cmp fc hcm hv (a+2*bs-a) M a (a+bs) (a+2*bs) (Nat.le_refl _) (by omega) (by omega) (by omega) (by omega) p1 (by rw [show a+2*bs=a+bs+bs by omega];exact p2)
    rw [hMl] at hr
    refine aB (aS (r8 7 rfl rfl rfl rfl rfl rfl hr (by kernel_rfl) (fun σ=>by kernel_rfl) (fun σ=>by kernel_rfl) (fun σ=>rfl) (fun σ=>c9 (by kernel_rfl)) ?_))
    refine nc zl (nc zl (nc zl (nc zl (nc zu (nc zl (nc zl ?_))))))
    refine ⟨rfl,⟨rfl,trivial⟩,fun σ hσ=>⟨by kernel_rfl,?_⟩⟩
    refine aS (aR ?_)
    refine nc zl (nc ze ?_)
    refine aR ?_
    refine nc zl (nc zl (nc zbr (nc zu (nc ze ?_))))
    refine ⟨N-(a+2*bs),st bs (a+2*bs) (a+2*bs+2*bs) σ,by omega,⟨a+2*bs,σ,rfl,Nat.dvd_add hda (Nat.dvd_refl _),hle,hMg.trans (hσ.1.mono (Nat.zero_le _) hle),fun lo k1 k2 k3=>?_,?_,by rw [hst]⟩,?_⟩
    ·by_cases c:lo<a
     ·exact (hbl.mg hσ.1 (.inl ⟨hda,Nat.le_refl _⟩)) lo k1 k2 c
     ·have:lo=a:=by
       rcases Nat.lt_or_ge a lo with c2 | c2
       ·have:=a1c hda k1 c2
        omega
       ·omega
      subst this
      rw [Nat.min_eq_left hle]
      exact hσ.2
    ·exact fun lo k1 k2 k3=>(hbr lo k1 (by omega) k3).same fun t h1 h2=>hσ.1.out t (by omega)
    ·rw [hst]
     exact a7 ⟨rfl,rfl,rfl,rfl,rfl,rfl,rfl,trivial⟩
   ·have hge:N<a+2*bs:=by have:=of_decide_eq_false hc;omega
    refine a3X (fun M2=>Mg 0 N L M2∧blk M2 (2*bs) N 0 N) (st2 bs) ?_ ?_
    ·have hfin:∀ σ,Mg a N M σ→srtB σ a N→Mg 0 N L σ∧blk σ (2*bs) N 0 N:=fun σ g1 g2 =>
      ⟨hMg.trans (g1.mono (Nat.zero_le _) (Nat.le_refl _)),fun lo k1 k2 k3=>by
       by_cases c:lo<a
       ·exact (hbl.mg g1 (.inl ⟨hda,Nat.le_refl _⟩)) lo k1 k2 c
       ·have:lo=a:=by
         rcases Nat.lt_or_ge a lo with c2 | c2
         ·have:=a1c hda k1 c2
          omega
         ·omega
        subst this
        rw [Nat.min_eq_right (by omega)]
        exact g2⟩
     refine aS (aR ?_)
     refine nc zl (nc zl (nc zu (nc ze ?_)))
     refine aS (aR ?_)
     refine nc zl (nc zl (nc zi ?_))
     refine aC rfl (fun hc=>?_) (fun hc=>aK ?_)
     ·have hm:a+bs<N:=by have:=of_decide_eq_true hc;omega
      have p1:=hbr a hda1 (Nat.le_refl _) (by omega)
      have p2:=hbr (a+bs) (Nat.dvd_add hda1 (Nat.dvd_refl _)) (by omega) (by omega)
      rw [Nat.min_eq_left (by omega)] at p1
      rw [Nat.min_eq_right (by omega)] at p2
      have hr:=a7v cmp fc hcm hv (N-a) M a (a+bs) N (Nat.le_refl _) (by omega) (by omega) (by omega) (by omega) p1 p2
      rw [hMl] at hr
      refine r8 5 rfl rfl rfl rfl rfl rfl hr (by kernel_rfl) (fun σ=>by kernel_rfl) (fun σ=>by kernel_rfl) (fun σ=>rfl) (fun σ=>c9 (by kernel_rfl)) ?_
      refine nc zl (nc zl (nc zl (nc zl (nc zl ?_))))
      refine ⟨rfl,⟨rfl,trivial⟩,fun σ hσ=>⟨by kernel_rfl,?_⟩⟩
      exact ⟨σ,hfin σ hσ.1 hσ.2,by rw [hst2];exact a7 ⟨rfl,rfl,rfl,rfl,rfl,trivial⟩⟩
     ·have hm:N≤a+bs:=by have:=of_decide_eq_false hc;omega
      refine ⟨M,hfin M (Mg.refl _ _ _) ?_,by rw [hst2];exact a7 ⟨rfl,rfl,rfl,rfl,rfl,trivial⟩⟩
      by_cases c:a<N
      ·have p1:=hbr a hda1 (Nat.le_refl _) c
       rw [Nat.min_eq_right hm] at p1
       exact p1
      ·exact fun p q x y _ _ _ _ _=>by omega
    intro M2 hM2
    rw [hst2]
    refine aR ?_
    refine nc zl (nc zbr (nc ze ?_))
    refine ⟨2*N-bs*2,st2 (bs*2) M2,by omega,⟨bs*2,M2,rfl,by omega,.inr (by omega),hM2.1,by rw [Nat.mul_comm];exact hM2.2,by rw [hst2]⟩,by rw [hst2];exact a7 ⟨rfl,rfl,rfl,rfl,rfl,trivial⟩⟩
  ·have hge:N≤bs:=by have:=of_decide_eq_false hc;omega
   refine ⟨.inl rfl,M,⟨hMg,?_⟩,_,Wk.refl _,rfl,rfl,trivial⟩
   by_cases c:0<N
   ·have:=hbl 0 ⟨0,rfl⟩ (Nat.le_refl _) c
    rw [Nat.zero_add,Nat.min_eq_right hge] at this
    exact this
   ·exact fun p q x y _ _ _ _ _=>by omega
theorem a2e (cmp:Bd→Bd→Int) (fc:CV) (hcm:∀ W x y,L4 Tryz.prog W fc [x.cw,y.cw] (.val (.i (cmp x y)))) (hv:∀ x y,cmp x y<0↔x.v<y.v) (L:List Bd) (hl:L.length≤1000000):AFunE (Sg:=List Bd) Tryz.prog 133 (rwB L) [.sl 400000 0 L.length 3,.val fc] (b0J 0 L.length L) (fun _ => .tup []) (fun σ=>rwB σ):=by
 refine G8 Tryz.func133 Tryz.ntmps133 rfl rfl rfl rfl rfl (fun σ=>rfl) ?_
 intro w U hU
 have hr:=a7n cmp fc hcm hv L hl
 refine r8 4 rfl rfl rfl rfl rfl rfl hr (by kernel_rfl) (fun σ=>by kernel_rfl) (fun σ=>by kernel_rfl) (fun σ=>rfl) (fun σ=>c9 (by kernel_rfl)) ?_
 refine nc zl (nc zl (nc zV (nc zl ?_)))
 refine ⟨rfl,⟨rfl,trivial⟩,fun σ hσ=>⟨by kernel_rfl,?_⟩⟩
 exact ⟨.inl rfl,σ,hσ,_,Wk.refl _,rfl,rfl,trivial⟩
theorem AFunE.one {P:Program} {Sg:Type} {R:Sg→Prop} {r:Sg→AV} {post:Sg→AS} {f:FuncId} {pre:AS} {args:List AV} {σ0:Sg} (h:AFunE P f pre args R r post) (hone:∀ σ,R σ→σ=σ0):p6 P f pre args (r σ0) (post σ0):=
 ⟨h.1,fun U w hv a0 vs hU hp ha=>(h.2 U w hv a0 vs hU hp ha).mono fun e w' ⟨σ,k1,k2⟩=>by rw [hone σ k1] at k2;exact k2⟩
theorem b8s:∀ {A B:List Bd},A.Pairwise (fun x y=>x.v<y.v)→B.Pairwise (fun x y=>x.v<y.v)→(∀ x,x∈A↔x∈B)→A=B
 | [],[],_,_,_=>rfl
 | [],b::B,_,_,h=>by have:=(h b).2 List.mem_cons_self;cases this
 | a::A,[],_,_,h=>by have:=(h a).1 List.mem_cons_self;cases this
 | a::A,b::B,hA,hB,h=>by
  obtain ⟨a1,a2⟩:=List.pairwise_cons.1 hA
  obtain ⟨b1,b2⟩:=List.pairwise_cons.1 hB
  have e:a=b:=by
   rcases List.mem_cons.1 ((h a).1 List.mem_cons_self) with e | e
   ·exact e
   ·rcases List.mem_cons.1 ((h b).2 List.mem_cons_self) with e' | e'
    ·exact e'.symm
    ·have:=a1 b e'
     have:=b1 a e
     omega
  subst e
  rw [b8s a2 b2 fun x=>⟨fun hx=>?_,fun hx=>?_⟩]
  ·rcases List.mem_cons.1 ((h x).1 (List.mem_cons_of_mem _ hx)) with e | e
   ·have:=a1 x hx
    rw [e] at this
    omega
   ·exact e
  ·rcases List.mem_cons.1 ((h x).2 (List.mem_cons_of_mem _ hx)) with e | e
   ·have:=b1 x hx
    rw [e] at this
    omega
   ·exact e
theorem a8k {L σ:List Bd} (hd:(L.map Bd.v).Nodup) (h:b0J 0 L.length L σ):σ.Pairwise (fun x y=>x.v<y.v):=by
 have hp:=h.1.perm
 have hn:(σ.map Bd.v).Nodup:=(hp.map Bd.v).nodup_iff.2 hd
 rw [List.pairwise_iff_getElem]
 intro i j hi hj hij
 have h1:=h.2 i j σ[i] σ[j] (Nat.zero_le _) hij (by rw [←h.1.len];exact hj) (List.getElem?_eq_getElem hi) (List.getElem?_eq_getElem hj)
 have h2:=(List.pairwise_iff_getElem.1 hn) i j (by simpa using hi) (by simpa using hj) hij
 simp only [List.getElem_map] at h2
 omega
theorem b0t (x y:Bd):a8r x y<0↔x.v<y.v:=by
 unfold a8r y7
 split
 ·simp_all
 ·split<;>simp_all<;>omega
theorem b4j {L σ:List Bd} (hd:(L.map Bd.v).Nodup) (h:b0J 0 L.length L σ):σ=L7 L:=by
 have hs:=a6i b0t (a:=0) (b:=L.length) L (Nat.zero_le _) (Nat.le_refl _)
 rw [Nat.zero_add] at hs
 refine b8s (a8k hd h) (a8k hd hs) fun x=>?_
 rw [h.1.perm.mem_iff]
 exact hs.1.perm.mem_iff.symm
theorem b1S (W:World) (L:List Bd) (hl:L.length≤1000000) (hd:(L.map Bd.v).Nodup) (hb:bdsOk L):AFun Tryz.prog W 74 [.lst (L.map Bd.cv)] (.val (.lst ((t6 L).map Bd.cv))):=
 b2n W L hl hb (a6M L hl ((a2e a8r (.sc (.func (.func 134) #[] #[])) (fun W x y => .inr ⟨_,rfl,b3V W x y⟩) b0t L hl).one fun σ hσ=>b4j hd hσ))
theorem b9a {c:Cl} {H r:Nat→Nat} {E} (h:ClsC c H r E) (hv:Q0 c.vr):c.vr.length≤c.ns.length:=by
 have hn:(c.vr.map Prod.snd).Nodup:=by
  have h1:c.vr.Pairwise (fun a b=>a.1≠b.1):=List.pairwise_map.1 hv.1
  refine List.pairwise_map.2 (List.Pairwise.imp_of_mem (fun {a b} ha hb hab e=>hab ?_) h1)
  have e1:=(h.vrt a.1 a.2 (N8 hv.1 ha)).2
  have e2:=(h.vrt b.1 b.2 (N8 hv.1 hb)).2
  rw [e] at e1
  omega
 have:=a3L c.ns.length hn (fun x hx=>by
  obtain ⟨p,hp,rfl⟩:=List.mem_map.1 hx
  exact (h.vrt p.1 p.2 (N8 hv.1 hp)).1)
 simpa using this
def ToldU (l:List (Tm×Tm)) (r:List Bd×Bool):Prop:=(r.2=false∧r.1=[]∧∀ τ,¬ uni τ l)∨(r.2=true∧∃ s:List Bd,Mgu (b5 s) l∧(∀ b∈s,0≤b.v)∧(∀ v,0≤v→b5 s v=p5 v∨((b5 s v).rng∧(b5 s v).size≤90000000000))∧r.1=t6 s)
theorem ToldU.no {l:List (Tm×Tm)} {r:List Bd×Bool} (h:ToldU l r) (hn:∀ τ,¬ uni τ l):r=([],false):=by
 rcases h with ⟨h1,h2,_⟩ | ⟨_,s,hs,_⟩
 ·cases r;simp_all
 ·exact absurd hs.uni (hn _)
theorem ToldU.yes {l:List (Tm×Tm)} {r:List Bd×Bool} (h:ToldU l r) {u:List Bd} (hu:Mgu (b5 u) l) (hu0:∀ b∈u,0≤b.v):r=(t6 u,true)∧∀ v,0≤v→b5 u v=p5 v∨((b5 u v).rng∧(b5 u v).size≤90000000000):=by
 rcases h with ⟨_,_,h3⟩ | ⟨h1,s,hs,h0,hb,h2⟩
 ·exact absurd hu.uni (h3 _)
 ·refine ⟨?_,fun v hv=>by rw [hs.one hu hv];exact hb v hv⟩
  rw [←b4Q h0 hu0 hs hu,←h2,←h1]
theorem b1M {l:List (Tm×Tm)} {r:List Bd×Bool} (h:ToldU l r) {vr vr':List (Int×Nat)} (hv:Q0 vr) (hvb:∀ p∈vr,p.1≤9223372036854775807) (hp:vr'.Perm vr) {g:Nat→Tm} {u:List Bd} (hu:u=vr'.map fun p=>(⟨p.1,g p.2⟩:Bd)) (hm:∀ s:List Bd,(∀ v,b0 s v=(n7 vr v).map g)→Mgu (b5 s) l):r=(t6 u,true)∧(u.map Bd.v).Nodup∧bdsOk u:=by
 have hf:∀ v,b0 u v=(n7 vr v).map g:=fun v=>by rw [hu];exact a9c hv.1 hp g v
 have hu0:∀ b∈u,0≤b.v:=fun b hb=>by
  rw [hu] at hb
  obtain ⟨p,hp2,rfl⟩:=List.mem_map.1 hb
  exact hv.2 p (hp.mem_iff.1 hp2)
 obtain ⟨h1,h2⟩:=h.yes (hm u hf) hu0
 refine ⟨h1,?_,fun b hb=>?_⟩
 ·rw [hu,List.map_map]
  exact (hp.map Prod.fst).nodup_iff.2 hv.1
 ·have h3:=h2 b.v (hu0 b hb)
  have e:b5 u b.v=b.t:=by
   unfold b5
   rw [hf]
   rw [hu] at hb
   obtain ⟨p,hp2,rfl⟩:=List.mem_map.1 hb
   show ((n7 vr p.1).map g).getD _=_
   rw [N8 hv.1 (hp.mem_iff.1 hp2)]
   rfl
  rw [e] at h3
  rcases h3 with h3 | h3
  ·rw [h3]
   have hb1:b.v≤9223372036854775807:=by
    rw [hu] at hb
    obtain ⟨p,hp2,rfl⟩:=List.mem_map.1 hb
    exact hvb p (hp.mem_iff.1 hp2)
   have hb0:=hu0 b hb
   exact ⟨a7z (by omega) (by omega),by rw [Tm.size_var (by rw [q6];omega)];decide⟩
  ·exact h3
set_option maxHeartbeats 2000000 in
theorem a2Q (W:World) (l:List (Tm×Tm)) (hl:∀ p∈l,(p.1.rng∧p.1.ok)∧(p.2.rng∧p.2.ok)) (hpl:a8R l≤1000) (r:List Bd×Bool) (hT:ToldU l r):AFun Tryz.prog W 49 [.lst (l.map prv)] (.tup [.lst (r.1.map Bd.cv),.b r.2]):=by
 obtain ⟨k,j,e1,f1,f2⟩:=a9Q l
 have hj:=e1 k (Nat.le_refl _)
 have hja:=a5z k l j hj hl hpl
 refine b6 (rs:=[.lst (r.1.map Bd.cv),.b r.2]) Tryz.func49 Tryz.ntmps49 rfl rfl rfl rfl ?_
 intro w U hW
 refine aS (aR ?_)
 refine nc ze (nc ze ?_)
 refine aS (aR ?_)
 refine nc (z0 (z:=b3t) (G:=fun k v h=>by first | (rw [hW.1] at h;cases h) | (have h2:=hU k v h;cases h2))) ?_
 refine nc ze ?_
 refine aS (aS (aR ?_))
 refine nc zl (nc zl (nc (z0 (z:=hja) (G:=c9 (by first | rfl | kernel_rfl))) (nc zX ?_)))
 cases hj2:j.2 with
 | false =>
  rw [hT.no (f1 hj2)]
  refine aC rfl (fun hc=>?_) (fun hc=>by cases hc)
  refine aS (aR ?_)
  refine nc ze (nc ze ?_)
  exact aT (And.intro (.inr rfl) rfl)
 | true =>
  obtain ⟨cn,od,H,r',e2,g1,g2,g3,ki,hcn,n1,n2⟩:=f2 hj2
  obtain ⟨e3,e4⟩:=e2 k (Nat.le_refl _)
  obtain ⟨E',hI⟩:=a0j l hj (E:=[]) ⟨⟨id,id,Cls.nil,by show 0+b7 _ 0≤_;simp [b7]⟩,(fun x hx=>by cases hx),by show b7 _ 0≤_;simp [b7]⟩ rfl hl (by show b7 _ 0+_≤_;simpa [b7] using hpl) hj2
  have hF:=hI.fitU
  have hu0:usB j.1.ns 0:=fun m=>by rw [b0m hj];exact ⟨Int.le_refl _,Int.le_refl _⟩
  obtain ⟨hF1,hu1,hh1,hhl⟩:=L5 k 0 e3 hF (by simpa using hu0) (by omega) (fun h hm=>by cases hm) (Nat.le_refl _)
  have hF2:=a8o k 0 e4 hF1 (fun h hm=>hh1 h (List.mem_filter.1 hm).1) (by decide) hu1
  have hnsl:od.1.ns.length≤1000:=Nat.le_trans (C2 _) hF2.big
  have hod:∀ x∈od.2,x<od.1.ns.length:=fun x hx=>(ki.hd x hx).1
  have hol:od.2.length≤1000:=Nat.le_trans (a3L _ ki.nd hod) hnsl
  have hor:=b5l k j.1 cn od e3 e4 hF hu0 hol
  have hvr:Q0 od.1.vr:=b5U k 0 e4 (a3Z k 0 e3 (b5u hj ⟨List.nodup_nil,fun p hp=>by cases hp⟩))
  have hvl:=b9a g1 hvr
  have hvb:∀ p∈od.1.vr,p.1≤9223372036854775807:=fun p hp=>by
   obtain ⟨v1,v2⟩:=g1.vrt p.1 p.2 (N8 hvr.1 hp)
   have v3:=((Tm.rng_iff _).1 ((U3 _).1 hF2.trm p.2 v1).1).1
   omega
  refine aC rfl (fun hc=>by cases hc) (fun hc=>aK ?_)
  by_cases h:od.2.length=cn.2.length
  ·have h9:decide ((od.2.length:Int)=cn.2.length)=true:=by rw [h];simp
   rw [h9] at hor
   obtain ⟨k1,tm,e5,c1,c5,c2,hm⟩:=n2 h
   have hFq:=(TI.all (t:=(od.1,List.replicate od.1.ns.length tm0)) (N:=od.1.ns.length) ⟨hF2,by simp,Nat.le_refl _⟩ (fun n hn=>hod n (List.mem_reverse.1 hn)) (e5 k1 (Nat.le_refl _))).1.fit
   have hbi:=b2D k1 od.1 od.2 tm (e5 k1 (Nat.le_refl _)) hF2 c2 hod hol c1 hFq (by rw [c5];exact hvr) (by rw [c5];omega)
   refine aS (aR ?_)
   refine nc zl (nc (z0 (z:=hor) (G:=c9 (by first | rfl | kernel_rfl))) (nc zl (nc zx (nc zx (nc ze (nc ze ?_))))))
   refine aS (aS (aR ?_))
   refine nc zl (nc zX ?_)
   refine aC rfl (fun hc=>by cases hc) (fun hc=>aK ?_)
   refine aS (r8 2 rfl rfl rfl rfl rfl rfl hbi (by kernel_rfl) (fun σ=>by kernel_rfl) (fun σ=>by kernel_rfl) (fun σ=>rfl) (fun σ=>c9 (by kernel_rfl)) ?_)
   refine nc zl (nc zl ?_)
   refine ⟨rfl,⟨rfl,rfl,rfl,rfl,rfl,rfl,rfl,trivial⟩,fun σ hσ=>⟨by kernel_rfl,?_⟩⟩
   obtain ⟨vr',hp,hσ1⟩:=hσ
   rw [c5] at hp
   obtain ⟨t1,t2,t3⟩:=b1M hT hvr hvb hp hσ1 hm
   have hsl:σ.1.length≤1000000:=by rw [hσ1,List.length_map,hp.length_eq];omega
   refine nc (zw (z:=b1S _ σ.1 hsl t2 t3)) (nc ze (nc ze ?_))
   rw [t1]
   exact aT (And.intro (.inr rfl) rfl)
  ·have h9:decide ((od.2.length:Int)=cn.2.length)=false:=by
    rw [decide_eq_false_iff_not]
    omega
   rw [h9] at hor
   rw [hT.no (n1 h)]
   refine aS (aR ?_)
   refine nc zl (nc (z0 (z:=hor) (G:=c9 (by first | rfl | kernel_rfl))) (nc zl (nc zx (nc zx (nc ze (nc ze ?_))))))
   refine aS (aS (aR ?_))
   refine nc zl (nc zX ?_)
   refine aC rfl (fun hc=>?_) (fun hc=>by cases hc)
   refine aS (aR ?_)
   refine nc ze (nc ze ?_)
   exact aT (And.intro (.inr rfl) rfl)
set_option maxHeartbeats 2000000 in
theorem a8K (W:World) (a b:Tm) (ha:a.rng) (hao:a.ok) (hb:b.rng) (hbo:b.ok) (hs:a.size+b.size≤1000) (r:List Bd×Bool) (hT:ToldU [(a,b)] r):AFun Tryz.prog W 27 [a.cw,b.cw] (.tup [.lst (r.1.map Bd.cv),.b r.2]):=by
 have hl:∀ p∈[(a,b)],(p.1.rng∧p.1.ok)∧(p.2.rng∧p.2.ok):=fun p hp=>by
  rw [List.mem_singleton] at hp
  rw [hp]
  exact ⟨⟨ha,hao⟩,hb,hbo⟩
 have hpl:a8R [(a,b)]≤1000:=by unfold a8R;simpa using hs
 have hpa:=a2Q W [(a,b)] hl hpl r hT
 refine b6 (rs:=[.lst (r.1.map Bd.cv),.b r.2]) Tryz.func27 Tryz.ntmps27 rfl rfl rfl rfl ?_
 intro w U hW
 refine aS (aR ?_)
 refine nc zd (nc zd (nc ze (nc ze ?_)))
 refine aS (aR ?_)
 refine nc zy (nc zy (nc (z8 [2,2]) (nc zD (nc (zw (z:=a2Q _ [(a,b)] hl hpl r hT)) (nc zx (nc zx (nc ze (nc ze ?_))))))))
 exact aT (And.intro (.inr rfl) rfl)
end Go.Proofs.YtglmoficcjphaaaGreat
namespace Go.Proofs.YtglmoficcjphaaaGreat
set_option linter.unusedVariables false
set_option linter.unusedSimpArgs false
theorem a1u:∀ E:Nat,2 ^ E≤3 ^ E
 | 0=>Nat.le_refl _
 | E+1=>by
  have:=a1u E
  rw [Nat.pow_succ,Nat.pow_succ];omega
theorem a1X:∀ k:Nat,k*2 ^ k≤3 ^ k
 | 0=>by decide
 | 1=>by decide
 | 2=>by decide
 | k+3=>by
  have h:=a1X (k+2)
  have e1:(k+3)*2 ^ (k+3)=(2*(k+3))*2 ^ (k+2):=by
   rw [Nat.pow_succ 2 (k+2),Nat.mul_comm (2 ^ (k+2)) 2,←Nat.mul_assoc,Nat.mul_comm (k+3) 2]
  have e2:3 ^ (k+3)=3*3 ^ (k+2):=by rw [Nat.pow_succ 3 (k+2),Nat.mul_comm]
  rw [e1,e2]
  have h2:(2*(k+3))*2 ^ (k+2)≤(3*(k+2))*2 ^ (k+2):=Nat.mul_le_mul_right _ (by omega)
  rw [Nat.mul_assoc 3] at h2
  omega
def Big (E s:Nat):Prop:=2 ^ E*(s+1)≤2*3 ^ E
theorem Big.succ {E s:Nat} (h:Big E s):Big (E+1) s:=by
 unfold Big at *
 rw [Nat.pow_succ,Nat.pow_succ,Nat.mul_assoc,Nat.mul_left_comm]
 omega
theorem Big.up {E F s:Nat} (h:Big E s) (hf:E≤F):Big F s:=by
 induction hf with
 | refl=>exact h
 | step _ ih=>exact ih.succ
theorem Big.sum {E:Nat}:∀ (l:List Nat),(∀ s∈l,Big E s)→2 ^ E*(l.sum+l.length)≤2*l.length*3 ^ E
 | [],_=>by simp
 | s::l,h=>by
  have h1:2 ^ E*(s+1)≤2*3 ^ E:=h s (by simp)
  have h2:=Big.sum l fun x hx=>h x (List.mem_cons_of_mem _ hx)
  rw [List.sum_cons,List.length_cons,show s+l.sum+(l.length+1)=(s+1)+(l.sum+l.length) by omega,Nat.mul_add,show 2*(l.length+1)*3 ^ E=2*3 ^ E+2*l.length*3 ^ E by rw [Nat.mul_add,Nat.add_mul,Nat.add_comm]]
  omega
theorem Big.node {E:Nat} (l:List Nat) (h:∀ s∈l,Big E s):Big (E+l.length) (1+l.sum):=by
 have h1:=Big.sum l h
 have h23:=a1u E
 have hk:=a1X l.length
 unfold Big
 rw [Nat.pow_add,Nat.pow_add]
 obtain ⟨A,hA⟩:∃ A,A=2 ^ E:=⟨_,rfl⟩
 obtain ⟨B,hB⟩:∃ B,B=3 ^ E:=⟨_,rfl⟩
 rw [←hA,←hB] at h1 h23 ⊢
 match l,h1,hk with
 | [],h1,hk=>simp;omega
 | [s],h1,hk =>
  simp only [List.sum_cons,List.sum_nil,List.length_cons,List.length_nil,Nat.add_zero,Nat.zero_add,Nat.pow_one,Nat.mul_one] at h1 ⊢
  rw [Nat.mul_comm A 2,Nat.mul_assoc,show A*(1+s+1)=A*(s+1)+A by rw [show 1+s+1=(s+1)+1 by omega,Nat.mul_add,Nat.mul_one]]
  omega
 | s::t::l,h1,hk =>
  obtain ⟨m,hm⟩:∃ m,m=s::t::l:=⟨_,rfl⟩
  have hlen:2≤m.length:=by rw [hm];simp
  rw [←hm] at h1 hk ⊢
  obtain ⟨P,hP⟩:∃ P,P=2 ^ m.length:=⟨_,rfl⟩
  obtain ⟨Q,hQ⟩:∃ Q,Q=3 ^ m.length:=⟨_,rfl⟩
  rw [←hP,←hQ] at hk
  rw [←hP,←hQ]
  have h2:A*(1+m.sum+1)≤A*(m.sum+m.length):=Nat.mul_le_mul_left _ (by omega)
  have h3:A*(1+m.sum+1)≤2*m.length*B:=Nat.le_trans h2 h1
  have h4:P*(A*(1+m.sum+1))≤P*(2*m.length*B):=Nat.mul_le_mul_left _ h3
  have h5:P*(2*m.length*B)=2*(m.length*P*B):=by
   rw [Nat.mul_assoc 2,Nat.mul_left_comm P 2,←Nat.mul_assoc P,Nat.mul_comm P m.length]
  have h6:m.length*P*B≤Q*B:=Nat.mul_le_mul_right _ hk
  rw [show A*P*(1+m.sum+1)=P*(A*(1+m.sum+1)) by rw [Nat.mul_comm A P,Nat.mul_assoc],Nat.mul_comm B Q]
  omega
theorem Mgu.turn {σ:Int→Tm} {a b:Tm} (h:Mgu σ [(a,b)]):Mgu σ [(b,a)]:=h.eqv fun τ=>by rw [C4,C4,eq_comm]
def c2T (k v:Int):Tm:=p5 (if v<k then v else v-k)
theorem b2R {s:List Bd} {E:List (Tm×Tm)} (h:Mgu (b5 s) E) {t:Tm} {u:Int} (hu:u∈(a9 (b5 s) t).vs):b0 (t6 s) u=none:=by
 have hu0:=r6 _ u hu
 rw [b3d s hu0,h.rep_vs hu,if_pos]
 show (decide ((p5 u).f<0)&&decide (-1-(p5 u).f=u))=true
 rw [q6,decide_eq_true (by omega),decide_eq_true (by omega)];rfl
def b7I (S:List Tm):Prop:=∀ s∈S,∀ p∈s.ps,p∈S
def Hits (S:List Tm) (σ:Int→Tm) (t:Tm):Prop:=∃ s∈S,a9 σ t=a9 σ s
def Orig (S:List Tm) (σ:Int→Tm):Prop:=∀ v,0≤v→¬ (σ v).f<0→∃ s∈S,¬ s.f<0∧a9 σ s=σ v
theorem Hits.sym {S:List Tm} {σ:Int→Tm} {t:Tm} (h:Hits S σ t) (ho:Orig S σ) (hb:∀ v,0≤v→(σ v).strip=σ v) (hf:¬ (a9 σ t).f<0):∃ s∈S,¬ s.f<0∧a9 σ t=a9 σ s:=by
 obtain ⟨s,hs,e⟩:=h
 by_cases hs0:s.f<0
 ·have h0:0 ≤ -1-s.f:=by omega
  have e2:a9 σ s=σ (-1-s.f):=by rw [i8 hs0,hb _ h0]
  rw [e,e2] at hf
  obtain ⟨q,hq,hq0,e3⟩:=ho _ h0 hf
  exact ⟨q,hq,hq0,by rw [e,e2,e3]⟩
 ·exact ⟨s,hs,hs0,e⟩
theorem a0e {S:List Tm} {f g:Tm→Nat} (h:∀ x∈S,f x≤g x):(S.map f).sum≤(S.map g).sum:=by
 induction S with
 | nil=>exact Nat.le_refl _
 | cons a S ih =>
  rw [List.map_cons,List.map_cons,List.sum_cons,List.sum_cons]
  have h1:=h a (by simp)
  have h2:=ih fun x hx=>h x (List.mem_cons_of_mem _ hx)
  omega
theorem a7a {S:List Tm} {f g:Tm→Nat} {c:Nat} {s:Tm} (hs:s∈S) (hc:f s+c≤g s) (h:∀ x∈S,f x≤g x):(S.map f).sum+c≤(S.map g).sum:=by
 induction S with
 | nil=>cases hs
 | cons a S ih =>
  rw [List.map_cons,List.map_cons,List.sum_cons,List.sum_cons]
  have h1:=h a (by simp)
  rcases List.mem_cons.1 hs with rfl | hs
  ·have:=a0e (S:=S) fun x hx=>h x (List.mem_cons_of_mem _ hx)
   omega
  ·have:=ih hs fun x hx=>h x (List.mem_cons_of_mem _ hx)
   omega
def arN (S:List Tm) (σ:Int→Tm) (n:Nat):Nat:=(S.map fun s=>if (a9 σ s).size≤n then s.ps.length else 0).sum
theorem b3A {S:List Tm} {σ:Int→Tm} {n m:Nat} (h:n≤m):arN S σ n≤arN S σ m:=a0e fun x _=>by
 split
 ·rw [if_pos (by omega)];exact Nat.le_refl _
 ·exact Nat.zero_le _
theorem Big.one (E:Nat):Big E 1:=by
 unfold Big
 have:=a1u E
 omega
theorem b6D {S:List Tm} {σ:Int→Tm} (hc:b7I S) (ho:Orig S σ) (hb:∀ v,0≤v→(σ v).strip=σ v):∀ (n:Nat),∀ s∈S,¬ s.f<0→(a9 σ s).size≤n→Big (arN S σ n) (a9 σ s).size:=by
 intro n
 induction n with
 | zero=>intro s _ _ h;have:=Tm.size_pos (a9 σ s);omega
 | succ n ih =>
  intro s hs hf hn
  by_cases hle:(a9 σ s).size≤n
  ·exact (ih s hs hf hle).up (b3A (by omega))
  have hsz:(a9 σ s).size=n+1:=by omega
  have hps:s.ps=s.l:=Tm.ps_of_sym (by omega)
  have he:a9 σ s=⟨s.f,s.l.map (a9 σ)⟩:=d8 hf
  have h1:(a9 σ s).size=1+((s.l.map (a9 σ)).map Tm.size).sum:=by rw [he];exact Tm.size_sym (t:=⟨s.f,s.l.map (a9 σ)⟩) hf
  have hparts:∀ x∈(s.l.map (a9 σ)).map Tm.size,Big (arN S σ n) x:=by
   intro x hx
   rw [List.map_map] at hx
   obtain ⟨p,hp,rfl⟩:=List.mem_map.1 hx
   show Big _ (a9 σ p).size
   have hpS:p∈S:=hc s hs p (by rw [hps];exact hp)
   have hlt:(a9 σ p).size<(a9 σ s).size:=Tm.size_part (by rw [he,Tm.ps_of_sym (by show 0≤s.f;omega)];exact List.mem_map.2 ⟨p,hp,rfl⟩)
   by_cases hv:(a9 σ p).f<0
   ·rw [Tm.size_var hv];exact Big.one _
   ·obtain ⟨q,hq,hq0,e⟩:=Hits.sym ⟨p,hpS,rfl⟩ ho hb hv
    rw [e] at hlt ⊢
    exact ih q hq hq0 (by omega)
  have h2:=Big.node _ hparts
  rw [←h1] at h2
  refine h2.up ?_
  rw [List.length_map,List.length_map]
  refine a7a hs ?_ fun x _=>?_
  ·rw [if_neg (by omega),if_pos (by omega),hps];omega
  ·split
   ·rw [if_pos (by omega)];exact Nat.le_refl _
   ·exact Nat.zero_le _
def arA (S:List Tm):Nat:=(S.map fun s=>s.ps.length).sum
theorem a0U {S:List Tm} {σ:Int→Tm} (hc:b7I S) (ho:Orig S σ) (hb:∀ v,0≤v→(σ v).strip=σ v) {t:Tm} (h:Hits S σ t):Big (arA S) (a9 σ t).size:=by
 by_cases hv:(a9 σ t).f<0
 ·rw [Tm.size_var hv];exact Big.one _
 ·obtain ⟨q,hq,hq0,e⟩:=h.sym ho hb hv
  rw [e]
  refine (b6D hc ho hb _ q hq hq0 (Nat.le_refl _)).up (a0e fun x _=>?_)
  split
  ·exact Nat.le_refl _
  ·exact Nat.zero_le _
theorem a2x (S T:List Tm):arA (S++T)=arA S+arA T:=by unfold arA;rw [List.map_append,List.sum_append]
theorem a0O (t:Tm):arA t.flat+1=t.size:=by
 induction t using Tm.indp with
 | h t ih =>
  have:∀ l:List Tm,(∀ s∈l,arA s.flat+1=s.size)→arA (l.flatMap Tm.flat)+l.length=(l.flatMap Tm.flat).length:=by
   intro l
   induction l with
   | nil=>intro _;rfl
   | cons a l ih2 =>
    intro h
    have h1:=h a (by simp)
    have h2:=ih2 fun s hs=>h s (List.mem_cons_of_mem _ hs)
    unfold Tm.size at h1
    rw [List.flatMap_cons,a2x,List.length_append,List.length_cons]
    omega
  have h3:=this t.ps ih
  rw [Tm.size_eq,Tm.flat_eq]
  show ((t::t.ps.flatMap Tm.flat).map fun s:Tm=>s.ps.length).sum+1=_
  rw [List.map_cons,List.sum_cons]
  have h4:arA (t.ps.flatMap Tm.flat)=((t.ps.flatMap Tm.flat).map fun s:Tm=>s.ps.length).sum:=rfl
  omega
theorem a4F (t:Tm):b7I t.flat:=by
 induction t using Tm.indp with
 | h t ih =>
  intro s hs p hp
  rw [Tm.flat_eq] at hs ⊢
  rcases List.mem_cons.1 hs with rfl | hs
  ·refine List.mem_cons_of_mem _ (List.mem_flatMap.2 ⟨p,hp,?_⟩)
   rw [Tm.flat_eq];simp
  ·obtain ⟨q,hq,hs⟩:=List.mem_flatMap.1 hs
   exact List.mem_cons_of_mem _ (List.mem_flatMap.2 ⟨q,hq,ih q hq s hs p hp⟩)
def H7 (l:List (Tm×Tm)):List Tm:=l.flatMap fun p=>p.1.flat++p.2.flat
theorem V9 (l:List (Tm×Tm)):b7I (H7 l):=by
 intro s hs p hp
 obtain ⟨q,hq,hs⟩:=List.mem_flatMap.1 hs
 refine List.mem_flatMap.2 ⟨q,hq,?_⟩
 rcases List.mem_append.1 hs with hs | hs
 ·exact List.mem_append_left _ (a4F _ s hs p hp)
 ·exact List.mem_append_right _ (a4F _ s hs p hp)
theorem a7Q {l:List (Tm×Tm)} {p:Tm×Tm} (h:p∈l):p.1∈H7 l∧p.2∈H7 l:=by
 refine ⟨List.mem_flatMap.2 ⟨p,h,List.mem_append_left _ ?_⟩,List.mem_flatMap.2 ⟨p,h,List.mem_append_right _ ?_⟩⟩<;>(rw [Tm.flat_eq];simp)
theorem a6k:∀ l:List (Tm×Tm),(∀ p∈l,p.1.size≤16∧p.2.size≤16)→arA (H7 l)≤30*l.length
 | [],_=>Nat.le_refl _
 | p::l,h=>by
  have h1:=h p (by simp)
  have h2:=a6k l fun q hq=>h q (List.mem_cons_of_mem _ hq)
  have e:H7 (p::l)=(p.1.flat++p.2.flat)++H7 l:=List.flatMap_cons
  have h3:=a0O p.1
  have h4:=a0O p.2
  rw [e,a2x,a2x,List.length_cons]
  omega
theorem a9Z {s E:Nat} (hE:E≤60) (h:Big E s):s≤90000000000:=by
 have h:=h.up hE
 unfold Big at h
 have e1:(2:Nat) ^ 60=1152921504606846976:=by decide
 have e2:(3:Nat) ^ 60=42391158275216203514294433201:=by decide
 rw [e1,e2] at h
 omega
structure a6B (V:List Int) (S:List Tm) (K:Nat) (s:List Bd) (E:List (Tm×Tm)):Prop where
 mgu:Mgu (b5 s) E
 bare:K1 s
 inV:inV V s
 orig:Orig S (b5 s)
 len:s.length+frN V s≤K
 num:∀ b∈s,b.v∈V
theorem b7Z {V:List Int} (hV:∀ v∈V,0≤v) {n:Nat} {s:List Bd} {a b:Tm} {E:List (Tm×Tm)} {r} (e:rU n s a b=some r) (hm:Mgu (b5 s) E) (hb:K1 s) (hi:inV V s) (ha:∀ u∈a.vs,u∈V) (hbv:∀ u∈b.vs,u∈V):RSpec V E [(a,b)] s r:=by
 obtain ⟨m,r',e',h⟩:=b0H hV _ _ s a b E rfl rfl hm hb hi ha hbv
 have h1:=a6H (Nat.le_max_left n m) _ _ _ _ e
 have h2:=a6H (Nat.le_max_right n m) _ _ _ _ e'
 rw [h1] at h2
 cases h2
 exact h
theorem b7D (s:List Bd) (x:Int) (t:Tm):(a4h s x t).length=s.length+1:=by unfold a4h;simp
theorem Orig.bnd {S:List Tm} {s:List Bd} (ho:Orig S (b5 s)) (hb:K1 s) {x:Int} {b:Tm} (hin:x∉(a9 (b5 s) b).vs) (hh:Hits S (b5 s) b):Orig S (b5 (a4h s x (a9 (b5 s) b))):=by
 have hB:(a9 (b5 s) b).strip=a9 (b5 s) b:=x0 _ _
 have hr:∀ t,a9 (b5 (a4h s x (a9 (b5 s) b))) t=a9 (S3 x (a9 (b5 s) b)) (a9 (b5 s) t):=fun t=>by
  rw [a3t]
  exact V1 fun v hv=>a1e hB (r6 _ v hv)
 intro v hv hf
 rw [a1e hB hv] at hf ⊢
 by_cases h1:(b5 s v).f<0
 ·obtain ⟨w,hw⟩:∃ w,w = -1-(b5 s v).f:=⟨_,rfl⟩
  have e1:a9 (S3 x (a9 (b5 s) b)) (b5 s v)=(S3 x (a9 (b5 s) b) w).strip:=by rw [i8 h1,hw]
  rw [e1] at hf ⊢
  unfold S3 at hf ⊢
  by_cases hx:w=x
  ·rw [if_pos hx,hB] at hf ⊢
   obtain ⟨q,hq,hq0,e⟩:=hh.sym ho (fun v hv=>K8 hb v) hf
   refine ⟨q,hq,hq0,?_⟩
   rw [hr,←e,b0Q hin,hB]
  ·rw [if_neg hx,y5,q6] at hf
   omega
 ·obtain ⟨q,hq,hq0,e⟩:=ho v hv h1
  exact ⟨q,hq,hq0,by rw [hr,e]⟩
structure Way (V:List Int) (S:List Tm) (s:List Bd) (a:Tm):Prop where
 vs:∀ u∈a.vs,u∈V
 hits:Hits S (b5 s) a
theorem b7u {V:List Int} {s:List Bd} {x:Int} {t:Tm} (h:∀ b∈s,b.v∈V) (hx:x∈V):∀ b∈a4h s x t,b.v∈V:=fun b hb=>by
 rcases List.mem_append.1 hb with hb | hb
 ·obtain ⟨c,hc,rfl⟩:=List.mem_map.1 hb;exact h c hc
 ·rw [List.mem_singleton] at hb;rw [hb];exact hx
theorem b3Y {V:List Int} (hV:∀ v∈V,0≤v) {S:List Tm} {K n:Nat} {s:List Bd} {E:List (Tm×Tm)} (h:a6B V S K s E) {a b a1 b1:Tm} (ha1:a1=a9 (b5 s) a) (hb1:b1=a9 (b5 s) b) (ha:Way V S s a) (hb:Way V S s b) (hf:a1.f<0) {s':List Bd} (hr:a1M (rU n) s a1 b1=some (some s')):Orig S (b5 s')∧s'.length=s.length+1∧∀ b∈s',b.v∈V:=by
 unfold a1M at hr
 rw [if_pos hf] at hr
 split at hr
 ·cases hr
 ·rename_i hin
  cases hr
  have hx : -1-a1.f∈V:=R3 h.inV ha.vs _ (by rw [←ha1,Tm.vs_var hf];simp)
  rw [hb1] at hin ⊢
  exact ⟨h.orig.bnd h.bare hin hb.hits,b7D _ _ _,b7u h.num hx⟩
end Go.Proofs.YtglmoficcjphaaaGreat
namespace Go.Proofs.YtglmoficcjphaaaGreat
open Go.RowKit
set_option linter.unusedVariables false
set_option linter.unusedSimpArgs false
set_option maxRecDepth 100000
def c0Y:List Bd→List Bd→Bool
 | [],[]=>true
 | a::l,b::m=>decide (a.v=b.v)&&(B0 a.t b.t&&c0Y l m)
 | _,_=>false
def b6c (v:Int):List Bd→Nat
 | []=>0
 | b::l=>if b.v<v then b6c v l+1 else 0
def c2y (b:Bd) (l:List Bd):List Bd:=l.take (b6c b.v l)++[b]++l.drop (b6c b.v l)
def b9v (L:List Bd) (i:Nat) (v:Int):Bool:=(L.take i).any fun c=>decide (c.v=v)
def b9Z (L:List Bd):Nat→List Bd
 | 0=>[]
 | i+1=>match L[i]? with
  | none=>b9Z L i
  | some b=>if b9v L i b.v||Q3 b then b9Z L i else c2y b (b9Z L i)
theorem a3G {l:List Bd} {t:Tm} (h:t.rng) (hi:∀ b∈l,b.t.rng):(l7 l t).rng:=by
 induction t using Tm.ind with
 | h f k ih =>
  obtain ⟨h1,h2⟩:=(Tm.rng_iff _).1 h
  simp only at h1 h2
  by_cases hf:f<0
  ·rw [a3Q hf]
   unfold b5
   cases hb:b0 l (-1-(Tm.mk f k).f) with
   | none =>
    show (p5 (-1-f)).rng
    exact a7z (by omega) (by omega)
   | some t =>
    obtain ⟨b,hbm,e,_⟩:=G4 hb
    show t.rng
    rw [←e];exact hi b hbm
  ·rw [a3N hf]
   refine (Tm.rng_iff _).2 ⟨h1,fun s hs=>?_⟩
   obtain ⟨u,hu,rfl⟩:=List.mem_map.1 hs
   exact ih u hu (h2 u hu)
def b3j (g:List Bd→Tm→Tm→Option (Option (List Bd))) (C:List Bd→Tm→Tm→Prop):List (Tm×Tm)→List Bd→Prop
 | [],_=>True
 | p::ps,s=>C s p.1 p.2∧∀ s',g s p.1 p.2=some (some s')→b3j g C ps s'
def Cnd:Nat→List Bd→Tm→Tm→Prop
 | 0,_,_,_=>True
 | n+1,s,a,b=>(s.length≤100000∧∀ x∈s,x.t.rng∧x.t.ok)∧(a.rng∧a.ok∧b.rng∧b.ok)∧((l7 s a).size≤90000000000∧(l7 s b).size≤90000000000)∧∀ a2 b2:Tm,a2=(if swC (l7 s a) (l7 s b) then l7 s b else l7 s a)→b2=(if swC (l7 s a) (l7 s b) then l7 s a else l7 s b)→¬ a2.f<0→a2.f=b2.f→a2.l.length=b2.l.length→b3j (rU n) (Cnd n) (a2.l.zip b2.l) s
end Go.Proofs.YtglmoficcjphaaaGreat
namespace Go.Proofs.YtglmoficcjphaaaGreat
open Go.RowKit
set_option linter.unusedVariables false
set_option linter.unusedSimpArgs false
def R9 (s:List Bd):Prop:=∀ x∈s,x.t.rng∧x.t.ok
theorem b9b {s:List Bd} {x:Int} {t:Tm} (h:R9 s) (ht:t.rng∧t.ok):R9 (a4h s x t):=fun y hy=>by
 have h1:R9 [⟨x,t⟩]:=fun b hb=>by rw [List.mem_singleton] at hb;rw [hb];exact ht
 rcases List.mem_append.1 hy with hy | hy
 ·obtain ⟨c,hc,rfl⟩:=List.mem_map.1 hy
  exact ⟨a3G (h c hc).1 fun b hb=>(h1 b hb).1,a6e (h c hc).2 fun b hb=>(h1 b hb).2⟩
 ·exact h1 y hy
theorem b8S {V:List Int} {K:Nat} {s s':List Bd} (h:s.length+frN V s≤K) (hl:s'.length=s.length+1) (hd:s'=s∨frN V s'<frN V s):s'.length+frN V s'≤K:=by
 rcases hd with rfl | hd
 ·omega
 ·omega
section
variable {V:List Int} {S:List Tm} {K:Nat}
theorem a2B (hV:∀ v∈V,0≤v) {n:Nat} {E:List (Tm×Tm)} (ih:∀ (s:List Bd) (a b:Tm) (E:List (Tm×Tm)),a6B V S K s E→R9 s→Way V S s a→Way V S s b→(a.rng∧a.ok)→(b.rng∧b.ok)→Cnd n s a b∧∀ s',rU n s a b=some (some s')→a6B V S K s' (E++[(a,b)])∧R9 s'):∀ (ps:List (Tm×Tm)) (s:List Bd) (F:List (Tm×Tm)),a6B V S K s (E++F)→R9 s→(∀ p∈ps,(∀ (s1:List Bd) F1,Mgu (b5 s1) (E++F1)→Way V S s1 p.1∧Way V S s1 p.2)∧(p.1.rng∧p.1.ok)∧(p.2.rng∧p.2.ok))→b3j (rU n) (Cnd n) ps s∧∀ s',rUs (rU n) ps s=some (some s')→a6B V S K s' (E++F++ps)∧R9 s'
 | [],s,F,hm,hr,_=>⟨trivial,fun s' e=>by cases e;rw [List.append_nil];exact ⟨hm,hr⟩⟩
 | p::ps,s,F,hm,hr,hp=>by
  obtain ⟨h1,h2,h3⟩:=hp p (by simp)
  obtain ⟨w1,w2⟩:=h1 s F hm.mgu
  obtain ⟨c1,c2⟩:=ih s p.1 p.2 (E++F) hm hr w1 w2 h2 h3
  have next:∀ s1,rU n s p.1 p.2=some (some s1)→b3j (rU n) (Cnd n) ps s1∧∀ s',rUs (rU n) ps s1=some (some s')→a6B V S K s' (E++F++p::ps)∧R9 s':=fun s1 e=>by
   obtain ⟨m1,m2⟩:=c2 s1 e
   have e3:E++F++[(p.1,p.2)]=E++(F++[p]):=by rw [List.append_assoc]
   rw [e3] at m1
   have:=a2B hV ih ps s1 (F++[p]) m1 m2 fun q hq=>hp q (List.mem_cons_of_mem _ hq)
   rw [show E++(F++[p])++ps=E++F++p::ps by simp] at this
   exact this
  refine ⟨⟨c1,fun s1 e=>(next s1 e).1⟩,fun s' e=>?_⟩
  rw [rUs] at e
  cases hg:rU n s p.1 p.2 with
  | none=>rw [hg] at e;cases e
  | some q =>
   rw [hg] at e
   cases q with
   | none=>cases e
   | some s1=>exact (next s1 hg).2 s' e
theorem b5Q (hV:∀ v∈V,0≤v) (hc:b7I S) (hK:K≤100000) (hE:arA S≤60):∀ (n:Nat) (s:List Bd) (a b:Tm) (E:List (Tm×Tm)),a6B V S K s E→R9 s→Way V S s a→Way V S s b→(a.rng∧a.ok)→(b.rng∧b.ok)→Cnd n s a b∧∀ s',rU n s a b=some (some s')→a6B V S K s' (E++[(a,b)])∧R9 s':=by
 intro n
 induction n with
 | zero=>intro s a b E _ _ _ _ _ _;exact ⟨trivial,fun s' e=>by cases e⟩
 | succ n ih =>
  intro s a b E hm hr wa wb ha hb
  have ea:l7 s a=a9 (b5 s) a:=n6 hm.bare a
  have eb:l7 s b=a9 (b5 s) b:=n6 hm.bare b
  have hbare:∀ v,0≤v→(b5 s v).strip=b5 s v:=fun v _=>K8 hm.bare v
  have za:(l7 s a).size≤90000000000:=by rw [ea];exact a9Z hE (a0U hc hm.orig hbare wa.hits)
  have zb:(l7 s b).size≤90000000000:=by rw [eb];exact a9Z hE (a0U hc hm.orig hbare wb.hits)
  have ra:(l7 s a).rng∧(l7 s a).ok:=⟨a3G ha.1 fun x hx=>(hr x hx).1,a6e ha.2 fun x hx=>(hr x hx).2⟩
  have rb:(l7 s b).rng∧(l7 s b).ok:=⟨a3G hb.1 fun x hx=>(hr x hx).1,a6e hb.2 fun x hx=>(hr x hx).2⟩
  have part:∀ c:Tm,Way V S s c→(l7 s c).rng∧(l7 s c).ok→¬ (l7 s c).f<0→∀ p∈(l7 s c).l,(∀ (s1:List Bd) F1,Mgu (b5 s1) (E++F1)→Way V S s1 p)∧p.rng∧p.ok:=by
   intro c wc hcr hcf p hp
   have ec:l7 s c=a9 (b5 s) c:=n6 hm.bare c
   refine ⟨fun s1 F1 h1=>?_,((Tm.rng_iff _).1 hcr.1).2 p hp,((Tm.ok_iff _).1 hcr.2).2 p hp⟩
   have hu:uni (b5 s1) E:=(B1.1 h1.uni).1
   refine ⟨fun u hu=>R3 hm.inV wc.vs u ?_,?_⟩
   ·rw [←ec,Tm.vs_sym hcf];exact List.mem_flatMap.2 ⟨p,hp,hu⟩
   ·rw [ec] at hcf hp
    obtain ⟨q,hq,hq0,e⟩:=wc.hits.sym hm.orig hbare hcf
    rw [e,d8 hq0] at hp
    obtain ⟨q2,hq2,rfl⟩:=List.mem_map.1 hp
    exact ⟨q2,hc q hq q2 (by rw [Tm.ps_of_sym (by omega)];exact hq2),hm.mgu.rep hu q2⟩
  have list:∀ c d:Tm,Way V S s c→Way V S s d→(l7 s c).rng∧(l7 s c).ok→(l7 s d).rng∧(l7 s d).ok→¬ (l7 s c).f<0→(l7 s c).f=(l7 s d).f→b3j (rU n) (Cnd n) ((l7 s c).l.zip (l7 s d).l) s∧∀ s',rUs (rU n) ((l7 s c).l.zip (l7 s d).l) s=some (some s')→a6B V S K s' (E++[]++(l7 s c).l.zip (l7 s d).l)∧R9 s':=by
   intro c d wc wd hcr hdr hcf hfe
   refine a2B hV ih _ s [] (by rw [List.append_nil];exact hm) hr fun p hp=>?_
   obtain ⟨p1,p2⟩:=List.of_mem_zip (a:=p.1) (b:=p.2) hp
   obtain ⟨a1,a2⟩:=part c wc hcr hcf _ p1
   obtain ⟨b1,b2⟩:=part d wd hdr (by rw [←hfe];exact hcf) _ p2
   exact ⟨fun s1 F1 h1=>⟨a1 s1 F1 h1,b1 s1 F1 h1⟩,a2,b2⟩
  refine ⟨⟨⟨by have:=hm.len;omega,hr⟩,⟨ha.1,ha.2,hb.1,hb.2⟩,⟨za,zb⟩,?_⟩,fun s' e=>?_⟩
  ·intro a2 b2 e1 e2 hf hff hll
   split at e1
   ·rename_i hs
    rw [if_pos hs] at e2
    subst e1 e2
    exact (list b a wb wa rb ra hf hff).1
   ·rename_i hs
    rw [if_neg hs] at e2
    subst e1 e2
    exact (list a b wa wb ra rb hf hff).1
  ·have hsp:=b7Z hV e hm.mgu hm.bare hm.inV wa.vs wb.vs
   obtain ⟨q1,q2,q3,q4⟩:=hsp
   have go:∀ c d:Tm,Way V S s c→Way V S s d→(l7 s c).rng∧(l7 s c).ok→(l7 s d).rng∧(l7 s d).ok→a1M (rU n) s (l7 s c) (l7 s d)=some (some s')→(Orig S (b5 s')∧s'.length+frN V s'≤K∧∀ b∈s',b.v∈V)∧R9 s':=by
    intro c d wc wd hcr hdr e
    by_cases hf:(l7 s c).f<0
    ·obtain ⟨o1,o2,o3⟩:=b3Y hV hm (n6 hm.bare c) (n6 hm.bare d) wc wd hf e
     refine ⟨⟨o1,b8S hm.len o2 q4,o3⟩,?_⟩
     unfold a1M at e
     rw [if_pos hf] at e
     split at e
     ·cases e
     ·cases e;exact b9b hr hdr
    ·unfold a1M at e
     rw [if_neg hf] at e
     split at e
     ·cases e
     ·rename_i hne
      obtain ⟨m1,m2⟩:=(list c d wc wd hcr hdr hf (Decidable.byContradiction fun h=>hne (.inl h))).2 s' e
      exact ⟨⟨m1.orig,m1.len,m1.num⟩,m2⟩
   rw [rU] at e
   split at e
   ·cases e;exact ⟨⟨q1,q2,q3,hm.orig,hm.len,hm.num⟩,hr⟩
   ·split at e
    ·obtain ⟨⟨o1,o2,o4⟩,o3⟩:=go b a wb wa rb ra e
     exact ⟨⟨q1,q2,q3,o1,o2,o4⟩,o3⟩
    ·obtain ⟨⟨o1,o2,o4⟩,o3⟩:=go a b wa wb ra rb e
     exact ⟨⟨q1,q2,q3,o1,o2,o4⟩,o3⟩
end
def a6J (l:List (Tm×Tm)):Prop:=∀ p∈l,((p.1.rng∧p.1.ok)∧p.1.size≤16)∧((p.2.rng∧p.2.ok)∧p.2.size≤16)
def F2 (l:List (Tm×Tm)):List Int:=l.flatMap fun p=>p.1.vs++p.2.vs
theorem a7D {V:List Int} (p:Int→Bool):(V.filter p).length≤V.length:=List.length_filter_le _ _
theorem b0S (t:Tm):t.vs.length≤t.size:=by
 unfold Tm.vs Tm.size vsL
 rw [List.length_map]
 exact List.length_filter_le _ _
theorem a1r:∀ l:List (Tm×Tm),a6J l→(F2 l).length≤32*l.length
 | [],_=>Nat.le_refl _
 | p::l,h=>by
  have h1:=h p (by simp)
  have h2:=a1r l fun q hq=>h q (List.mem_cons_of_mem _ hq)
  have e:F2 (p::l)=(p.1.vs++p.2.vs)++F2 l:=List.flatMap_cons
  have h3:=b0S p.1
  have h4:=b0S p.2
  rw [e,List.length_append,List.length_append,List.length_cons]
  omega
theorem b6T (l:List (Tm×Tm)) (hl:l.length≤2) (ht:a6J l):∃ n r,rUs (rU n) l []=some r∧b3j (rU n) (Cnd n) l []∧(r=none→∀ τ,¬ uni τ l)∧∀ s,r=some s→Mgu (b5 s) l∧K1 s∧inV (F2 l) s∧R9 s∧(∀ b∈s,0≤b.v)∧s.length≤64∧(∀ b∈s,b.v∈F2 l)∧(∀ t,(∃ q∈H7 l,t=q)→(a9 (b5 s) t).size≤90000000000)∧∀ v,0≤v→b5 s v=p5 v∨((b5 s v).rng∧(b5 s v).size≤90000000000):=by
 have hV:∀ v∈F2 l,0≤v:=fun v hv=>by
  obtain ⟨p,_,hv⟩:=List.mem_flatMap.1 hv
  rcases List.mem_append.1 hv with hv | hv<;>exact r6 _ v hv
 have hsub:∀ p∈l,(∀ u∈p.1.vs,u∈F2 l)∧∀ u∈p.2.vs,u∈F2 l:=fun p hp=>⟨fun u hu=>List.mem_flatMap.2 ⟨p,hp,List.mem_append_left _ hu⟩,fun u hu=>List.mem_flatMap.2 ⟨p,hp,List.mem_append_right _ hu⟩⟩
 have h0:Mgu (b5 []) []:=Mgu.nil
 obtain ⟨n,r,e,g1,g2⟩:=a1q hV l [] [] h0 (fun b hb=>by cases hb) (fun b hb=>by cases hb) hsub
 rw [List.nil_append] at g1 g2
 have hE:arA (H7 l)≤60:=by
  have:=a6k l fun p hp=>⟨(ht p hp).1.2,(ht p hp).2.2⟩
  omega
 have hvl:=a1r l ht
 have hmid0:a6B (F2 l) (H7 l) 64 [] ([]++[]):=⟨h0,(fun b hb=>by cases hb),(fun b hb=>by cases hb),(fun v hv hf=>by exfalso;apply hf;show (p5 v).f<0;rw [q6];omega),by
  have:frN (F2 l) []≤(F2 l).length:=a7D _
  show 0+_≤64
  omega,fun b hb=>by cases hb⟩
 obtain ⟨c1,c2⟩:=a2B (V:=F2 l) (S:=H7 l) (K:=64) (E:=[]) hV (b5Q hV (V9 l) (by decide) hE n) l [] [] hmid0 (fun b hb=>by cases hb) fun p hp=>by
  obtain ⟨s1,s2⟩:=a7Q hp
  exact ⟨fun s1' F1 h1=>⟨⟨(hsub p hp).1,p.1,s1,rfl⟩,⟨(hsub p hp).2,p.2,s2,rfl⟩⟩,(ht p hp).1.1,(ht p hp).2.1⟩
 refine ⟨n,r,e,c1,g1,fun s hs=>?_⟩
 obtain ⟨k1,k2,k3⟩:=g2 s hs
 rw [hs] at e
 obtain ⟨m1,m2⟩:=c2 s e
 have hbare:∀ v,0≤v→(b5 s v).strip=b5 s v:=fun v _=>K8 k2 v
 have hbig:∀ q∈H7 l,(a9 (b5 s) q).size≤90000000000:=fun q hq=>a9Z hE (a0U (V9 l) m1.orig hbare ⟨q,hq,rfl⟩)
 refine ⟨k1,k2,k3,m2,a5P (b5I n) l [] s e (fun b hb=>by cases hb),by have:=m1.len;omega,m1.num,fun t ⟨q,hq,e⟩=>by rw [e];exact hbig q hq,fun v hv=>?_⟩
 by_cases hf:(b5 s v).f<0
 ·unfold b5 at hf ⊢
  cases hfd:b0 s v with
  | none=>exact .inl rfl
  | some t =>
   right
   rw [hfd] at hf
   obtain ⟨b,hbm,e1,_⟩:=G4 hfd
   refine ⟨by show t.rng;rw [←e1];exact (m2 b hbm).1,?_⟩
   show t.size≤_
   rw [Tm.size_var (show t.f<0 from hf)]
   decide
 ·right
  obtain ⟨q,hq,hq0,e1⟩:=m1.orig v hv hf
  refine ⟨?_,by rw [←e1];exact hbig q hq⟩
  unfold b5 at hf ⊢
  cases hfd:b0 s v with
  | none=>rw [hfd] at hf;exact absurd (show (p5 v).f<0 by rw [q6];omega) hf
  | some t =>
   obtain ⟨b,hbm,e2,_⟩:=G4 hfd
   show t.rng
   rw [←e2];exact (m2 b hbm).1
end Go.Proofs.YtglmoficcjphaaaGreat
namespace Go.Proofs.YtglmoficcjphaaaGreat
open Go.RowKit
set_option linter.unusedVariables false
set_option linter.unusedSimpArgs false
set_option maxRecDepth 100000
theorem b9M (t:Tm):t.nv.length≤t.size:=by
 have h:∀ l:List Int,(nub l).length≤l.length:=by
  intro l
  induction l using b3Z with
  | h0=>exact Nat.le_refl _
  | h1 l x ih=>rw [b4Z];split<;>simp<;>omega
 refine Nat.le_trans (h t.vs) ?_
 unfold Tm.vs vsL Tm.size
 rw [List.length_map]
 exact List.length_filter_le _ _
theorem b8b {a b:List Int} {x:Bd} (h:x∈b3q a b):∃ u∈b,x.t=p5 u:=by
 unfold b3q at h
 obtain ⟨i,hi,e⟩:=List.mem_iff_getElem.1 h
 rw [List.getElem_zipWith] at e
 exact ⟨_,List.getElem_mem _,by rw [←e]⟩
def c1V (p q:List Bd) (l:List Int):Bool:=l.all fun v=>B0 (b5 p v) (b5 q v)
theorem W8 {σ σ':Int→Tm} (h:∀ v,0≤v→σ' v=σ v) (t:Tm):a9 σ' t=a9 σ t:=V1 fun v hv=>h v (r6 _ v hv)
theorem Mgu.congr {σ σ':Int→Tm} {E:List (Tm×Tm)} (hm:Mgu σ E) (h:∀ v,0≤v→σ' v=σ v):Mgu σ' E:=
 ⟨fun p hp=>by rw [W8 h,W8 h];exact hm.uni p hp,fun v hv=>by rw [h v hv];exact hm.bare v hv,fun v hv u hu=>by
  rw [h v hv] at hu
  rw [h u (r6 _ u hu)];exact hm.idem v hv u hu,fun τ ht v hv=>by rw [h v hv];exact hm.most τ ht v hv,fun v hv hf=>by
  rw [h v hv] at hf ⊢;exact hm.low v hv hf⟩
theorem b2p {s:List Bd} (hb:K1 s) {v:Int} (hv:0≤v):b5 (t6 s) v=b5 s v:=by
 have h1:=b3d s hv
 have h2:b5 (t6 s) v=(b0 (t6 s) v).getD (p5 v):=rfl
 rw [h2,h1]
 split
 ·rename_i hi
  have hi:(decide ((b5 s v).f<0)&&decide (-1-(b5 s v).f=v))=true:=hi
  rw [Bool.and_eq_true,decide_eq_true_eq,decide_eq_true_eq] at hi
  show p5 v=_
  rw [a0x (K8 hb v) hi.1,hi.2]
 ·exact K8 hb v
structure Tells8 (l:List (Tm×Tm)) (r:List Bd×Bool):Prop where
 told:ToldU l r
 yes:r.2=true→Mgu (b5 r.1) l
 no:r.2=false→r.1=[]∧∀ τ,¬ uni τ l
 len:r.1.length≤64
 ok:∀ b∈r.1,(b.t.rng∧b.t.size≤90000000000)∧b.t.ok
 bare:K1 r.1
 inV:∀ b∈r.1,b.v∈F2 l∧∀ u∈b.t.vs,u∈F2 l
 srt:r.1.Pairwise (fun x y=>x.v<y.v)
 free:∀ t u,u∈(a9 (b5 r.1) t).vs→b0 r.1 u=none
 big:∀ q∈H7 l,(a9 (b5 r.1) q).size≤90000000000
theorem b1K {l:List (Tm×Tm)} (ht:a6J l):∀ q∈H7 l,q.size≤16:=fun q hq=>by
 have key:∀ t:Tm,∀ q∈t.flat,q.size≤t.size:=by
  intro t
  induction t using Tm.indp with
  | h t ih =>
   intro q hq
   rw [Tm.flat_eq] at hq
   rcases List.mem_cons.1 hq with rfl | hq
   ·exact Nat.le_refl _
   ·obtain ⟨p,hp,hq⟩:=List.mem_flatMap.1 hq
    have:=ih p hp q hq
    have:=Tm.size_part hp
    omega
 obtain ⟨p,hp,hq⟩:=List.mem_flatMap.1 hq
 rcases List.mem_append.1 hq with hq | hq
 ·exact Nat.le_trans (key _ q hq) (ht p hp).1.2
 ·exact Nat.le_trans (key _ q hq) (ht p hp).2.2
theorem b6j {l:List (Tm×Tm)} (hl:l.length≤2) (ht:a6J l):∃ n r,rUs (rU n) l []=some r∧b3j (rU n) (Cnd n) l []∧(∀ s,r=some s→s.length≤1000∧∀ b∈s,b.t.rng∧b.t.ok)∧Tells8 l ((r.map t6).getD [],r.isSome):=by
 obtain ⟨n,r,e,hC,h1,h2⟩:=b6T l hl ht
 refine ⟨n,r,e,hC,fun s hs=>?_,?_⟩
 ·obtain ⟨_,_,_,m4,_,m6,_⟩:=h2 s hs
  exact ⟨by omega,m4⟩
 cases r with
 | none =>
  have hn:=h1 rfl
  have hid:∀ t:Tm,a9 (b5 []) t=t.strip:=fun t=>b0h t
  exact ⟨.inl ⟨rfl,rfl,hn⟩,(fun h=>by cases h),fun _=>⟨rfl,hn⟩,Nat.zero_le _,(fun b hb=>by cases hb),(fun b hb=>by cases hb),(fun b hb=>by cases hb),List.Pairwise.nil,fun t u hu=>rfl,fun q hq=>by
   show (a9 (b5 []) q).size≤_
   rw [hid,Tm.strip_size]
   have:=b1K ht q hq
   omega⟩
 | some s =>
  obtain ⟨m1,m2,m3,m4,m5,m6,m7,m8,m9⟩:=h2 s rfl
  have hi:∀ v,0≤v→b5 (t6 s) v=b5 s v:=fun v hv=>b2p m2 hv
  have hbs:∀ b∈t6 s,∃ c∈s,b.v=c.v∧b.t=c.t:=fun b hb=>by
   unfold t6 at hb
   obtain ⟨c,hc,rfl⟩:=List.mem_map.1 hb
   have hcs:=G7 (List.mem_filter.1 hc).1
   exact ⟨c,hcs,rfl,m2 c hcs⟩
  have hin:∀ b∈t6 s,b0 (t6 s) b.v=some b.t:=fun b hb=>by
   have key:∀ L:List Bd,L.Pairwise (fun x y=>x.v<y.v)→∀ b∈L,b0 L b.v=some b.t:=fun L=>by
    induction L with
    | nil=>intro _ b hb;cases hb
    | cons a L ih =>
     intro hp b hb
     obtain ⟨p1,p2⟩:=List.pairwise_cons.1 hp
     rw [b0]
     rcases List.mem_cons.1 hb with rfl | hb
     ·rw [if_pos rfl]
     ·rw [if_neg (by have:=p1 b hb;omega)]
      exact ih p2 b hb
   exact key _ (X0 s) b hb
  refine ⟨.inr ⟨rfl,s,m1,m5,m9,rfl⟩,fun _=>m1.congr hi,(fun h=>by cases h),Nat.le_trans (b1R s) m6,fun b hb=>?_,fun b hb=>?_,fun b hb=>?_,X0 s,fun t u hu=>?_,fun q hq=>?_⟩
  ·obtain ⟨c,hc,e1,e2⟩:=hbs b hb
   have h0:0≤b.v:=by rw [e1];exact m5 c hc
   have hf:=hin b hb
   have him:b5 s b.v=b.t:=by rw [←hi _ h0];unfold b5;rw [hf];rfl
   refine ⟨⟨by rw [e2];exact (m4 c hc).1,?_⟩,by rw [e2];exact (m4 c hc).2⟩
   rcases m9 b.v h0 with h | h
   ·rw [←him,h,Tm.size_var (by rw [q6];omega)];decide
   ·rw [←him];exact h.2
  ·obtain ⟨c,hc,_,e2⟩:=hbs b hb
   show b.t.strip=b.t
   rw [e2];exact m2 c hc
  ·obtain ⟨c,hc,e1,e2⟩:=hbs b hb
   rw [e1,e2]
   exact ⟨m7 c hc,m3 c hc⟩
  ·have hu:u∈(a9 (b5 (t6 s)) t).vs:=hu
   rw [W8 hi] at hu
   exact b2R m1 hu
  ·show (a9 (b5 (t6 s)) q).size≤_
   rw [W8 hi]
   exact m8 q ⟨q,hq,rfl⟩
theorem Tells8.bdsOk {l:List (Tm×Tm)} {r:List Bd×Bool} (h:Tells8 l r):bdsOk r.1:=fun b hb=>(h.ok b hb).1
def c2K (l:List Tm):Bool:=l.all fun t=>decide (0≤n5 t 16 8)
def exX:Tm:=⟨4,[⟨-1,[]⟩,⟨1,[]⟩]⟩
def exY:Tm:=⟨4,[⟨3,[⟨-2,[]⟩]⟩,⟨-2,[]⟩]⟩
def exU:List Bd:=[⟨0,⟨3,[⟨1,[]⟩]⟩⟩,⟨1,⟨1,[]⟩⟩]
theorem b6r {s:List Bd} (hs:bdsOk s) {t:Tm} (h:t.rng):(a9 (b5 s) t).rng:=a3E h fun v h1 h2=>(a1a hs h1 h2).1
theorem ToldU.eqv {l m:List (Tm×Tm)} {r:List Bd×Bool} (h:ToldU l r) (he:∀ τ,uni τ l↔uni τ m):ToldU m r:=by
 rcases h with ⟨h1,h2,h3⟩ | ⟨h1,s,h2,h3⟩
 ·exact .inl ⟨h1,h2,fun τ ht=>h3 τ ((he τ).2 ht)⟩
 ·exact .inr ⟨h1,s,h2.eqv he,h3⟩
end Go.Proofs.YtglmoficcjphaaaGreat
namespace Go.Proofs.YtglmoficcjphaaaGreat
open Go.RowKit
set_option linter.unusedVariables false
set_option linter.unusedSimpArgs false
abbrev c3K (l:List Bd):Prop:=l.Pairwise fun x y=>x.v<y.v
def fnI (o:Option Tm) (v:Int):Option Tm:=match o with | some t=>if Q3 ⟨v,t⟩ then none else some t | none=>none
section
variable {P:Program} {w0:World} {U0:UX} {nt:Nat} {ops:Array Oper} {o:Oper} {S:Nat→Option AV} {gs:List Nat} {d:Nat} {s:AS} {a:Act} {w:World} {D:Nat→Nat→Prop} {hv:Nat→Value}
theorem b8N (i1 i2 i3:Nat) (hg:Gd w0 U0 nt ops o gs S) (hd:o.dst=some d) (hn:Nat.blt d nt=true) (h5:Nat.blt d 100000=true) {x y y2 y3:Operand} {t e:TypeId} {z:Nat} {k k2 k3:IntKind} {j1 j2 j3:Int} {n lo len n1 q1 p1 n2 q2 p2 n3 q3 p3} (ho:o.op = .slice t x (some y) (some y2) (some y3)) (hu:P.underlying t=some (.slice e)) (hi:(P.info? e).map (·.size)=some z) (hx:ev S x=some (.sl n lo len z)) (hy:ev S y=some ⟨0,.sc (.int k j1),n1,q1,p1⟩) (hy2:ev S y2=some ⟨0,.sc (.int k2 j2),n2,q2,p2⟩) (hy3:ev S y3=some ⟨0,.sc (.int k3 j3),n3,q3,p3⟩) (e1:j1=(i1:Int)) (e2:j2=(i2:Int)) (e3:j3=(i3:Int)) (h12:i1≤i2) (h23:i2≤i3) (h3:i3≤len) :
  AOp P w0 U0 nt ops o (gs++(rd x++(rd y++(rd y2++rd y3)))) [] S [(d,.no)]:=
 d9 hg hd hn h5 (fun k hk=>List.mem_append_left _ hk) fun s hs a w D hv hm=>by
  obtain ⟨hrn,ao,m,cap,ao',h1,h2,h3',h4,h6,h7⟩:RN n∧SlV (hv n) lo len z (a.eval x):=i9 hm (fun k hk=>hs k (List.mem_append_right _ (List.mem_append_left _ hk))) hx
  have f1:=s9 hm (fun k hk=>hs k (List.mem_append_right _ (List.mem_append_right _ (List.mem_append_left _ hk)))) hy
  have f2:=s9 hm (fun k hk=>hs k (List.mem_append_right _ (List.mem_append_right _ (List.mem_append_right _ (List.mem_append_left _ hk))))) hy2
  have f3:=s9 hm (fun k hk=>hs k (List.mem_append_right _ (List.mem_append_right _ (List.mem_append_right _ (List.mem_append_right _ hk))))) hy3
  have hsz:=A7 (P:=P) (w:=w) hi
  have b3:=w9 (P:=P) (w:=w) (k:=k3) (j:=i3) (y:=cap-lo) (code := .slice3Acap) (by omega)
  have b2:=w9 (P:=P) (w:=w) (k:=k2) (j:=i2) (y:=i3) (code := .slice3B) h23
  have b1:=w9 (P:=P) (w:=w) (k:=k) (j:=i1) (y:=i2) (code := .slice3C) h12
  subst e1 e2 e3
  refine ⟨.slice (if i3=i1 then ao' else ao'.map (·.add (i1*z))) (i2-i1) (i3-i1),?_,trivial⟩
  generalize a.eval=ρ at h2 f1 f2 f3 ⊢
  simp [execOp,ho,Instr.sliceAt,Instr.slice,run_underlying hu,h2,f1,f2,f3,Instr.sliceBounds,b1,b2,b3,hsz]
theorem zbB {P:Program} {w0:World} {U0:UX} {nt:Nat} {ops:Array Oper} {o:Oper} {S:Nat→Option AV} {gs:List Nat} {d:Nat} {x:Operand} {y:Operand} {y2:Operand} {y3:Operand} {t:TypeId} {e:TypeId} {z:Nat} {k:IntKind} {k2:IntKind} {k3:IntKind} {j1:Int} {j2:Int} {j3:Int} {n} {lo} {len} {n1} {q1} {p1} {n2} {q2} {p2} {n3} {q3} {p3} (i1:Nat) (i2:Nat) (i3:Nat) (p:Gd w0 U0 nt ops o gs S:=by exact gN rfl) (q:o.dst=some d:=by exact rfl) (r:Nat.blt d nt=true:=by exact rfl) (u:Nat.blt d 100000=true:=by exact rfl) (v:o.op = .slice t x (some y) (some y2) (some y3):=by exact rfl) (A:P.underlying t=some (.slice e):=by exact rfl) (B:(P.info? e).map (·.size)=some z:=by exact rfl) (C:ev S x=some (.sl n lo len z):=by exact rfl) (E:ev S y=some ⟨0,.sc (.int k j1),n1,q1,p1⟩:=by exact rfl) (F:ev S y2=some ⟨0,.sc (.int k2 j2),n2,q2,p2⟩:=by exact rfl) (G:ev S y3=some ⟨0,.sc (.int k3 j3),n3,q3,p3⟩:=by exact rfl) (H:j1=(i1:Int):=by first | rfl | omega | (simp only [List.length_set,List.length_map,List.length_append,List.length_cons,List.length_nil]<;>omega) | (simp<;>omega)) (e2:j2=(i2:Int):=by first | rfl | omega | (simp only [List.length_set,List.length_map,List.length_append,List.length_cons,List.length_nil]<;>omega) | (simp<;>omega)) (e3:j3=(i3:Int):=by first | rfl | omega | (simp only [List.length_set,List.length_map,List.length_append,List.length_cons,List.length_nil]<;>omega) | (simp<;>omega)) (h12:i1≤i2:=by first | rfl | omega | (simp only [List.length_set,List.length_map,List.length_append,List.length_cons,List.length_nil]<;>omega) | (simp<;>omega)) (h23:i2≤i3:=by first | rfl | omega | (simp only [List.length_set,List.length_map,List.length_append,List.length_cons,List.length_nil]<;>omega) | (simp<;>omega)) (h3:i3≤len:=by first | rfl | omega | (simp only [List.length_set,List.length_map,List.length_append,List.length_cons,List.length_nil]<;>omega) | (simp<;>omega)):AOp P w0 U0 nt ops o (gs++(rd x++(rd y++(rd y2++rd y3)))) [] S [(d,.no)]:=b8N i1 i2 i3 p q r u v A B C E F G H e2 e3 h12 h23 h3
theorem b9B (i1 i2:Nat) (hg:Gd w0 U0 nt ops o gs S) (hd:o.dst=some d) (hn:Nat.blt d nt=true) (h5:Nat.blt d 100000=true) {x y y2:Operand} {t e e':TypeId} {z:Nat} {l:List CV} {k k2:IntKind} {j1 j2:Int} {n len n1 q1 p1 n2 q2 p2} (ho:o.op = .slice t x (some y) (some y2) none) (hu:P.underlying t=some (.slice e)) (hi:(P.info? e).map (·.size)=some z) (hx:ev S x=some (.sl n 0 len z)) (hy:ev S y=some ⟨0,.sc (.int k j1),n1,q1,p1⟩) (hy2:ev S y2=some ⟨0,.sc (.int k2 j2),n2,q2,p2⟩) (hm':S n=some (.mrow e' z l)) (e1:j1=(i1:Int)) (e2:j2=(i2:Int)) (h12:i1≤i2) (h3:i2≤l.length) :
  AOp P w0 U0 nt ops o (gs++(rd x++(rd y++(rd y2++[n])))) [] S [(d,.sl n i1 (i2-i1) z)]:=
 d9 hg hd hn h5 (fun k hk=>List.mem_append_left _ hk) fun s hs a w D hv hm=>by
  obtain ⟨hrn,ao,m,cap,ao',h1,h2,h3',h4,h6,h7⟩:RN n∧SlV (hv n) 0 len z (a.eval x):=i9 hm (fun k hk=>hs k (List.mem_append_right _ (List.mem_append_left _ hk))) hx
  have f1:=s9 hm (fun k hk=>hs k (List.mem_append_right _ (List.mem_append_right _ (List.mem_append_left _ hk)))) hy
  have f2:=s9 hm (fun k hk=>hs k (List.mem_append_right _ (List.mem_append_right _ (List.mem_append_right _ (List.mem_append_left _ hk))))) hy2
  obtain ⟨xs,g1,g2,g3,g4⟩:=hm.mrow ((hs n (by simp)).trans hm') hrn
  obtain ⟨ao2,cap2,c1,c2,_⟩:=U1 g1
  have hcap:l.length≤cap:=by rw [h1] at c1;injection c1 with _ _ c3;omega
  have hsz:=A7 (P:=P) (w:=w) hi
  have b2:=w9 (P:=P) (w:=w) (k:=k2) (j:=i2) (y:=cap) (code := .sliceAcap) (by omega)
  have b1:=w9 (P:=P) (w:=w) (k:=k) (j:=i1) (y:=i2) (code := .sliceB) h12
  subst e1 e2
  have h2:a.eval x = .slice ao len cap:=by rw [h2,h4 rfl];rfl
  refine ⟨.slice (if cap=i1 then ao else ao.map (·.add (i1*z))) (i2-i1) (cap-i1),?_,hrn,ao,m,cap,_,h1,rfl,by show i1+(i2-i1)≤cap;omega,fun h8=>?_,fun h8=>?_,?_⟩
  ·generalize a.eval=ρ at h2 f1 f2 ⊢
   simp [execOp,ho,Instr.sliceAt,Instr.slice,run_underlying hu,h2,f1,f2,Instr.sliceBounds,b1,b2,hsz]
  ·have h8:i1=0:=h8
   subst h8
   split
   ·rfl
   ·cases ao with
    | none=>rfl
    | some ad=>simp [Addr.add]
  ·have h8:i1<cap:=h8
   intro g hg'
   rw [if_neg (by omega),hg']
   show some ((⟨g,0,none⟩:Addr).add (i1*z))=some ⟨g,i1*z,none⟩
   rw [a0q,Nat.zero_add]
  ·split
   ·exact Iff.rfl
   ·rw [Option.map_eq_none_iff]
theorem zbD {P:Program} {w0:World} {U0:UX} {nt:Nat} {ops:Array Oper} {o:Oper} {S:Nat→Option AV} {gs:List Nat} {d:Nat} {x:Operand} {y:Operand} {y2:Operand} {t:TypeId} {e:TypeId} {e':TypeId} {z:Nat} {l:List CV} {k:IntKind} {k2:IntKind} {j1:Int} {j2:Int} {n} {len} {n1} {q1} {p1} {n2} {q2} {p2} (i1:Nat) (i2:Nat) (p:Gd w0 U0 nt ops o gs S:=by exact gN rfl) (q:o.dst=some d:=by exact rfl) (r:Nat.blt d nt=true:=by exact rfl) (u:Nat.blt d 100000=true:=by exact rfl) (v:o.op = .slice t x (some y) (some y2) none:=by exact rfl) (A:P.underlying t=some (.slice e):=by exact rfl) (B:(P.info? e).map (·.size)=some z:=by exact rfl) (C:ev S x=some (.sl n 0 len z):=by exact rfl) (E:ev S y=some ⟨0,.sc (.int k j1),n1,q1,p1⟩:=by exact rfl) (F:ev S y2=some ⟨0,.sc (.int k2 j2),n2,q2,p2⟩:=by exact rfl) (G:S n=some (.mrow e' z l):=by exact rfl) (H:j1=(i1:Int):=by first | rfl | omega | (simp only [List.length_set,List.length_map,List.length_append,List.length_cons,List.length_nil]<;>omega) | (simp<;>omega)) (e2:j2=(i2:Int):=by first | rfl | omega | (simp only [List.length_set,List.length_map,List.length_append,List.length_cons,List.length_nil]<;>omega) | (simp<;>omega)) (h12:i1≤i2:=by first | rfl | omega | (simp only [List.length_set,List.length_map,List.length_append,List.length_cons,List.length_nil]<;>omega) | (simp<;>omega)) (h3:i2≤l.length:=by first | rfl | omega | (simp only [List.length_set,List.length_map,List.length_append,List.length_cons,List.length_nil]<;>omega) | (simp<;>omega)):AOp P w0 U0 nt ops o (gs++(rd x++(rd y++(rd y2++[n])))) [] S [(d,.sl n i1 (i2-i1) z)]:=b9B i1 i2 p q r u v A B C E F G H e2 h12 h3
theorem b9y (hg:Gd w0 U0 nt ops o gs S) (hd:o.dst=some d) (hn:Nat.blt d nt=true) (h5:Nat.blt d 100000=true) {x y:Operand} {t e size bytes:Nat} {zv:Value} {l:List CV} {n len lo2 len2} (ho:o.op = .call { callee := .builtin .append,args := #[x,y],argTypes := #[t,t] }) (ht:P.underlying t=some (.slice e)) (hi:(P.info? e).map (fun i=>(i.zero,i.size,i.bytes))=some (some zv,size,bytes))
  (hx:ev S x=some (.sl n 0 len size)) (hy:ev S y=some (.sl n lo2 len2 size)) (hm':S n=some (.mrow e size l)) (hl:len+len2≤l.length) (hl2:lo2+len2≤l.length) :
  AOp P w0 U0 nt ops o (gs++(rd x++(rd y++[n]))) [] S [(d,.sl n 0 (len+len2) size),(n,.mrow e size (l.take len++((l.drop lo2).take len2++l.drop (len+len2))))]:=by
 intro s hs hN a w ⟨D,hv,h⟩ Q K hK
 rw [if_pos (hg s (fun k hk=>hs k (List.mem_append_left _ hk)) a w D hv h)]
 obtain ⟨hrn,ao,m,cap,ao',h1,h2,h3,h4,h6,h7⟩:RN n∧SlV (hv n) 0 len size (a.eval x):=i9 h (fun k hk=>hs k (List.mem_append_right _ (List.mem_append_left _ hk))) hx
 obtain ⟨_,ao2,m2,cap2,ao2',j1,j2,j3,j4,j6,j7⟩:RN n∧SlV (hv n) lo2 len2 size (a.eval y):=i9 h (fun k hk=>hs k (List.mem_append_right _ (List.mem_append_right _ (List.mem_append_left _ hk)))) hy
 have h2:a.eval x = .slice ao len cap:=by rw [h2,h4 rfl];rfl
 obtain ⟨i,hi1,hi2,hi3,hi4⟩:=info_parts hi
 have hok:k9 n:=by unfold RN at hrn;unfold k9;omega
 have hm:=(hs n (by simp)).trans hm'
 obtain ⟨xs,g1,g2,g3,g4⟩:=h.mrow hm hrn
 obtain ⟨ao3,cap3,c1,c2,_⟩:=U1 g1
 have hcl:l.length≤cap:=by rw [h1] at c1;injection c1 with _ _ c3;omega
 have hv2:SlV (hv n) 0 (len+len2) size (.slice ao (len+len2) cap):=⟨ao,m,cap,ao,h1,rfl,by omega,fun _=>rfl,fun _ g hg'=>by rw [hg',Nat.zero_mul],Iff.rfl⟩
 by_cases hz:len2=0
 ·subst hz
  have he:(execOp a.eval o).run P w = .ok (.value (.slice ao len cap)) w:=by
   have hle:len≤cap:=by omega
   generalize a.eval=ρ at h2 j2 ⊢
   cases ao<;>cases ao2'<;>simp [execOp,ho,resolve,invoke,builtin,h2,j2,Builtin.append_,run_underlying ht,sizeOf,typeInfo,hi1,Builtin.lenOf,Builtin.firstCells,loadCells,loadCellsFrom,storeCells,hle,Result.andThen]
  unfold Oper.wp
  rw [he,Oper.upon_value,hd]
  have hl':l.take len++((l.drop lo2).take 0++l.drop (len+0))=l:=by simp
  refine hK _ _ ⟨D,hv,?_⟩
  rw [hl']
  have hP:=h.put (d:=d) (av := .sl n 0 (len+0) size) (v := .slice ao len cap) (bL hn) (bL h5) ⟨hrn,by rw [Nat.add_zero] at hv2 ⊢;exact hv2⟩
  refine hP.congr fun k=>?_
  show look ((d,_)::(n,AV.mrow e size l)::s) k=look ((d,_)::s) k
  rw [f0,f0,f0]
  split
  ·rfl
  ·split
   ·rename_i e;rw [←e];exact hm.symm
   ·rfl
 obtain ⟨g,cap',cur,f1,f2,f3,f4,f6,f7,f8,f9⟩:=T7 g1 (by omega)
 obtain rfl:cap=cap':=by rw [f1] at h1;injection h1 with k1 k2 k3;exact k3.symm
 obtain rfl:ao=some ⟨g,0,none⟩:=by rw [f1] at h1;injection h1 with k1 k2 k3;exact k1.symm
 obtain rfl:cap=cap2:=by rw [f1] at j1;injection j1 with k1 k2 k3
 obtain rfl:ao2=some ⟨g,0,none⟩:=by rw [f1] at j1;injection j1 with k1 k2 k3;exact k1.symm
 have ha:ao2'=some ⟨g,lo2*size,none⟩:=j6 (by omega) g rfl
 subst ha
 have hsplit2:l=l.take lo2++((l.drop lo2).take len2++(l.drop lo2).drop len2):=by rw [List.take_append_drop,List.take_append_drop]
 have q4:=g4
 rw [hsplit2,List.map_append,List.map_append] at q4
 obtain ⟨x1,x4,ex1,t1,t2⟩:=t9 q4
 obtain ⟨zs,x3,ex2,t3,t4⟩:=t9 t2
 have hx1:x1.length=lo2*size:=by rw [C5 (n:=CV.size) (fun c _ xs h=>h.len) t1,r5 (fun c hc=>g3 c (List.mem_of_mem_take hc)),List.length_take,Nat.min_eq_left (by omega)]
 have hzsl:zs.length=len2*size:=by rw [C5 (n:=CV.size) (fun c _ xs h=>h.len) t3,r5 (fun c hc=>g3 c (List.mem_of_mem_drop (List.mem_of_mem_take hc))),List.length_take,List.length_drop,Nat.min_eq_left (by omega)]
 have hone:∀ v∈zs,v.oneCell'=true:=P6 t3
 have hxl:xs.length=l.length*size:=g1.1
 have hcl2:len*size+len2*size≤l.length*size:=by rw [←Nat.add_mul];exact Nat.mul_le_mul_right _ hl
 have hcl3:lo2*size+len2*size≤l.length*size:=by rw [←Nat.add_mul];exact Nat.mul_le_mul_right _ hl2
 have hcap:l.length*size≤cap*size:=Nat.mul_le_mul_right _ f3
 have f7:cur.toList.take (l.length*size)=xs:=f7
 have f6:cur.size=cap*size:=f6
 have hnews:∀ j u,zs[j]?=some u→w.cell? ((⟨g,lo2*size,none⟩:Addr).add j)=some u:=fun j u hj=>by
  have hjl:j<zs.length:=by
   rcases Nat.lt_or_ge j zs.length with h | h
   ·exact h
   ·rw [List.getElem?_eq_none h] at hj;cases hj
  rw [a0q]
  have hc:xs[lo2*size+j]?=some u:=by rw [ex1,ex2,←hx1,List.getElem?_append_right (by omega),Nat.add_sub_cancel_left,List.getElem?_append_left hjl];exact hj
  have hown:w.ownsRow 0 e size (.slice (some ⟨g,0,none⟩) l.length cap) l.length xs:=by rw [←f1];exact g1
  rw [hown.cellAt _ (by omega)]
  exact hc
 have hr:=run_append_room (P:=P) w t o.type e i ht hi1 g len cap cur f2 ⟨g,lo2*size,none⟩ len2 (cap-lo2) zs (by rw [hi3];exact hzsl) hnews hone (by omega) (by rw [hi3,hzsl,f6];omega)
 rw [hi3] at hr
 have he:(execOp a.eval o).run P w = .ok (.value (.slice (some ⟨g,0,none⟩) (len+len2) cap)) (w.setRow g (cur.toList.take (len*size)++zs++cur.toList.drop (len*size+zs.length)).toArray):=by
  generalize a.eval=ρ at h2 j2 ⊢
  simp [execOp,ho,resolve,invoke,builtin,h2,j2,hr,Result.andThen]
 unfold Oper.wp
 rw [he,Oper.upon_value,hd]
 obtain ⟨l',hl'⟩:∃ l',l'=l.take len++((l.drop lo2).take len2++l.drop (len+len2)):=⟨_,rfl⟩
 have hll:l'.length=l.length:=by rw [hl'];simp;omega
 refine hK _ _ ?_
 rw [←hl']
 suffices hG:SimG w0 U0 nt ((n,.mrow e size l')::s) a (w.setRow g (cur.toList.take (len*size)++zs++cur.toList.drop (len*size+zs.length)).toArray) D hv from ⟨_,_,hG.put (bL hn) (bL h5) ⟨hrn,hv2⟩⟩
 refine h.store (av := .mrow e size l') hok hm (by simp) (by simp) rfl (fun g' hn o _=>hn o (by simp)) (by simp) f9 f2 fun w' hw hkp=>?_
 have hsplit:l=l.take len++((l.drop len).take len2++(l.drop len).drop len2):=by rw [List.take_append_drop,List.take_append_drop]
 have g4':=g4
 rw [hsplit,List.map_append,List.map_append] at g4'
 obtain ⟨y1,r1,e1,s1,s2⟩:=t9 g4'
 obtain ⟨y2,y3,e2,s3,s4⟩:=t9 s2
 have hy1:y1.length=len*size:=by rw [C5 (n:=CV.size) (fun c _ xs h=>h.len) s1,r5 (fun c hc=>g3 c (List.mem_of_mem_take hc)),List.length_take,Nat.min_eq_left (by omega)]
 have hy2:y2.length=len2*size:=by rw [C5 (n:=CV.size) (fun c _ xs h=>h.len) s3,r5 (fun c hc=>g3 c (List.mem_of_mem_drop (List.mem_of_mem_take hc))),List.length_take,List.length_drop,Nat.min_eq_left (by omega)]
 have hy3:y1.length+(y2.length+y3.length)=l.length*size:=by have:=hxl;rw [e1,e2] at this;simpa using this
 have hcur:cur.toList=y1++(y2++(y3++cur.toList.drop (l.length*size))):=by
  conv=>lhs;rw [←List.take_append_drop (l.length*size) cur.toList,f7,e1,e2]
  simp
 have hnew:cur.toList.take (len*size)++zs++cur.toList.drop (len*size+zs.length)=(y1++(zs++y3))++cur.toList.drop (l.length*size):=by
  have t1:cur.toList.take (len*size)=y1:=by rw [hcur,←hy1];simp
  have t2:cur.toList.drop (len*size+zs.length)=y3++cur.toList.drop (l.length*size):=by
   rw [hzsl,←hy1,←hy2]
   conv=>lhs;rw [hcur]
   rw [←List.append_assoc,List.drop_append_of_le_length (by simp)]
   simp
  rw [t1,t2]
  simp
 rw [hnew] at hw
 refine ⟨y1++(zs++y3),⟨?_,.inr ⟨g,cap,_,?_,Nat.zero_le _,hw,?_,f4,?_,?_⟩⟩,g2,fun x hx=>?_,?_⟩
 ·show _=l'.length*size
  rw [hll]
  simp only [List.length_append,hzsl]
  omega
 ·show hv n = .slice _ l'.length cap
  rw [hll];exact f1
 ·show l'.length≤cap
  rw [hll];exact f3
 ·have:=congrArg List.length hcur
  rw [Array.length_toList,f6] at this
  simp only [List.size_toArray,List.length_append,hzsl] at this ⊢
  show _=cap*size
  omega
 ·show List.take (l'.length*size) _=_
  rw [hll,List.take_append_of_le_length (by simp only [List.length_append,hzsl];omega),List.take_of_length_le (by simp only [List.length_append,hzsl];omega)]
 ·have hx:x∈l':=hx
  rw [hl',List.mem_append,List.mem_append] at hx
  rcases hx with hx | hx | hx
  ·exact g3 x (List.mem_of_mem_take hx)
  ·exact g3 x (List.mem_of_mem_drop (List.mem_of_mem_take hx))
  ·exact g3 x (List.mem_of_mem_drop hx)
 ·show Sq (l'.map fun c=>Rep (Us w0 U0 D) w' c) _
  rw [hl',List.map_append,List.map_append]
  refine B6 (Sq.keep hkp s1) (B6 (Sq.keep hkp t3) ?_)
  rw [←List.drop_drop]
  exact Sq.keep hkp s4
theorem zbC {P:Program} {w0:World} {U0:UX} {nt:Nat} {ops:Array Oper} {o:Oper} {S:Nat→Option AV} {gs:List Nat} {d:Nat} {x:Operand} {y:Operand} {t:Nat} {e:Nat} {size:Nat} {bytes:Nat} {zv:Value} {l:List CV} {n} {len} {lo2} {len2} (p:Gd w0 U0 nt ops o gs S:=by exact gN rfl) (q:o.dst=some d:=by exact rfl) (r:Nat.blt d nt=true:=by exact rfl) (z:Nat.blt d 100000=true:=by exact rfl) (A:o.op = .call { callee := .builtin .append,args := #[x,y],argTypes := #[t,t] }:=by exact rfl) (B:P.underlying t=some (.slice e):=by exact rfl) (C:(P.info? e).map (fun i=>(i.zero,i.size,i.bytes))=some (some zv,size,bytes):=by exact rfl) (E:ev S x=some (.sl n 0 len size):=by exact rfl) (F:ev S y=some (.sl n lo2 len2 size):=by exact rfl) (G:S n=some (.mrow e size l):=by exact rfl) (H:len+len2≤l.length:=by first | rfl | omega | (simp only [List.length_set,List.length_map,List.length_append,List.length_cons,List.length_nil]<;>omega) | (simp<;>omega)) (hl2:lo2+len2≤l.length:=by first | rfl | omega | (simp only [List.length_set,List.length_map,List.length_append,List.length_cons,List.length_nil]<;>omega) | (simp<;>omega)):AOp P w0 U0 nt ops o (gs++(rd x++(rd y++[n]))) [] S [(d,.sl n 0 (len+len2) size),(n,.mrow e size (l.take len++((l.drop lo2).take len2++l.drop (len+len2))))]:=b9y p q r z A B C E F G H hl2
end
def a4m:Value→Nat→Value
 | .slice ao _ cap,len => .slice ao len cap
 | v,_=>v
def b2Z (P:Program) (f:FuncId) (pre:AS) (n1 n2:Nat) (args:Value→Value→List AV) (r:Value→Value→AV) (post:AS):Prop:=
 b3k P f∧∀ (U:UX) (w:World) (hv:Nat→Value) (a0:Act) (vs:List Value),(∀ k v,U.f k=some v→n4 (kO pre) k=true)→SimG w U 0 pre a0 w (fun _ _=>False) hv→AVReps (Us w U (fun _ _=>False)) w hv (a8 pre) (args (hv n1) (hv n2)) vs →
  Calls P f vs.toArray w fun e w'=>∃ v D' hv' a',e = .returned v∧SimG w U 0 post a' w' D' hv'∧AVRep (Us w U D') w' hv' (a8 post) (r (hv n1) (hv n2)) v
section
variable {P:Program} {w0:World} {U0:UX} {nt:Nat} {ops:Array Oper} {o:Oper} {S:Nat→Option AV} {gs:List Nat} {d:Nat} {s:AS} {a:Act} {w:World} {D:Nat→Nat→Prop} {hv:Nat→Value}
theorem b5f (d1 n1 d2 n2 : Nat) {f : FuncId} {fn : Func} {c : Code} {pre post : AS} {args : Value → Value → List AV} {r : Value → Value → AV} (hf : P.funcs[f]? = some fn) (hn : fn.ntmps = nt) (hname : (fn.name == "runtime.NumGoroutine") = false) (hb : fn.body = some c) (hl : ∀ v1 v2, Nat.ble (args v1 v2).length nt = true) (hdd : (Nat.blt d1 nt && Nat.blt d2 nt) = true) (hnn : (Nat.ble 200000 n1 && Nat.blt n1 450000 && (Nat.ble 200000 n2 && Nat.blt n2 450000)) = true) (hnt : Nat.blt nt 100000 = true) (hpre : (kO pre).all (Nat.ble 100000) = true) (hpost : (kO post).all (Nat.ble 100000) = true)
  (h:∀ (v1 v2:Value) (w:World) (U:UX),(∀ k v,U.f k=some v→n4 (kO pre) k=true)→AWp P w U nt c (fun e s'=>(e = .normal∨e = .ret)∧b9Y P w U nt fn s' (r v1 v2) post) ((d1,.hdl v1 n1)::(d2,.hdl v2 n2)::(J6 (args v1 v2) 0++pre))):b2Z P f pre n1 n2 args r post:=by
 refine ⟨C1 hf hname (by rw [hb];rfl),fun U w hv a0 vs hU hpS hargs=>?_⟩
 have hlen:=hargs.len
 refine calls_of_wp hf hb ?_
 have hle:=Nat.le_of_ble_eq_true (hl (hv n1) (hv n2))
 have hnt:=bL hnt
 have hlow:∀ {k av},look pre k=some av→100000≤k:=fun {k av} h1=>by
  rw [List.all_eq_true] at hpre
  exact Nat.le_of_ble_eq_true (hpre k (j8 h1))
 have hlk:∀ {k},100000≤k→look (J6 (args (hv n1) (hv n2)) 0++pre) k=look pre k:=fun {k} h1=>by
  rw [i0]
  cases h2:look (J6 (args (hv n1) (hv n2)) 0) k with
  | none=>rfl
  | some av =>
   obtain ⟨_,h3⟩:=B7 h2
   rw [Nat.sub_zero,List.getElem?_eq_none (by omega)] at h3
   cases h3
 have hlive:a8 (J6 (args (hv n1) (hv n2)) 0++pre)=a8 pre:=by
  funext n
  unfold a8 r9
  apply propext
  constructor
  ·rintro (h1 | ⟨e,h1,h2,h3⟩)
   ·exact .inl h1
   ·rw [hlk (by omega)] at h1;exact .inr ⟨e,h1,h2,h3⟩
  ·rintro (h1 | ⟨e,h1,h2,h3⟩)
   ·exact .inl h1
   ·exact .inr ⟨e,by rw [hlk (by omega)];exact h1,h2,h3⟩
 have hs0:SimG w U nt (J6 (args (hv n1) (hv n2)) 0++pre) { tmps:=vs.toArray++Array.replicate (fn.ntmps-vs.toArray.size) undef,defers:=[] } w (fun _ _=>False) hv:=by
  refine ⟨hpS.below,rfl,by simp [hn];omega,fun d av h1 h2=>?_,fun n o av h1 h2 h3 h4=>?_,fun n o o' av av' h1 h2=>?_,fun k av h1 h2=>?_,fun k av g h1 h2=>?_,fun k k' av av' g h1 h2 h3 h4=>?_,hpS.fix,fun b o hd=>hd.elim⟩
  ·rw [i0] at h1
   cases h3:look (J6 (args (hv n1) (hv n2)) 0) d with
   | none =>
    rw [h3] at h1
    have:=hlow h1
    omega
   | some av' =>
    rw [h3] at h1
    cases h1
    obtain ⟨_,h4⟩:=B7 h3
    rw [Nat.sub_zero] at h4
    obtain ⟨v,h6,h7⟩:=hargs.at h4
    have hdl:d<vs.length:=by
     rcases Nat.lt_or_ge d vs.length with h | h
     ·exact h
     ·rw [List.getElem?_eq_none h] at h6;cases h6
    rw [hlive]
    refine ⟨v,?_,h7⟩
    rw [Array.getElem?_append_left (by simpa using hdl)]
    simpa using h6
  ·rw [hlk (by unfold b9;omega)] at h1
   rw [hlk (by omega)] at h3
   rw [hlive]
   exact hpS.fld n o av h1 h2 h3 h4
  ·rw [hlk (by unfold b9;omega)] at h1 h2
   exact hpS.fdis n o o' av av' h1 h2
  ·rw [hlk h2.1] at h1;rw [hlive];exact hpS.obj k av h1 h2
  ·rw [hlk h2.1] at h1;exact hpS.blk k av g h1 h2
  ·rw [hlk h3.1] at h1;rw [hlk h4.1] at h2;exact hpS.disj k k' av av' g h1 h2 h3 h4
 simp only [Bool.and_eq_true] at hdd hnn
 have hk1:d1<nt:=bL hdd.1
 have hk2:d2<nt:=bL hdd.2
 have hr1:RN n1:=⟨Nat.le_of_ble_eq_true hnn.1.1,bL hnn.1.2⟩
 have hr2:RN n2:=⟨Nat.le_of_ble_eq_true hnn.2.1,bL hnn.2.2⟩
 have hs1:=hs0.know (d:=d2) (av := .hdl (hv n2) n2) (by omega) (Array.getElem?_eq_getElem (by rw [hs0.size];exact hk2)) ⟨hr2,rfl⟩
 have hs2:=hs1.know (d:=d1) (av := .hdl (hv n1) n1) (by omega) (Array.getElem?_eq_getElem (by rw [hs0.size];exact hk1)) ⟨hr1,rfl⟩
 have hs:Sim w U nt ((d1,.hdl (hv n1) n1)::(d2,.hdl (hv n2) n2)::(J6 (args (hv n1) (hv n2)) 0++pre)) { tmps:=vs.toArray++Array.replicate (fn.ntmps-vs.toArray.size) undef,defers:=[] } w:=⟨_,_,hs2⟩
 refine wp_mono ((h (hv n1) (hv n2) w U hU ⟨none,[]⟩ _ w hs).wp rfl (fun e a w ⟨s,_,h⟩=>h.df)) ?_
 rintro e a' w' ⟨s',⟨h1,s2,g1,g2,g3⟩,h3⟩
 obtain ⟨D',hv',h4⟩:=g1 a' w' h3
 obtain ⟨v,h5,h6⟩:=a0F h4 g2
 have hS:=h4.sub g3.sub
 have hlow2:∀ {k av},look post k=some av→100000≤k:=fun {k av} h1=>by
  rw [List.all_eq_true] at hpost
  exact Nat.le_of_ble_eq_true (hpost k (j8 h1))
 have hS0:SimG w U 0 post ⟨#[],[]⟩ w' D' hv':=⟨hS.below,rfl,rfl,fun d av h7 h8=>by have:=hlow2 h7;omega,hS.fld,hS.fdis,hS.obj,hS.blk,hS.disj,hS.fix,hS.dlt⟩
 rcases h1 with rfl | rfl
 ·exact ⟨h4.dfr,v,h5,v,D',hv',_,rfl,hS0,h6.move (fun _ _ _ h1 h2=>⟨h1,h2⟩) (fun _ h7=>h7.imp id fun ⟨e,he⟩=>⟨e,g3.sub _ _ he.1,he.2⟩) fun _=>rfl⟩
 ·exact ⟨h4.dfr,v,h5,v,D',hv',_,rfl,hS0,h6.move (fun _ _ _ h1 h2=>⟨h1,h2⟩) (fun _ h7=>h7.imp id fun ⟨e,he⟩=>⟨e,g3.sub _ _ he.1,he.2⟩) fun _=>rfl⟩
theorem b7i (dh1 dh2:Nat) {f:FuncId} {xs:Array Operand} {ts:Array TypeId} {ar:Value→Value→List AV} {rr:Value→Value→AV} {pre post:AS} {n1 n2:Nat} {u1 u2:Value} (hg:Gd w0 U0 nt ops o gs S) (hd:o.dst=some d) (hn:Nat.blt d nt=true) (h5:Nat.blt d 100000=true)
  (ho:o.op = .call { callee := .value (.func f),args:=xs,argTypes:=ts }) (hc:b2Z P f pre n1 n2 ar rr post) (hh1:S dh1=some (.hdl u1 n1)) (hh2:S dh2=some (.hdl u2 n2)) (hdh:(Nat.blt dh1 100000&&Nat.blt dh2 100000)=true) (hx:a6d S xs.toList=some (ar u1 u2)) (hp:SubS S pre) (hl:pre.all L9=true) (hq:post.all (I6 (kO post))=true) (hks:(kO pre).all (n4 (kO post))=true) (hr:a4c (kO post) (rr u1 u2)=true) (hnb:∀ k v,U0.f k=some v→n4 (kO post) k=true→n4 (kO pre) k=true) :
  AOp P w0 U0 nt ops o (gs++(rdl xs.toList++(kO pre++[dh1,dh2]))) (L1 (kO pre) (kO post) (kO post)) S ((d,rr u1 u2)::post):=by
 intro s hs hN a w ⟨D,hv,h⟩ Q K hK
 rw [if_pos (hg s (fun k hk=>hs k (List.mem_append_left _ hk)) a w D hv h)]
 have hargs:=a0N h (fun k hk=>hs k (List.mem_append_right _ (List.mem_append_left _ hk))) hx
 have hsub:Sub s pre:=fun k av h1=>(hs k (List.mem_append_right _ (List.mem_append_right _ (List.mem_append_left _ (j8 h1))))).trans (hp.look h1)
 obtain ⟨V,v1,v2,v3,v4,v5,v6⟩:=h.lend hsub hl
 obtain ⟨h1,h2⟩:=hc
 rw [Bool.and_eq_true] at hdh
 obtain ⟨_,_,hx1⟩:∃ v,a.tmps[dh1]?=some v∧RN n1∧hv n1=u1:=h.slot dh1 _ ((hs dh1 (by simp)).trans hh1) (bL hdh.1)
 obtain ⟨_,_,hx2⟩:∃ v,a.tmps[dh2]?=some v∧RN n2∧hv n2=u2:=h.slot dh2 _ ((hs dh2 (by simp)).trans hh2) (bL hdh.2)
 have h2:=fun V a0 vs q1 q2 q3=>h2 V w hv a0 vs q1 q2 q3
 rw [hx1.2,hx2.2] at h2
 have hcall:=h2 V ⟨#[],[]⟩ _ v1 v2 (hargs.imp fun c _ v hcv=>hcv.move v6 (fun _ h3=>h3.imp id fun ⟨e,he⟩=>⟨e,hsub _ _ he.1,he.2⟩) fun _=>rfl)
 have he:(execOp a.eval o).run P w = .ok (.enter f (xs.toList.map a.eval).toArray) w:=by
  have hf:a.eval (.func f) = .func (.func f) #[] #[]:=rfl
  have hen:=h1 (xs.map a.eval) w
  have harr:(xs.toList.map a.eval).toArray=xs.map a.eval:=by apply Array.ext';simp
  rw [harr]
  generalize a.eval=ρ at hf hen ⊢
  simp [execOp,ho,resolve,invoke,Deferred.ofValue,hf,hen]
 unfold Oper.wp
 rw [he,Oper.upon_enter]
 refine hcall.mono ?_
 rintro e w' ⟨v,D',hv',a',rfl,h6,h7⟩
 rw [hd]
 obtain ⟨D2,hv2,h8,h9⟩:=h.back hsub hl hq hks hN hnb v3 v4 v5 v2 h6
 exact hK _ _ ⟨D2,hv2,h8.put (bL hn) (bL h5) (h9.1 (rr u1 u2) v hr h7)⟩
theorem zbF {P:Program} {w0:World} {U0:UX} {nt:Nat} {ops:Array Oper} {o:Oper} {S:Nat→Option AV} {gs:List Nat} {d:Nat} {f:FuncId} {xs:Array Operand} {ts:Array TypeId} {ar:Value→Value→List AV} {rr:Value→Value→AV} {pre:AS} {post:AS} {n1:Nat} {n2:Nat} {u1:Value} {u2:Value} (dh1:Nat) (dh2:Nat) (p:Gd w0 U0 nt ops o gs S:=by exact gN rfl) (q:o.dst=some d:=by exact rfl) (r:Nat.blt d nt=true:=by exact rfl) (t:Nat.blt d 100000=true:=by exact rfl) (u:o.op = .call { callee := .value (.func f),args:=xs,argTypes:=ts }:=by exact rfl) (x:b2Z P f pre n1 n2 ar rr post) (y:S dh1=some (.hdl u1 n1):=by exact rfl) (z:S dh2=some (.hdl u2 n2):=by exact rfl) (A:(Nat.blt dh1 100000&&Nat.blt dh2 100000)=true:=by exact rfl) (B:a6d S xs.toList=some (ar u1 u2):=by exact rfl) (C:SubS S pre:=by repeat (first | exact trivial | refine ⟨rfl,?_⟩)) (E:pre.all L9=true:=by first | rfl | kernel_rfl) (F:post.all (I6 (kO post))=true:=by first | rfl | kernel_rfl) (G:(kO pre).all (n4 (kO post))=true:=by first | rfl | kernel_rfl) (H:a4c (kO post) (rr u1 u2)=true:=by first | rfl | kernel_rfl) (hnb:∀ k v,U0.f k=some v→n4 (kO post) k=true→n4 (kO pre) k=true):AOp P w0 U0 nt ops o (gs++(rdl xs.toList++(kO pre++[dh1,dh2]))) (L1 (kO pre) (kO post) (kO post)) S ((d,rr u1 u2)::post):=b7i dh1 dh2 p q r t u x y z A B C E F G H hnb
theorem b2G (nn:Nat) (hg:Gd w0 U0 nt ops o gs S) (hd:o.dst=some d) (hn:Nat.blt d nt=true) (h5:Nat.blt d 100000=true) {t e:TypeId} {len:Nat} {parts:Array (Nat×Operand)} {ie:TypeInfo} {z:Value} {cs:List CV} {sz:Nat} (ho:o.op = .buildSlice t len parts) (hu:P.underlying t=some (.slice e)) (hi:P.info? e=some ie) (hsz0:ie.size=sz) (hz:ie.zero=some z) (hdn:a4C parts.toList 0=true) (hx:Y3 S (parts.toList.map (·.2))=some cs) (hl:Nat.beq cs.length len=true) (hsz:a4z cs sz=true) (hp:Nat.blt 0 (len*sz)=true) (h24:Nat.ble (len*sz) 16777216=true) (hn2:(Nat.ble 200000 nn&&Nat.blt nn 400000)=true) :
  AOp P w0 U0 nt ops o (gs++rdl (parts.toList.map (·.2))) [(nn,[])] S [(d,.sl nn 0 len sz),(nn,.mrow e sz cs)]:=by
 subst hsz0
 intro s hs hN a w ⟨D,hv,h⟩ Q K hK
 rw [if_pos (hg s (fun k hk=>hs k (List.mem_append_left _ hk)) a w D hv h)]
 have hvv:=E7 h (fun k hk=>hs k (List.mem_append_right _ hk)) hx
 rw [List.map_map] at hvv
 have hlen:cs.length=len:=Nat.eq_of_beq_eq_true hl
 have hvl:=hvv.len
 have hpos:=bL hp
 have hs0:0<ie.size:=Nat.pos_of_ne_zero fun e=>by rw [e] at hpos;simp at hpos
 have hsizes:=a0b hvv (sZ hsz)
 obtain ⟨vs,hvs⟩:∃ vs,vs=parts.toList.map (a.eval∘(·.2)):=⟨_,rfl⟩
 rw [←hvs] at hvv hvl hsizes
 obtain ⟨r,hf,hrs,hrk⟩:=Great.fill_dense hs0 vs 0 ((Array.range (len*ie.size)).map (z.cells[·% z.cells.size]!)) hsizes (by simp;rw [hvl,hlen];exact Nat.le_refl _)
 have hr:r.toList=(vs.map fun v=>v.cells.toList).flatten:=by
  apply List.ext_getElem?
  intro k
  rw [J3 hs0 _ (by intro v hv';rw [List.mem_map] at hv';obtain ⟨u,hu,rfl⟩:=hv';simpa using hsizes u hu)]
  have:=hrk k
  rw [←Array.getElem?_toList] at this
  simp only [Nat.zero_mul,Nat.zero_le,true_and,Nat.zero_add] at this
  rw [this]
  by_cases hk:k<vs.length*ie.size
  ·rw [if_pos hk]
   simp only [Nat.sub_zero,List.getElem?_map]
   cases vs[k / ie.size]?<;>simp
  ·rw [if_neg hk,Array.getElem?_eq_none (by simp;rw [←hlen,←hvl];omega)]
   rw [List.getElem?_map,List.getElem?_eq_none (by rw [Nat.le_div_iff_mul_le hs0];omega)]
   rfl
 have he:(execOp a.eval o).run P w = .ok (.value (.slice (some ⟨w.heap.size,0,none⟩) len len)) (w.alloc (.cells r e)):=by
  have h24':=Nat.le_of_ble_eq_true h24
  have hparts:(parts.map fun x=>(x.1,a.eval x.2)).toList=(vs.zipIdx 0).map fun x=>(x.2,x.1):=by
   rw [Array.toList_map,Z0 hdn a.eval,hvs]
   rfl
  have:=run_buildSlice (P:=P) w t e len (parts.map fun x=>(x.1,a.eval x.2)) r ie z hu hi hz (by omega) (by omega) (by rw [hparts];exact hf)
  generalize a.eval=ρ at this ⊢
  simp [execOp,ho,this]
 unfold Oper.wp
 rw [he,Oper.upon_value,hd]
 have hrs':r.size=len*ie.size:=by rw [hrs];simp
 have hlm:len≤maxLen:=by
  have:=Nat.le_of_ble_eq_true h24
  have:len≤len*ie.size:=Nat.le_mul_of_pos_right _ hs0
  unfold maxLen;omega
 have hrn2:=rnB hn2
 have hown:=World.ownsRow_lit (e:=e) (size:=ie.size) (base:=w.heap.size) w r len (Nat.le_refl _) hlm hrs'
 have hkp:∀ b o u,Us w0 U0 D b o→w.cell? ⟨b,o,none⟩=some u→Us w0 U0 D b o∧(w.alloc (.cells r e)).cell? ⟨b,o,none⟩=some u:=fun b o u hu hc=>by
  refine ⟨hu,?_⟩
  have hlt:b<w.heap.size:=World.block_lt_of_cell? w _ hc
  rw [World.cell?_of_block (w:=w) ((bA (Below.refl w.heap.size w) (.cells r e)).block b hlt)]
  exact hc
 have hG:=h.newrow (avn := .mrow e ie.size cs) (v' := .slice (some ⟨w.heap.size,0,none⟩) len len) (D':=D) (X:=fun _=>False) (n:=nn) hrn2 (hN (nn,[]) (by simp)).nr (by simp) ⟨(bA (Below.refl w.heap.size w) (.cells r e)).os,(bA (Below.refl w.heap.size w) (.cells r e)).tape,(bA (Below.refl w.heap.size w) (.cells r e)).output,(bA (Below.refl w.heap.size w) (.cells r e)).size,fun b hb hx=>(bA (Below.refl w.heap.size w) (.cells r e)).block b hb⟩ (fun b hb=>hb.elim) (fun g hg=>by
   have hg:(Value.slice (some ⟨w.heap.size,0,none⟩) len len).ownBlock=some g:=hg
   refine ⟨.inr (hown.lt g hg).1,(hown.lt g hg).2,fun o _ hd=>?_⟩
   have:=(hown.lt g hg).1
   have:=h.dlt _ _ hd
   omega) (fun b o hd => .inl hd) (fun b o hd=>Nat.lt_of_lt_of_le (h.dlt _ _ hd) (bA (Below.refl w.heap.size w) (.cells r e)).size) hkp (fun hv lv=>by
   refine ⟨r.toList,?_,hs0,sZ hsz,?_⟩
   ·show (w.alloc (.cells r e)).ownsRow 0 e ie.size _ cs.length _
    rw [hlen]
    exact r7 hown (Nat.zero_le _)
   ·rw [hr];exact Sq.keep hkp (S6 hvv))
 refine hK _ _ ⟨_,_,hG.put (bL hn) (bL h5) ⟨RW.rn hrn2,?_⟩⟩
 show SlV ((fun x=>if x=nn then Value.slice (some ⟨w.heap.size,0,none⟩) len len else hv x) nn) 0 len ie.size _
 simp only [if_true]
 exact R2 rfl (Nat.le_refl _) (.inr ⟨_,rfl⟩)
theorem zbG {P:Program} {w0:World} {U0:UX} {nt:Nat} {ops:Array Oper} {o:Oper} {S:Nat→Option AV} {gs:List Nat} {d:Nat} {t:TypeId} {e:TypeId} {len:Nat} {parts:Array (Nat×Operand)} {ie:TypeInfo} {z:Value} {cs:List CV} {sz:Nat} (nn:Nat) (p:Gd w0 U0 nt ops o gs S:=by exact gN rfl) (q:o.dst=some d:=by exact rfl) (y:Nat.blt d nt=true:=by exact rfl) (A:Nat.blt d 100000=true:=by exact rfl) (B:o.op = .buildSlice t len parts:=by exact rfl) (C:P.underlying t=some (.slice e):=by exact rfl) (E:P.info? e=some ie:=by exact rfl) (F:ie.size=sz:=by exact rfl) (G:ie.zero=some z:=by exact rfl) (H:a4C parts.toList 0=true:=by exact rfl) (hx:Y3 S (parts.toList.map (·.2))=some cs:=by exact rfl) (hl:Nat.beq cs.length len=true:=by exact rfl) (hsz:a4z cs sz=true:=by exact rfl) (hp:Nat.blt 0 (len*sz)=true:=by exact rfl) (h24:Nat.ble (len*sz) 16777216=true:=by exact rfl) (hn2:(Nat.ble 200000 nn&&Nat.blt nn 400000)=true:=by exact rfl):AOp P w0 U0 nt ops o (gs++rdl (parts.toList.map (·.2))) [(nn,[])] S [(d,.sl nn 0 len sz),(nn,.mrow e sz cs)]:=b2G nn p q y A B C E F G H hx hl hsz hp h24 hn2
theorem AWp.hdl {c:Code} {Q:Exit→AS→Prop} (d n:Nat) (hd:Nat.blt d nt=true) (h5:Nat.blt d 100000=true) (hn:(Nat.ble 200000 n&&Nat.blt n 450000)=true) (h:∀ v,AWp P w0 U0 nt c Q ((d,.hdl v n)::s)):AWp P w0 U0 nt c Q s:=by
 intro M a w ⟨D,hv,hs⟩
 have hdn:d<a.tmps.size:=by rw [hs.size];exact bL hd
 exact h (hv n) M a w ⟨D,hv,hs.know (bL h5) (Array.getElem?_eq_getElem hdn) ⟨rnF hn,rfl⟩⟩
theorem a2X (d n dh:Nat) {len z:Nat} {v:Value} (h1:look s d=some (.sl n 0 len z)) (h2:look s dh=some (.hdl v n)) (hd:(Nat.blt d 100000&&Nat.blt dh 100000)=true):Wk w0 U0 nt s ((d,.val (.sc (a4m v len)))::s):=by
 rintro a w ⟨D,hv,h⟩
 rw [Bool.and_eq_true] at hd
 obtain ⟨u,g1,hrn,ao,m,cap,ao',e1,e2,e3,e4,e5,e6⟩:∃ u,a.tmps[d]?=some u∧RN n∧SlV (hv n) 0 len z u:=h.slot d _ h1 (bL hd.1)
 obtain ⟨_,_,_,hx⟩:∃ u,a.tmps[dh]?=some u∧RN n∧hv n=v:=h.slot dh _ h2 (bL hd.2)
 have e2:u = .slice ao len cap:=by rw [e2,e4 rfl];rfl
 refine ⟨D,hv,h.know (bL hd.1) g1 ?_⟩
 rw [←hx,e1]
 show AVRep _ _ _ _ (.val (.sc (.slice ao len cap))) u
 rw [e2]
 exact p7 rfl
theorem b1m (d n dh len:Nat) {e z:Nat} {l:List CV} {v:Value} (h1:look s d=some (.val (.sc (a4m v len)))) (h2:look s dh=some (.hdl v n)) (hm:look s n=some (.mrow e z l)) (hd:(Nat.blt d 100000&&Nat.blt dh 100000)=true) (hl:len≤l.length):Wk w0 U0 nt s ((d,.sl n 0 len z)::s):=by
 rintro a w ⟨D,hv,h⟩
 rw [Bool.and_eq_true] at hd
 obtain ⟨u,g1,g2⟩:=h.slot d _ h1 (bL hd.1)
 obtain ⟨_,_,hrn,hx⟩:∃ u,a.tmps[dh]?=some u∧RN n∧hv n=v:=h.slot dh _ h2 (bL hd.2)
 obtain ⟨xs,f1,_⟩:=h.mrow hm hrn
 obtain ⟨ao,cap,e1,e2,_⟩:=U1 f1
 have hu:u=a4m v len:=(l8.1 g2.1).1
 refine ⟨D,hv,h.know (bL hd.1) g1 ⟨hrn,?_⟩⟩
 show SlV (hv n) 0 len z u
 rw [hu,←hx,e1]
 exact ⟨ao,l.length,cap,ao,rfl,rfl,by omega,fun _=>rfl,fun _ g hg'=>by rw [hg',Nat.zero_mul],Iff.rfl⟩
def c0a:UX:=⟨fun _ _=>True,fun _=>False,fun _=>none,fun _ _ h=>by cases h⟩
theorem SimG.view (h:SimG w0 U0 nt s a w D hv) {n e z len:Nat} {l:List CV} (hm:look s n=some (.mrow e z l)) (hrn:RN n) (hl:len≤l.length):VRep (fun _ _=>True) w (.lst (l.take len)) (a4m (hv n) len):=by
 obtain ⟨xs,ho,hz,hsz,hsq⟩:=h.mrow hm hrn
 obtain ⟨va,vc,ev,e2,e3,e4,e5⟩:=F6 ho
 rw [ev]
 have hsplit:l=l.take len++l.drop len:=(List.take_append_drop _ _).symm
 have q:=hsq
 rw [hsplit,List.map_append] at q
 obtain ⟨y1,y2,ey,s1,s2⟩:=t9 q
 refine j5.2 ⟨va,len,vc,rfl,by rw [List.length_take,Nat.min_eq_left hl],by omega,e3,(fun h=>⟨by have:=(e4 h).1;omega,(e4 h).2⟩),y1,?_,s1.keep fun b o v _ hc=>⟨trivial,hc⟩⟩
 rcases e5 with h0 | ⟨b,off,ha,hlt,hc⟩
 ·left
  have:=congrArg List.length ey
  rw [h0,List.length_append] at this
  exact List.eq_nil_of_length_eq_zero (by simp at this;omega)
 ·refine .inr ⟨b,off,ha,fun i hi=>⟨trivial,?_⟩⟩
  rw [hc i (by rw [ey,List.length_append];omega),ey,List.getElem?_append_left hi]
theorem SimG.viewBox (h:SimG w0 U0 nt s a w D hv) (n:Nat) {v:Value} {k q p k1 k2 k3} {c:CV} (hb:look s (100000+n)=some ⟨5,.sc v,k,q,p⟩) (hs:look s n=some ⟨2,⟨k1,k2,k3⟩,n,0,[]⟩) (hn:n<100000) (hc:c.k≠2) (hv2:VRep (fun _ _=>True) w c v):∃ u,a.tmps[n]?=some u∧VRep (fun _ _=>True) w (.ptr c) u:=by
 obtain ⟨g,xs,ty,g0,g1,g2,g5⟩:=h.box hb (by omega)
 obtain ⟨v',g6,g7⟩:=h.slot n _ hs hn
 have g7:v' = .pointer (some ⟨o0 (hv (100000+n)),0,none⟩):=g7.2
 have hgb2:o0 (hv (100000+n))=g:=by rw [g0];rfl
 rw [hgb2] at g7
 obtain rfl:xs=[v]:=(M1.1 g2).1
 refine ⟨v',g6,?_⟩
 rw [g7]
 refine a0L.2 ⟨g,0,[v],rfl,?_,fun i hi=>⟨trivial,?_⟩⟩
 ·unfold VRep at hv2;rw [if_neg hc] at hv2;exact hv2
 have:=E3 (ys:=[]) (us:=[]) g1 (by simp) i hi
 simpa using this
theorem b4U {c:Code} {Q:Exit→AS→Prop} {R:Exit→Prop} (vs:List (Nat×CV)) (dr:Nat) (x:Value) (objs:AS)
  (hview:∀ a w D hv,SimG w0 U0 nt s a w D hv→∀ q∈vs,∃ v,a.tmps[q.1]?=some v∧VRep (fun _ _=>True) w q.2 v)
  (h:∀ w,AWp P w c0a nt c (fun e s'=>R e∧look s' dr=some (.val (.sc x))) (vs.map fun q=>(q.1,.val q.2)))
  (hsub:SubL s objs) (hk:(kO objs).all (Nat.ble 100000)=true) (hvk:(vs.all fun q=>Nat.blt q.1 100000)=true) (hdr:Nat.blt dr 100000=true) (hQ:∀ e,R e→Q e ((dr,.val (.sc x))::objs)):AWp P w0 U0 nt c Q s:=by
 intro M a w ⟨D,hv,hs⟩
 have hlow:∀ {k av},look (vs.map fun q=>(q.1,AV.val q.2)) k=some av→∃ q∈vs,k=q.1∧av = .val q.2:=fun {k av} h1=>by
  obtain ⟨q,hq,he⟩:=List.mem_map.1 (C9 h1)
  injection he with e1 e2
  exact ⟨q,hq,e1.symm,e2.symm⟩
 rw [List.all_eq_true] at hvk hk
 have hlt:∀ {k av},look (vs.map fun q=>(q.1,AV.val q.2)) k=some av→k<100000:=fun {k av} h1=>by
  obtain ⟨q,hq,rfl,_⟩:=hlow h1
  exact bL (hvk q hq)
 have hS:Sim w c0a nt (vs.map fun q=>(q.1,AV.val q.2)) a w:=by
  refine ⟨fun _ _=>False,hv,BelowX.refl _ _,hs.dfr,hs.size,fun d av h1 h2=>?_,fun n o av h1 h2 h3 h4=>?_,fun n o o' av av' h1 h2=>?_,fun k av h1 h2=>?_,fun k av g h1 h2=>?_,fun k k' av av' g h1 h2 h3 h4=>?_,fun k v h1=>(by cases h1),fun b o hd=>hd.elim⟩
  ·obtain ⟨q,hq,rfl,rfl⟩:=hlow h1
   obtain ⟨v,g1,g2⟩:=hview a w D hv hs q hq
   exact ⟨v,g1,k8 (g2.keep fun b o v _ hc=>⟨.inl ⟨World.block_lt_of_cell? w _ hc,trivial,fun h=>h⟩,hc⟩)⟩
  ·have:=hlt h1;unfold b9 at this;omega
  ·have:=hlt h1;unfold b9 at this;omega
  ·have:=hlt h1;have:=h2.1;omega
  ·have:=hlt h1;have:=h2.1;omega
  ·have:=hlt h1;have:=h3.1;omega
 refine M7 (h w M a w hS) ?_
 rintro e a' w' ⟨s',⟨hR,hx⟩,D',hv',g⟩
 refine ⟨_,hQ e hR,D,hv,?_⟩
 have hB:Below w.heap.size w w':=g.below.below fun k hk=>hk
 have h1:=(hs.sub hsub.sub).grow' hB
 have hlow2:∀ {k av},look objs k=some av→100000≤k:=fun {k av} h1=>Nat.le_of_ble_eq_true (hk k (j8 h1))
 have h2:SimG w0 U0 nt objs a' w' D hv:=⟨h1.below,g.dfr,g.size,fun d av h7 h8=>by have:=hlow2 h7;omega,h1.fld,h1.fdis,h1.obj,h1.blk,h1.disj,h1.fix,h1.dlt⟩
 obtain ⟨v,k1,k2⟩:=g.slot dr _ hx (bL hdr)
 obtain ⟨rfl,k3⟩:=l8.1 k2.1
 exact h2.know (bL hdr) k1 (p7 k3)
theorem a9k {W:World} {f:FuncId} {x:Value} {c2:CV} {e z nm N:Nat} {l:List CV} (h1:300000≤nm) (h2:nm<450000) (hN:N≤l.length) (h:AFun P W f [.lst (l.take N),c2] (.val (.sc x))):p6 P f [(nm,.mrow e z l)] [.sl nm 0 N z,.val c2] (.val (.sc x)) [(nm,.mrow e z l)]:=by
 refine ⟨h.1,fun U w hv a0 vs hU hp ha=>?_⟩
 obtain ⟨u1,us1,rfl,a1,u2,us2,rfl,a2,a4⟩:=ha
 have a4:us2=[]:=a4
 subst a4
 have hrn:RN nm:=⟨by omega,by omega⟩
 have hlk:look [(nm,AV.mrow e z l)] nm=some (.mrow e z l):=by rw [f0];simp
 have hvw:=hp.view hlk hrn hN
 have a1:RN nm∧SlV (hv nm) 0 N z u1:=a1
 obtain ⟨_,ao,m,cap,ao',s1,s2,s3,s4,_⟩:=a1
 have e9:u1=a4m (hv nm) N:=by rw [s1,s2,s4 rfl];rfl
 refine (h.2.2.2 (fun _ _=>True) w _ trivial ⟨_,_,rfl,by rw [e9];exact hvw,_,_,rfl,a2.1.mono fun b o _=>trivial,rfl⟩).mono ?_
 rintro e' w' ⟨v,rfl,hr,hB⟩
 obtain ⟨rfl,h9⟩:=l8.1 hr
 exact ⟨_,_,hv,a0,rfl,hp.grow' hB,p7 h9⟩
end
end Go.Proofs.YtglmoficcjphaaaGreat
namespace Go.Proofs.YtglmoficcjphaaaGreat
open Go.RowKit
set_option linter.unusedVariables false
set_option linter.unusedSimpArgs false
set_option maxRecDepth 100000
def Tm.pa (t:Tm) (n:Int):Option Tm:=if 0≤n then t.ps[n.toNat]? else none
def c3M (p q:List Int):Bool:=decide (q=p.take q.length)
def atP:List Int→Tm→Option Tm
 | [],t=>some t
 | k::ks,t=>(t.pa k).bind (atP ks)
def c2X (p:List Int) (t:Tm) (k:Nat):Tm:=(atP (p.take k) t).getD ⟨0,[]⟩
theorem a7U {U:Nat→Nat→Prop} {w:World} {a:Option Addr} {xs:List Value} (h:At U w a xs):Cs w a xs:=by
 rcases h with h | ⟨b,off,ha,hc⟩
 ·exact .inl h
 ·by_cases hz:xs=[]
  ·exact .inl hz
  ·refine .inr ⟨b,off,ha,?_,fun i hi=>(hc i hi).2⟩
   have hpos:0<xs.length:=List.length_pos_iff.2 hz
   have:=(hc 0 hpos).2
   rw [List.getElem?_eq_getElem hpos] at this
   exact World.block_lt_of_cell? w _ this
theorem a9L {w:World} {base:Nat} {e:TypeId} {size:Nat} {v:Value} {n:Nat} {xs:List Value} (h:w.ownsRow base e size v n xs) :
  ∃ a c,v = .slice a n c∧n≤c∧c≤maxLen∧(a=none→n=0∧c=0)∧At (fun b _=>base≤b) w a xs:=by
 have ho:=h
 obtain ⟨h1,h2⟩:=h
 rcases h2 with ⟨rfl,rfl⟩ | ⟨g,cap,cur,rfl,hb,hh,hn,hm,hs,ht⟩
 ·exact ⟨none,0,rfl,by omega,by simp,fun _=>⟨rfl,rfl⟩,.inl (List.eq_nil_of_length_eq_zero (by omega))⟩
 ·refine ⟨_,cap,rfl,hn,hm,(fun h=>by cases h),.inr ⟨g,0,rfl,fun i hi=>⟨hb,?_⟩⟩⟩
  rw [show 0+i=i by omega]
  exact ho.cellAt i (by omega)
def c2m (u:Tm):List Int→Tm→Option Tm
 | [],t=>some u.strip
 | k::ks,t=>(t.pa k).bind fun s=>(c2m u ks s).map fun v=>⟨t.f,(t.l.take k.toNat).map Tm.strip++v::(t.l.drop (k.toNat+1)).map Tm.strip⟩
end Go.Proofs.YtglmoficcjphaaaGreat
namespace Go.Proofs.YtglmoficcjphaaaGreat
set_option linter.unusedVariables false
set_option linter.unusedSimpArgs false
theorem b3s {l:List Tm} {m:Nat} {s:Tm} (h:l[m]?=some s):l=l.take m++s::l.drop (m+1)∧m<l.length:=by
 have hm:m<l.length:=by
  rcases Nat.lt_or_ge m l.length with h1 | h1
  ·exact h1
  ·rw [List.getElem?_eq_none h1] at h;cases h
 refine ⟨?_,hm⟩
 have e:l[m]=s:=by rw [List.getElem?_eq_getElem hm] at h;exact Option.some.inj h
 rw [←e,←List.drop_eq_getElem_cons hm,List.take_append_drop]
def cov (a b:Tm):Prop:=∀ v,b.vs.count v≤a.vs.count v
def b0Z (z w:Int):Int:=if 0<z then 1 else if z<0 then -1 else w
noncomputable def b6d (o:Int) (c d:Prop):Int:=
 haveI:=Classical.propDecidable
 if (o=1∧¬ c)∨(o = -1∧¬ d) then 2 else o
noncomputable def a6j (z:Int) (c d:Prop) (w:Int):Int:=if w=0 then 0 else b6d (b0Z z w) c d
def hdK (a b:Tm):Int:=if a.f<0∨b.f<0 then 2 else if a.f≠b.f then y7 a.f b.f else y7 a.l.length b.l.length
noncomputable def a0s (k:Int) (r:Int):Int:=if k≠0 then k else r
noncomputable def szD (a b:Tm):Int:=(a.size:Int)-b.size
noncomputable def kb (p:Tm):Tm→Int:=
 Tm.rec (motive_1:=fun _=>Tm→Int) (motive_2:=fun _=>List Tm→Int)
  (fun f l ih t=>a6j (szD ⟨f,l⟩ t) (cov ⟨f,l⟩ t) (cov t ⟨f,l⟩) (if f≠t.f∨(Tm.mk f l).ps.length≠t.ps.length then hdK ⟨f,l⟩ t else if f<0 then 0 else ih t.l))
  (fun _=>0)
  (fun _ _ ih1 ih2 ts=>match ts with | []=>0 | t::ts=>a0s (ih1 t) (ih2 ts)) p
noncomputable def kbs (ps:List Tm):List Tm→Int:=
 Tm.rec_1 (motive_1:=fun _=>Tm→Int) (motive_2:=fun _=>List Tm→Int)
  (fun f l ih t=>a6j (szD ⟨f,l⟩ t) (cov ⟨f,l⟩ t) (cov t ⟨f,l⟩) (if f≠t.f∨(Tm.mk f l).ps.length≠t.ps.length then hdK ⟨f,l⟩ t else if f<0 then 0 else ih t.l))
  (fun _=>0)
  (fun _ _ ih1 ih2 ts=>match ts with | []=>0 | t::ts=>a0s (ih1 t) (ih2 ts)) ps
noncomputable def wi (a b:Tm):Int:=if a.f≠b.f∨a.ps.length≠b.ps.length then hdK a b else kbs a.ps b.ps
theorem b0L (ts:List Tm):kbs [] ts=0:=rfl
theorem a0v (p:Tm) (ps:List Tm) (t:Tm) (ts:List Tm):kbs (p::ps) (t::ts)=a0s (kb p t) (kbs ps ts):=rfl
theorem a2d (a b:Tm):kb a b=a6j (szD a b) (cov a b) (cov b a) (wi a b):=by
 cases a with
 | mk f l =>
  show a6j _ _ _ _=_
  congr 1
  unfold wi
  simp only
  split
  ·rfl
  ·rename_i h
   by_cases hf:f<0
   ·rw [if_pos hf,Tm.ps_of_var (t:=⟨f,l⟩) hf,b0L]
   ·rw [if_neg hf,Tm.ps_of_sym (t:=⟨f,l⟩) (by show 0≤f;omega),Tm.ps_of_sym (t:=b) (by have:=Classical.not_not.1 (fun e=>h (.inl e));omega)]
    rfl
theorem a9g (z:Int) (c d:Prop) (w:Int):(w=0∧a6j z c d w=0)∨(w≠0∧∃ o,((0<z∧o=1)∨(z<0∧o = -1)∨(z=0∧o=w))∧((a6j z c d w=2∧((o=1∧¬ c)∨(o = -1∧¬ d)))∨(a6j z c d w=o∧¬ ((o=1∧¬ c)∨(o = -1∧¬ d))))):=by
 unfold a6j
 by_cases h0:w=0
 ·left;exact ⟨h0,if_pos h0⟩
 ·right
  refine ⟨h0,b0Z z w,?_,?_⟩
  ·unfold b0Z
   by_cases h1:0<z
   ·rw [if_pos h1];exact .inl ⟨h1,rfl⟩
   ·rw [if_neg h1]
    by_cases h2:z<0
    ·rw [if_pos h2];exact .inr (.inl ⟨h2,rfl⟩)
    ·rw [if_neg h2];exact .inr (.inr ⟨by omega,rfl⟩)
  ·rw [if_neg h0]
   generalize b0Z z w=o
   unfold b6d
   by_cases h3:(o=1∧¬ c)∨(o = -1∧¬ d)
   ·left;exact ⟨if_pos h3,h3⟩
   ·right;exact ⟨if_neg h3,h3⟩
theorem G6 {z:Int} {c d:Prop} {w:Int}:a6j z c d w=0↔w=0:=by
 rcases a9g z c d w with ⟨h1,h2⟩ | ⟨h1,o,h2,⟨h3,h4⟩ | ⟨h3,h4⟩⟩
 ·exact ⟨fun _=>h1,fun _=>h2⟩
 ·omega
 ·omega
def K4 (k:Int):Prop:=k=0∨k=1∨k = -1∨k=2
theorem b3e {a b:Tm} (h:a.f≠b.f∨a.ps.length≠b.ps.length):hdK a b≠0:=by
 unfold hdK
 split
 ·omega
 ·rename_i h1
  rw [Tm.ps_of_sym (t:=a) (by omega),Tm.ps_of_sym (t:=b) (by omega)] at h
  split
  ·rcases q8 a.f b.f with h2 | h2 | h2<;>omega
  ·rcases q8 a.l.length b.l.length with h2 | h2 | h2<;>omega
theorem a7u:∀ {l m:List Tm},l.length=m.length→(∀ s∈l,∀ t,kb s t=0↔s.strip=t.strip)→(kbs l m=0↔l.map Tm.strip=m.map Tm.strip)
 | [],[],_,_=>by simp [b0L]
 | [],_::_,h,_=>by simp at h
 | _::_,[],h,_=>by simp at h
 | x::l,y::m,h,ih=>by
  rw [a0v,List.map_cons,List.map_cons,List.cons.injEq,←ih x (by simp) y,←a7u (by simpa using h) fun s hs=>ih s (List.mem_cons_of_mem _ hs)]
  unfold a0s
  split
  ·rename_i h1
   constructor
   ·intro h2;exact absurd h2 h1
   ·rintro ⟨h2,_⟩;exact h2
  ·rename_i h1
   exact ⟨fun h2=>⟨Classical.not_not.1 h1,h2⟩,fun h2=>h2.2⟩
theorem a5E (a b:Tm):a.strip=b.strip↔a.f=b.f∧a.ps.map Tm.strip=b.ps.map Tm.strip:=by
 rw [Tm.strip_eq,Tm.strip_eq b,Tm.mk.injEq]
theorem b6Y (a:Tm):∀ b,kb a b=0↔a.strip=b.strip:=by
 induction a using Tm.indp with
 | h a ih =>
  intro b
  rw [a2d,G6,a5E]
  unfold wi
  split
  ·rename_i h
   constructor
   ·intro h1;exact absurd h1 (b3e h)
   ·rintro ⟨h1,h2⟩
    have:=congrArg List.length h2
    rw [List.length_map,List.length_map] at this
    omega
  ·rename_i h
   have hf:a.f=b.f:=by omega
   rw [a7u (by omega) ih]
   exact ⟨fun h1=>⟨hf,h1⟩,fun h1=>h1.2⟩
def trn (k:Int):Int:=if k=2 then 2 else-k
def cn (s:Tm) (l:List Tm):Nat:=l.countP (fun t=>B0 s t)
theorem b9t (s:Tm):cn s []=0:=rfl
theorem b7G (s t:Tm) (l:List Tm):cn s (t::l)=cn s l+(if B0 s t=true then 1 else 0):=by unfold cn;exact List.countP_cons
theorem b5s (s:Tm) (l m:List Tm):cn s (l++m)=cn s l+cn s m:=by unfold cn;exact List.countP_append
theorem a9z (s:Tm):B0 s s=true:=(N3 _ _).2 rfl
def c2A (A B:List Tm):Prop:=(∃ s,cn s B<cn s A)∧∀ s,cn s A<cn s B→∃ t,cn t B<cn t A∧kb t s=1
theorem mul_one (A:List Tm) (z:Tm):c2A (A++[z]) A:=by
 refine ⟨⟨z,?_⟩,fun s hs=>?_⟩
 ·rw [b5s,b7G,b9t,a9z];simp
 ·rw [b5s] at hs;omega
def I1:Nat→List Tm→List Tm→List Tm×List Tm
 | 0,a,b=>(a,b)
 | n+1,a,b=>match a[n]? with
  | none=>I1 n a b
  | some t=>match b.findIdx? (B0 t) with
   | none=>I1 n a b
   | some k=>I1 n (a.eraseIdx n) (b.eraseIdx k)
noncomputable def b3i (X Y:List Tm):Bool:=decide (0<X.length)&&!(Y.any fun y=>!(X.any fun x=>decide (kb x y=1)))
noncomputable def a9e (a b:List Tm):Bool:=b3i (I1 a.length a b).1 (I1 a.length a b).2
def c2t (b:List Tm) (u:List Bool) (t:Tm):Option Nat:=(b.zip u).findIdx? (fun p=>!p.2&&B0 t p.1)
def lsD:List Tm→List Tm→List Bool→List Tm
 | [],b,u=>[]
 | t::a,b,u=>match c2t b u t with
  | none=>t::lsD a b u
  | some k=>lsD a b (u.set k true)
def rm (s:Tm) (b:List Tm) (u:List Bool):Nat:=(b.zip u).countP (fun p=>!p.2&&B0 s p.1)
def c2R (a b:List Tm):List Tm:=lsD a b (List.replicate b.length false)
structure Sc where
 sz:Int
 mp:List (Int×Int)
 sp:Int
 lk:Int
def A9:List (Int×Int)→Int→Option Int
 | [],_=>none
 | (k,x)::l,v=>if k=v then some x else A9 l v
def C0 (l:List (Int×Int)) (v:Int):Int:=(A9 l v).getD 0
def R0:List (Int×Int)→Int→Int→List (Int×Int)
 | [],v,y=>[(v,y)]
 | (k,x)::l,v,y=>if k=v then (v,y)::l else (k,x)::R0 l v y
theorem b6V (l:List (Int×Int)) (v y:Int):R0 l v y≠[]:=by
 cases l with
 | nil=>simp [R0]
 | cons p l =>
  obtain ⟨k,x⟩:=p
  rw [R0]
  split<;>simp
theorem b2a (l:List (Int×Int)) (v y u:Int):A9 (R0 l v y) u=if v=u then some y else A9 l u:=by
 induction l with
 | nil=>rfl
 | cons p l ih =>
  obtain ⟨k,x⟩:=p
  rw [R0]
  by_cases h:k=v
  ·rw [if_pos h,A9,A9]
   by_cases h2:v=u
   ·rw [if_pos h2,if_pos h2]
   ·rw [if_neg h2,if_neg h2,if_neg (by omega)]
  ·rw [if_neg h,A9,A9]
   by_cases h2:k=u
   ·rw [if_pos h2,if_pos h2,if_neg (by omega)]
   ·rw [if_neg h2,if_neg h2,ih]
theorem a8y (l:List (Int×Int)) (v y u:Int):C0 (R0 l v y) u=if v=u then y else C0 l u:=by
 unfold C0
 rw [b2a]
 split<;>rfl
def B9 (s:Sc) (v σ:Int):Sc:=⟨s.sz,R0 s.mp v (C0 s.mp v+σ),s.sp+(max (C0 s.mp v+σ) 0-max (C0 s.mp v) 0),s.lk+(max (-(C0 s.mp v+σ)) 0-max (-(C0 s.mp v)) 0)⟩
def a6a (σ:Int) (s:Sc) (t:Tm):Sc:=if t.f<0 then B9 ⟨s.sz+σ,s.mp,s.sp,s.lk⟩ (-1-t.f) σ else ⟨s.sz+σ,s.mp,s.sp,s.lk⟩
def addT (σ:Int) (s:Sc) (t:Tm):Sc:=t.flat.foldl (a6a σ) s
def addL (σ:Int) (s:Sc) (l:List Tm):Sc:=(l.flatMap Tm.flat).foldl (a6a σ) s
theorem b3W {σ:Int} {s:Sc} {t:Tm} (h:t.f<0):addT σ s t=B9 ⟨s.sz+σ,s.mp,s.sp,s.lk⟩ (-1-t.f) σ:=by
 unfold addT
 rw [Tm.flat_eq,Tm.ps_of_var h]
 show a6a σ s t=_
 unfold a6a
 rw [if_pos h]
theorem b4s {σ:Int} {s:Sc} {t:Tm} (h:¬ t.f<0):addT σ s t=addL σ ⟨s.sz+σ,s.mp,s.sp,s.lk⟩ t.l:=by
 unfold addT addL
 rw [Tm.flat_eq,Tm.ps_of_sym (by omega),List.foldl_cons]
 congr 1
 unfold a6a
 rw [if_neg h]
theorem b2y {σ:Int} {s:Sc} {l:List Tm} {k:Nat} {t:Tm} (h:l[k]?=some t):addL σ s (l.take (k+1))=addT σ (addL σ s (l.take k)) t:=by
 unfold addL addT
 rw [List.take_add_one,h,List.flatMap_append,List.foldl_append]
 simp
def upS (l:List (Int×Int)):Int:=(l.map fun p=>max p.2 0).sum
def dnS (l:List (Int×Int)):Int:=(l.map fun p=>max (-p.2) 0).sum
def ndk (l:List (Int×Int)):Prop:=(l.map (·.1)).Nodup
theorem a2I {l:List (Int×Int)} {v:Int} (h:v∉l.map (·.1)):A9 l v=none:=by
 induction l with
 | nil=>rfl
 | cons p l ih =>
  obtain ⟨k,x⟩:=p
  rw [List.map_cons,List.mem_cons,not_or] at h
  rw [A9,if_neg (fun e=>h.1 e.symm),ih h.2]
theorem b4C {l:List (Int×Int)} {v y u:Int} (h:u∈(R0 l v y).map (·.1)):u=v∨u∈l.map (·.1):=by
 induction l with
 | nil=>simp [R0] at h;exact .inl h
 | cons p l ih =>
  obtain ⟨k,x⟩:=p
  rw [R0] at h
  split at h
  ·rename_i e
   rw [List.map_cons,List.mem_cons] at h ⊢
   rcases h with h | h
   ·exact .inl h
   ·exact .inr (.inr h)
  ·rw [List.map_cons,List.mem_cons] at h ⊢
   rcases h with h | h
   ·exact .inr (.inl h)
   ·rcases ih h with h | h
    ·exact .inl h
    ·exact .inr (.inr h)
theorem b7Q {l:List (Int×Int)} (h:ndk l) (v y:Int):ndk (R0 l v y)∧upS (R0 l v y)=upS l+(max y 0-max (C0 l v) 0)∧dnS (R0 l v y)=dnS l+(max (-y) 0-max (-(C0 l v)) 0):=by
 induction l with
 | nil=>exact ⟨by simp [R0,ndk],by simp [R0,upS,C0,A9],by simp [R0,dnS,C0,A9]⟩
 | cons p l ih =>
  obtain ⟨k,x⟩:=p
  unfold ndk at h
  rw [List.map_cons,List.nodup_cons] at h
  rw [R0]
  by_cases e:k=v
  ·rw [if_pos e]
   have hg:C0 ((k,x)::l) v=x:=by unfold C0 A9;rw [if_pos e];rfl
   rw [hg]
   refine ⟨by unfold ndk;rw [List.map_cons,List.nodup_cons];exact e▸h,?_,?_⟩
   ·simp only [upS,List.map_cons,List.sum_cons];omega
   ·simp only [dnS,List.map_cons,List.sum_cons];omega
  ·rw [if_neg e]
   have hg:C0 ((k,x)::l) v=C0 l v:=by unfold C0;rw [A9,if_neg e]
   obtain ⟨h1,h2,h3⟩:=ih h.2
   rw [hg]
   refine ⟨?_,?_,?_⟩
   ·unfold ndk
    rw [List.map_cons,List.nodup_cons]
    refine ⟨fun hm=>?_,h1⟩
    rcases b4C hm with hm | hm
    ·exact e hm
    ·exact h.1 hm
   ·unfold upS at h2 ⊢;rw [List.map_cons,List.sum_cons,h2,List.map_cons,List.sum_cons];omega
   ·unfold dnS at h3 ⊢;rw [List.map_cons,List.sum_cons,h3,List.map_cons,List.sum_cons];omega
theorem b4l {l:List (Int×Int)} (h:ndk l):0≤upS l∧(upS l=0↔∀ v,C0 l v≤0):=by
 induction l with
 | nil=>exact ⟨by simp [upS],by simp [upS,C0,A9]⟩
 | cons p l ih =>
  obtain ⟨k,x⟩:=p
  unfold ndk at h
  rw [List.map_cons,List.nodup_cons] at h
  obtain ⟨h1,h2⟩:=ih h.2
  have e:upS ((k,x)::l)=max x 0+upS l:=by simp [upS]
  rw [e]
  refine ⟨by omega,?_⟩
  constructor
  ·intro h3 v
   have h4:=h2.1 (by omega) v
   unfold C0 at h4 ⊢
   rw [A9]
   split
   ·show x≤0;omega
   ·exact h4
  ·intro h3
   have hx:=h3 k
   unfold C0 at hx
   rw [A9,if_pos rfl] at hx
   have hx:x≤0:=hx
   have:=h2.2 fun v=>by
    by_cases hv:k=v
    ·subst hv
     unfold C0
     rw [a2I h.1]
     exact Int.le_refl 0
    ·have:=h3 v
     unfold C0 at this ⊢
     rw [A9,if_neg hv] at this
     exact this
   omega
theorem b4d {l:List (Int×Int)} (h:ndk l):0≤dnS l∧(dnS l=0↔∀ v,0≤C0 l v):=by
 induction l with
 | nil=>exact ⟨by simp [dnS],by simp [dnS,C0,A9]⟩
 | cons p l ih =>
  obtain ⟨k,x⟩:=p
  unfold ndk at h
  rw [List.map_cons,List.nodup_cons] at h
  obtain ⟨h1,h2⟩:=ih h.2
  have e:dnS ((k,x)::l)=max (-x) 0+dnS l:=by simp [dnS]
  rw [e]
  refine ⟨by omega,?_⟩
  constructor
  ·intro h3 v
   have h4:=h2.1 (by omega) v
   unfold C0 at h4 ⊢
   rw [A9]
   split
   ·show 0≤x;omega
   ·exact h4
  ·intro h3
   have hx:=h3 k
   unfold C0 at hx
   rw [A9,if_pos rfl] at hx
   have hx:0≤x:=hx
   have:=h2.2 fun v=>by
    by_cases hv:k=v
    ·subst hv
     unfold C0
     rw [a2I h.1]
     exact Int.le_refl 0
    ·have:=h3 v
     unfold C0 at this ⊢
     rw [A9,if_neg hv] at this
     exact this
   omega
structure Ss (s:Sc) (z:Int) (D:Int→Int):Prop where
 sz:s.sz=z
 nd:ndk s.mp
 sp:s.sp=upS s.mp
 lk:s.lk=dnS s.mp
 at_:∀ v,C0 s.mp v=D v
theorem Ss.addV {s:Sc} {z:Int} {D:Int→Int} (h:Ss s z D) (v σ:Int):Ss (B9 s v σ) z (fun u=>D u+if v=u then σ else 0):=by
 obtain ⟨h1,h2,h3⟩:=b7Q h.nd v (C0 s.mp v+σ)
 refine ⟨h.sz,h1,?_,?_,fun u=>?_⟩
 ·show s.sp+_=upS (R0 _ _ _);rw [h2,h.sp]
 ·show s.lk+_=dnS (R0 _ _ _);rw [h3,h.lk]
 ·show C0 (R0 _ _ _) u=_
  rw [a8y]
  split
  ·rename_i e;subst e;rw [h.at_]
  ·rw [h.at_];omega
theorem b4x {σ:Int} {s:Sc} {t:Tm} (h:t.f<0):a6a σ s t=B9 ⟨s.sz+σ,s.mp,s.sp,s.lk⟩ (-1-t.f) σ:=if_pos h
theorem b4i {σ:Int} {s:Sc} {t:Tm} (h:¬ t.f<0):a6a σ s t=⟨s.sz+σ,s.mp,s.sp,s.lk⟩:=if_neg h
theorem Ss.fold {σ:Int}:∀ {l:List Tm} {s:Sc} {z:Int} {D:Int→Int},Ss s z D→Ss (l.foldl (a6a σ) s) (z+σ*l.length) (fun v=>D v+σ*((vsL l).count v:Int))
 | [],s,z,D,h=>by
  refine ⟨by show s.sz=_;rw [h.sz];simp,h.nd,h.sp,h.lk,fun v=>?_⟩
  show C0 s.mp v=_
  rw [h.at_];simp [vsL]
 | t::l,s,z,D,h=>by
  rw [List.foldl_cons]
  have h0:Ss ⟨s.sz+σ,s.mp,s.sp,s.lk⟩ (z+σ) D:=⟨by show s.sz+σ=_;rw [h.sz],h.nd,h.sp,h.lk,h.at_⟩
  have e1:σ*((t::l).length:Int)=σ+σ*(l.length:Int):=by
   rw [List.length_cons];push_cast;rw [Int.mul_add];omega
  by_cases hf:t.f<0
  ·have h1:=(h0.addV (-1-t.f) σ).fold (σ:=σ) (l:=l)
   rw [b4x hf]
   refine ⟨?_,h1.nd,h1.sp,h1.lk,fun v=>?_⟩
   ·rw [h1.sz,e1];omega
   ·rw [h1.at_]
    have e2:(vsL (t::l)).count v=(if -1-t.f=v then 1 else 0)+(vsL l).count v:=by
     unfold vsL
     rw [List.filter_cons,if_pos (by simpa using hf),List.map_cons,List.count_cons]
     simp only [beq_iff_eq]
     omega
    rw [e2]
    split
    ·push_cast;rw [Int.mul_add];omega
    ·push_cast;rw [Int.mul_add];omega
  ·have h1:=h0.fold (σ:=σ) (l:=l)
   rw [b4i hf]
   refine ⟨?_,h1.nd,h1.sp,h1.lk,fun v=>?_⟩
   ·rw [h1.sz,e1];omega
   ·rw [h1.at_]
    have e2:vsL (t::l)=vsL l:=by
     unfold vsL
     rw [List.filter_cons,if_neg (by simpa using hf)]
    rw [e2]
end Go.Proofs.YtglmoficcjphaaaGreat
