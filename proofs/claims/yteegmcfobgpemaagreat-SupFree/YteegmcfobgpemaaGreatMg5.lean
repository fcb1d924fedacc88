/-
 SbClone SbNorm SbNorm2 SbSortM SbLaw3 SbThen UnMath UnCls UnInv UnMod UnJoin UnRun UnKahn UnUse
-/
import Derived.Test.YteegmcfobgpemaaGreatMg4
namespace Go.Proofs.YteegmcfobgpemaaGreat
open List (append_assoc append_nil cons_append count_append filter_append getD_eq_getElem?_getD getElem?_eq_getElem getElem?_eq_none getElem?_of_mem getElem?_set_ne getElem?_take length_append length_cons length_map length_nil length_set length_singleton map_append map_congr_left map_cons map_take mem_append mem_append_left mem_cons mem_flatMap mem_map mem_of_getElem? mem_range mem_singleton sum_cons take_length)
open Go.RowKit
set_option linter.unusedVariables false
set_option linter.unusedSimpArgs false
set_option maxRecDepth 100000
theorem a4X(W:World)(x y:Int):AFun Tryz.prog W 137 [.i x,.i y] (.val (.i (G2 x y))):=by
 refine⟨x0 Tryz.func137 rfl rfl,.inl rfl,rfl,?_⟩;rintro U w vs hW ⟨u1,us1,rfl,h1,u2,us2,rfl,h2,h3⟩;have h3:us2=[]:=h3;subst h3;obtain⟨rfl,_⟩:=o0.1 h1;obtain⟨rfl,_⟩:=o0.1 h2;refine(N3 x y w).mono ?_;rintro e w' ⟨rfl,hb⟩;exact⟨_,rfl,o0.2 ⟨rfl,rfl⟩,hb⟩
def b4q(x y:Bd):Int:=G2 x.v y.v
theorem b7A(W:World)(x y:Bd):AFun Tryz.prog W 178 [x.cw,y.cw] (.val (.i (b4q x y))):=by
 refine b9 (rs:=[.i (b4q x y)]) Tryz.func178 Tryz.ntmps178 rfl rfl rfl rfl ?_;intro w U hW;refine qz<|nc zd<|nc zd<|nc ze ?_;refine qz<|nc zg<|nc zh<|nc zg<|nc zh<|nc (zk (z:=a4X _ x.v y.v))<|nc ze ?_;exact aT ⟨.inr rfl,rfl⟩
theorem b5i(W:World)(x y:Bd):AFun Tryz.prog W 180 [x.cw,y.cw] (.val (.b (decide (x.v=y.v)))):=by
 refine b9 (rs:=[.b (decide (x.v=y.v))]) Tryz.func180 Tryz.ntmps180 rfl rfl rfl rfl ?_;intro w U hW;refine qz<|nc zd<|nc zd<|nc ze ?_;refine qz<|nc zg<|nc zh<|nc zg<|nc zh<|nc zD<|nc ze ?_;exact aT ⟨.inr rfl,rfl⟩
def a0o(b:Bd):Bool:=decide (b.t.f<0)&&decide (-1-b.t.f=b.v)
theorem b6W(W:World)(b:Bd)(h1 : -9223372036854775808<=b.t.f):AFun Tryz.prog W 160 [b.cw] (.val (.b (a0o b))):=by
 refine b9 (rs:=[.b (a0o b)]) Tryz.func160 Tryz.ntmps160 rfl rfl rfl rfl ?_;intro w U hW;refine qz<|nc zd<|nc ze ?_;unfold a0o;by_cases hf:b.t.f<0
 ·have g:decide (b.t.f<0)=true:=by simpa using hf
  refine aS<|aD (by kernel_rfl) (by kernel_rfl) ?_;refine nc zg<|nc zh<|nc (zk (z:=V1 _ b.t))<|nc zl<|nc (zg (r:=gb))<|nc (zh (r:=gb))<|nc (zk (p:=gb) (z:=Z3 _ b.t h1 hf))<|nc (zg (r:=gb))<|nc (zh (r:=gb))<|nc (zD (r:=gb))<|nc zp<|nc ze ?_;refine⟨by kernel_rfl,?_⟩;refine aT ⟨.inr rfl,?_⟩;rw[g];rfl
 ·have g:decide (b.t.f<0)=false:=by simpa using hf
  refine aS<|aD (by kernel_rfl) (by kernel_rfl) ?_;refine nc zg<|nc zh<|nc (zk (z:=V1 _ b.t))<|nc zl<|nc zq<|nc zq<|nc zq<|nc zq<|nc zq<|nc zq<|nc zr<|nc ze ?_;refine⟨by kernel_rfl,?_⟩;refine aT ⟨.inr rfl,?_⟩;rw[g];rfl
theorem b2b(L:List Bd)(hn:L.length<=1000000000) :
  r8 Tryz.prog 176 [] [.val (.lst (L.map Bd.cv))] (.sl 250007 0 L.length 3) [(250007,.mrow 112 3 (L.map Bd.cv))]:=by
 have kC:=Bd.size_all L;refine l6 Tryz.func176 Tryz.ntmps176 rfl rfl rfl rfl rfl rfl ?_;intro w U hU;refine AWp.nil 0 rfl rfl (λhl=>?_) ?_
 ·have hL:L=[]:=by simpa using hl
  subst hL;refine qz<|nc ze ?_;refine aS<|qz<|nc zl<|nc zS ?_;refine aC rfl (λ_=>?_) (λh=>by cases h);refine qz<|nc ze ?_;exact aT ⟨.inr rfl,_,c0J 2 250007 112 3 rfl rfl rfl rfl rfl,rfl,rfl,trivial⟩
 ·refine qz<|nc ze ?_;refine aS<|qz<|nc zl<|nc zT ?_;refine aC rfl (λh=>by cases h) (λ_=>?_);refine aK ?_;refine AWp.wk ((c3N 0 rfl rfl).trans (a7 (s':=[(0,.val (.lst (L.map Bd.cv)))]) ⟨rfl,trivial⟩)) ?_;refine qz<|nc zU<|nc zl<|nc (zV 250007)<|nc ze ?_;refine aT ⟨.inr rfl,_,Wk.refl _,?_,rfl,trivial⟩;show some (AV.sl _ _ _ _)=some (AV.sl _ _ _ _);rw[length_map];rfl
theorem b2W(cmp:Bd->Bd->Int)(fc:CV)(L:List Bd)(hn:L.length<20)(hc:∀W x y,P4 Tryz.prog W fc [x.cw,y.cw] (.val (.i (cmp x y)))) :
  r8 Tryz.prog 182 [(400000,.mrow 112 3 (L.map Bd.cv))] [.sl 400000 0 L.length 3,.val (.i L.length),.val fc] (.tup []) [(400000,.mrow 112 3 ((F3 (ltC cmp) 0 (L.length-1) 1 L).map Bd.cv))]:=by
 refine l6 Tryz.func182 Tryz.ntmps182 rfl rfl rfl rfl rfl rfl ?_;intro w U hU;refine qz<|nc ze ?_;refine qz<|nc zl<|nc ze<|nc ze ?_
 let st:AS:=[(0,.sl 400000 0 L.length 3),(1,.val (.i L.length)),(2,.val fc),(6,.val (.i 20)),(7,.val (.i 0)),(8,.val (.i 20)),(400000,.mrow 112 3 (L.map Bd.cv))]
 refine aS<|aB (n6 0 (λk=>st) (a7 ⟨rfl,rfl,rfl,rfl,rfl,rfl,rfl,trivial⟩) ?_);intro k hk;refine aS<|qz<|nc zl<|nc zl<|nc zF ?_;refine aC rfl (λh=>?_) (λ_=>?_)
 ·exfalso;have h:decide ((20:Int)<=(L.length:Int))=true:=h;simp at h;omega
 refine aE ?_;refine AWp.wk (a7 (s':=st) ⟨rfl,rfl,rfl,rfl,rfl,rfl,rfl,trivial⟩) ?_;have wI:=a9C cmp fc L 0 L.length (by omega) (Nat.le_refl _) (by omega) hc;rw[Nat.zero_add]at wI;refine qz<|nc zl<|nc zl<|nc zl<|nc zl<|nc (zW (z:=wI) (G:=i8 (by first | rfl | kernel_rfl))) ?_;refine aB (n6 0 (λk=>[(1,.val (.i L.length)),(6,.val (.i 20)),(400000,.mrow 112 3 ((F3 (ltC cmp) 0 (L.length-1) 1 L).map Bd.cv))]) (a7 ⟨rfl,rfl,rfl,trivial⟩) ?_);intro k hk;refine aS<|qz<|nc zl<|nc zl<|nc zi ?_;refine aC rfl (λh=>?_) (λ_=>?_)
 ·exfalso;have h:decide ((20:Int)<(L.length:Int))=true:=h;simp at h;omega
 refine aE ?_;exact⟨.inl rfl,_,Wk.refl _,rfl,rfl,trivial⟩
theorem a3K(cmp:Bd->Bd->Int)(fc:CV)(L:List Bd)(hn:L.length<20)(hc:∀W x y,P4 Tryz.prog W fc [x.cw,y.cw] (.val (.i (cmp x y)))) :
  r8 Tryz.prog 177 [(400000,.mrow 112 3 (L.map Bd.cv))] [.sl 400000 0 L.length 3,.val fc] (.tup []) [(400000,.mrow 112 3 ((F3 (ltC cmp) 0 (L.length-1) 1 L).map Bd.cv))]:=by
 refine l6 Tryz.func177 Tryz.ntmps177 rfl rfl rfl rfl rfl rfl ?_;intro w U hU;have dJ:=b2W cmp fc L hn hc;refine aR<|nc zl<|nc zl<|nc zX<|nc zl<|nc (zW (z:=dJ) (G:=i8 (by first | rfl | kernel_rfl))) ?_;exact⟨.inl rfl,_,Wk.refl _,rfl,rfl,trivial⟩
def a8Q(q:Bd->Bool):List Bd->Nat->Int
 | [],_ => -1
 | b::l,i=>if q b then(i:Int)else a8Q q l (i+1)
theorem a2u{q:Bd->Bool}:∀{l:List Bd} {i:Nat},(∀b∈l,q b=false)->a8Q q l i = -1
 | [],_,_=>rfl
 | b::l,i,h=>by rw[a8Q,h b (by simp),if_neg (by simp)];exact a2u λc hc=>h c (List.mem_cons_of_mem _ hc)
theorem a8G{q:Bd->Bool}:∀{l:List Bd} {i k:Nat} {b:Bd},l[k]?=some b->q b=true->(∀j c,j<k->l[j]?=some c->q c=false)->a8Q q l i=((i+k:Nat):Int)
 | [],_,_,_,h,_,_=>by simp at h
 | x::l,i,0,b,h,hq,_=>by simp at h;subst h;rw[a8Q,if_pos hq];rfl
 | x::l,i,k+1,b,h,hq,hf=>by
  rw[a8Q,hf 0 x (by omega) rfl,if_neg (by simp),a8G (k:=k) (by simpa using h) hq λj c hj hc=>hf (j+1) c (by omega) (by simpa using hc)];congr 1;omega
theorem b2M(q:Bd->Bool)(fc:CV)(L:List Bd)(n:Nat)(qK:n<=L.length)(hn:L.length<=1000000000)(hc:∀W x,x∈L.take n->P4 Tryz.prog W fc [x.cw] (.val (.b (q x)))) :
  r8 Tryz.prog 175 [(400000,.mrow 112 3 (L.map Bd.cv))] [.sl 400000 0 n 3,.val fc] (.val (.i (a8Q q (L.take n) 0))) [(400000,.mrow 112 3 (L.map Bd.cv))]:=by
 refine l6 Tryz.func175 Tryz.ntmps175 rfl rfl rfl rfl rfl rfl ?_;intro w U hU;refine qz<|nc ze ?_;refine aS<|qz<|nc zl<|nc zX<|nc zl ?_;refine aB (B6 n (λk=>∀j c,j<k->(L.take n)[j]?=some c->q c=false) (λk=>[(0,.sl 400000 0 n 3),(1,.val fc),(7,.val (.i n)),(8,.val (.i k)),(400000,.mrow 112 3 (L.map Bd.cv))]) (a7 ⟨rfl,rfl,rfl,rfl,rfl,trivial⟩) (λj c hj=>by omega) ?_);intro k hk hI;refine qz<|nc zi ?_;refine aS<|aC rfl (λkA=>?_) (λkA=>?_)
 ·have kE:k<n:=by simpa using kA
  obtain⟨x,jT⟩:∃x,L[k]?=some x:=⟨L[k]'(by omega),getElem?_eq_getElem (by omega)⟩
  have hx:(L.take n)[k]?=some x:=by rw[getElem?_take,if_pos kE];exact jT
  have kT:=Bd.map_at jT;refine aK<|aS<|aB<|qz<|nc zl<|nc ze ?_;refine qz<|nc zl<|nc zl<|nc zl<|nc (zO (k:=k))<|nc (zP (G:=kT))<|nc (zQ (E:=hc _ x (mem_of_getElem? hx))) ?_;refine aC rfl (λhq=>?_) (λhq=>?_)
  ·refine qz<|nc zl<|nc ze ?_;refine aT ⟨.inr rfl,_,Wk.refl _,?_,rfl,trivial⟩;rw[a8G hx hq hI,Nat.zero_add];rfl
  ·refine aK<|aR<|nc zA<|nc zl ?_;refine⟨kE,λj c hj hc=>?_,a7 ⟨rfl,rfl,rfl,rfl,rfl,trivial⟩⟩;rcases Nat.lt_or_ge j k with h | h
   ·exact hI j c h hc
   ·have:j=k:=by omega
    subst this;rw[hx]at hc;cases hc;exact hq
 ·have kE:¬ k<n:=by simpa using kA
  refine aE<|qz<|nc ze ?_;refine aT ⟨.inr rfl,_,Wk.refl _,?_,rfl,trivial⟩;rw[a2u λb hb=>?_]
  ·rfl
  ·obtain⟨j,hj⟩:=getElem?_of_mem hb;have gI:j<n:=by
    rw[getElem?_take]at hj;split at hj
    ·assumption
    ·cases hj
   exact hI j b (by omega) hj
def Bd.zero:Bd:=⟨0,⟨0,[]⟩⟩
def H7(q:Bd->Bd->Bool)(L:List Bd):Nat->List Bd
 | 0=>[]
 | m+1=>match L[m]?,(match m with | 0=>none | k+1=>L[k]?)with
  | some x,some y=>if q x y then H7 q L m else H7 q L m++[x]
  | some x,none=>H7 q L m++[x]
  | none,_=>H7 q L m
theorem a1G{q:Bd->Bd->Bool}{L:List Bd}{m:Nat}{x y:Bd}(hx:L[m+1]?=some x)(hy:L[m]?=some y)(h:q x y=true):H7 q L (m+2)=H7 q L (m+1):=by
 rw[H7];simp only[hx,hy,h,if_true]
theorem a4s{q:Bd->Bd->Bool}{L:List Bd}{m:Nat}{x y:Bd}(hx:L[m+1]?=some x)(hy:L[m]?=some y)(h:q x y=false):H7 q L (m+2)=H7 q L (m+1)++[x]:=by
 rw[H7];simp[hx,hy,h]
theorem b0u{q:Bd->Bd->Bool}{L:List Bd}:H7 q L 1=L.take 1:=by
 rw[H7];cases L with
 | nil=>rfl
 | cons x l=>simp[H7]
theorem K6{α:Type}{l:List α}{k:Nat}{x:α}(h:l[k]?=some x):l.take (k+1)=l.take k++[x]:=by
 rw[List.take_add_one,h];rfl
theorem b0w{α:Type}{l:List α}{k:Nat}{x:α}(h:k<l.length):(l.set k x).take (k+1)=l.take k++[x]:=by
 rw[K6 (x:=x) (by simp[h]),List.take_set_of_le (Nat.le_refl _)]
theorem a9U(q:Bd->Bd->Bool)(fc:CV)(L:List Bd)(hn:L.length<=1000000000)(hc:∀W x y,P4 Tryz.prog W fc [x.cw,y.cw] (.val (.b (q x y)))) :
  r8 Tryz.prog 179 [(400000,.mrow 112 3 (L.map Bd.cv))] [.sl 400000 0 L.length 3,.val fc] (.sl 400000 0 (H7 q L L.length).length 3) [(400000,.mrow 112 3 ((H7 q L L.length++List.replicate (L.length-(H7 q L L.length).length) Bd.zero).map Bd.cv))]:=by
 refine l6 Tryz.func179 Tryz.ntmps179 rfl rfl rfl rfl rfl rfl ?_;intro w U hU;have oM:H7 q L L.length=L->(H7 q L L.length).length=L.length/\(H7 q L L.length++List.replicate (L.length-(H7 q L L.length).length) Bd.zero)=L:=λh=>by rw[h];simp
 refine qz<|nc ze ?_;refine aS<|qz<|nc zl<|nc zX<|nc zi ?_;refine aC rfl (λh2=>?_) (λh2=>?_)
 ·have h2:L.length<2:=by have h2:decide ((L.length:Int)<2)=true:=h2;simp at h2;omega
  have hw:=oM (by
   match L,h2 with
   | [],_=>rfl
   | [x],_=>rfl)
  refine qz<|nc zl<|nc ze ?_;refine aT ⟨.inr rfl,_,Wk.refl _,?_,?_,trivial⟩
  ·rw[hw.1];rfl
  ·rw[hw.2];rfl
 ·have h2:2<=L.length:=by have h2:decide ((L.length:Int)<2)=false:=h2;simp at h2;omega
  refine aK<|aS<|qz<|nc ze ?_
  let st:Nat->AS:=λk=>[(0,.sl 400000 0 L.length 3),(1,.val fc),(5,.val (.i ((k+1:Nat):Int))),(400000,.mrow 112 3 (L.map Bd.cv))]
  refine aB (B6 L.length (λk=>k+1<=L.length/\H7 q L (k+1)=L.take (k+1)) st (a7 ⟨rfl,rfl,rfl,rfl,trivial⟩) ⟨by omega,b0u⟩ ?_);rintro k hk ⟨fC,hI⟩;refine aS<|qz<|nc zl<|nc zl<|nc zX<|nc zi ?_;refine aC rfl (λkA=>?_) (λkA=>?_)
  ·have kE:k+1<L.length:=by have h3:decide ((((k+1:Nat):Int))<(L.length:Int))=true:=kA;simp at h3;omega
   obtain⟨x,hx⟩:∃x,L[k+1]?=some x:=⟨L[k+1],getElem?_eq_getElem kE⟩
   obtain⟨y,hy⟩:∃y,L[k]?=some y:=⟨L[k]'(by omega),getElem?_eq_getElem (by omega)⟩
   have kT:=Bd.map_at hx;have dW:=Bd.map_at hy;refine aK<|aS<|aB<|aS<|aD (by kernel_rfl) (by kernel_rfl) ?_;refine nc zl<|nc zl<|nc zl<|nc (zO (k:=k+1))<|nc (zP (G:=kT))<|nc zl<|nc zl<|nc zB<|nc (zO (k:=k))<|nc (zP (G:=dW))<|nc (zQ (E:=hc _ x y)) ?_;refine⟨by kernel_rfl,?_⟩;refine aC rfl (λhq=>?_) (λhq=>?_)
   ·have hq:q x y=true:=hq;refine AWp.wk (a7 (s':=st k) ⟨rfl,rfl,rfl,rfl,trivial⟩) ?_;refine qz<|nc zl<|nc zl<|nc (zY (j:=k+1))<|nc ze ?_;refine aS<|qz<|nc ze ?_
    let st2:Nat->Nat->List Bd->AS:=λj kk C=>[(0,.sl 400000 0 L.length 3),(1,.val fc),(5,.val (.i kk)),(6,.sl 400000 (0+(k+1)) (L.length-(k+1)) 3),(7,.val (.i ((j+1:Nat):Int))),(400000,.mrow 112 3 (C.map Bd.cv))]
    have h0:H7 q L (k+2)=L.take (k+1):=by rw[a1G hx hy hq,hI]
    refine aB (w8 (λm s=>∃j kk C,m=L.length-j/\k+1+(j+1)<=L.length/\kk<=k+1+j/\C.length=L.length/\C.take kk=H7 q L (k+1+(j+1))/\(∀i,k+1+j<=i->C[i]?=L[i]?)/\s=st2 j kk C) (s':=st2 0 (k+1) L) (a7 ⟨rfl,rfl,rfl,rfl,rfl,rfl,trivial⟩) ⟨0,k+1,L,rfl,by omega,by omega,rfl,h0.symm,λ_ _=>rfl,rfl⟩ ?_);rintro m s ⟨j,kk,C,hm,hj1,iH,hC,iE,cD,rfl⟩;refine aS<|qz<|nc zl<|nc zl<|nc zX<|nc zi ?_;refine aC rfl (λfT=>?_) (λfT=>?_)
    ·have gI:k+1+(j+1)<L.length:=by have h3:decide ((((j+1:Nat):Int))<((L.length-(k+1):Nat):Int))=true:=fT;simp at h3;omega
     obtain⟨x2,jN⟩:∃x,L[k+1+(j+1)]?=some x:=⟨L[k+1+(j+1)],getElem?_eq_getElem gI⟩
     obtain⟨y2,iG⟩:∃y,L[k+1+j]?=some y:=⟨L[k+1+j]'(by omega),getElem?_eq_getElem (by omega)⟩
     have oN:=Bd.map_at ((cD _ (by omega)).trans jN);have sW:=Bd.map_at ((cD _ (by omega)).trans iG);refine aK<|aS<|aB<|aS<|aD (by kernel_rfl) (by kernel_rfl) ?_;refine nc zl<|nc zl<|nc zl<|nc (zO (k:=k+1+(j+1)))<|nc (zP (G:=oN))<|nc zl<|nc zl<|nc zB<|nc (zO (k:=k+1+j))<|nc (zP (G:=sW))<|nc (zQ (E:=hc _ x2 y2))<|nc zZ ?_;refine⟨by kernel_rfl,?_⟩;refine aC rfl (λfF=>?_) (λfF=>?_)
     ·have fF:q x2 y2=false:=by simpa using fF
      refine AWp.wk (a7 (s':=st2 j kk C) ⟨rfl,rfl,rfl,rfl,rfl,rfl,trivial⟩) ?_;obtain⟨z2,dO⟩:∃z,C[kk]?=some z:=⟨C[kk]'(by omega),getElem?_eq_getElem (by omega)⟩
      have hz2':=Bd.map_at dO;refine qz<|nc zl<|nc zl<|nc zl<|nc zl<|nc (zO (k:=k+1+(j+1)))<|nc (zP (G:=oN))<|nc (zO (k:=kk))<|nc (zR (F:=hz2')) ?_;refine aR<|nc zl<|nc zA<|nc ze ?_;refine aR<|nc zl<|nc zA<|nc ze ?_;refine⟨L.length-(j+1),st2 (j+1) (kk+1) (C.set kk x2),by omega,⟨j+1,kk+1,C.set kk x2,rfl,by omega,by omega,by simp[hC],?_,λi hi=>?_,rfl⟩,a7 ⟨rfl,rfl,rfl,rfl,rfl,?_,trivial⟩⟩
      ·rw[b0w (by omega),iE,show k+1+(j+1+1)=(k+1+j)+2 by omega,a4s (m:=k+1+j) jN iG fF];rfl
      ·rw[getElem?_set_ne (by omega)];exact cD i (by omega)
      ·show some (AV.mrow _ _ _)=some (AV.mrow _ _ _);rw[N5]
     ·have fF:q x2 y2=true:=by simpa using fF
      refine aK ?_;refine AWp.wk (a7 (s':=st2 j kk C) ⟨rfl,rfl,rfl,rfl,rfl,rfl,trivial⟩) ?_;refine aR<|nc zl<|nc zA<|nc ze ?_;refine⟨L.length-(j+1),st2 (j+1) kk C,by omega,⟨j+1,kk,C,rfl,by omega,by omega,hC,?_,λi hi=>cD i (by omega),rfl⟩,a7 ⟨rfl,rfl,rfl,rfl,rfl,rfl,trivial⟩⟩;rw[iE,show k+1+(j+1+1)=(k+1+j)+2 by omega,a1G (m:=k+1+j) jN iG fF];rfl
    ·have gI:k+1+(j+1)=L.length:=by have h3:decide ((((j+1:Nat):Int))<((L.length-(k+1):Nat):Int))=false:=fT;simp at h3;omega
     refine aE ?_;refine AWp.wk (a7 (s':=st2 j kk C) ⟨rfl,rfl,rfl,rfl,rfl,rfl,trivial⟩) ?_;refine qz<|nc zl<|nc zl<|nc (zY (j:=kk))<|nc z0 ?_;refine qz<|nc zl<|nc zl<|nc (z3 (j:=kk))<|nc ze ?_;rw[gI]at iE;have gF:kk=(H7 q L L.length).length:=by rw[<-iE];simp;omega
     refine aT ⟨.inr rfl,_,Wk.refl _,?_,?_,trivial⟩
     ·rw[<-gF];rfl
     ·show some (AV.mrow _ _ _)=some (AV.mrow _ _ _);rw[<-gF,<-iE,map_append,<-map_take,List.map_replicate];simp only[Nat.zero_add];rw[show kk+(L.length-kk)=(C.map Bd.cv).length by simp;omega,List.drop_length,append_nil];rfl
   ·have hq:q x y=false:=hq;refine aK ?_;refine AWp.wk (a7 (s':=st k) ⟨rfl,rfl,rfl,rfl,trivial⟩) ?_;refine aR<|nc zl<|nc zA<|nc ze ?_;refine⟨by omega,⟨by omega,?_⟩,a7 ⟨rfl,rfl,rfl,rfl,trivial⟩⟩;rw[a4s hx hy hq,hI,K6 hx]
  ·have kE:k+1=L.length:=by have h3:decide ((((k+1:Nat):Int))<(L.length:Int))=false:=kA;simp at h3;omega
   refine aE ?_;rw[kE,take_length]at hI;have hw:=oM hI;refine qz<|nc zl<|nc ze ?_;refine aT ⟨.inr rfl,_,Wk.refl _,?_,?_,trivial⟩
   ·rw[hw.1];rfl
   ·rw[hw.2];rfl
theorem b2k(q:Bd->Bool)(L:List Bd):(a8Q q L 0 = -1/\L.filter (λb=>!q b)=L)\/∃(i:Nat) (b:Bd),a8Q q L 0=(i:Int)/\L[i]?=some b/\q b=true/\(L.take (i+1)).filter (λb=>!q b)=L.take i:=by
 by_cases h:∃b∈L,q b=true
 ·right;obtain⟨k,hk,hmin⟩:=b9V (λk=>∃b,L[k]?=some b/\q b=true) (by
   obtain⟨b,hb,hq⟩:=h;obtain⟨j,hj⟩:=getElem?_of_mem hb;exact⟨j,b,hj,hq⟩)
  obtain⟨b,hb,hq⟩:=hk;have hf:∀j c,j<k->L[j]?=some c->q c=false:=λj c hj hc=>by
   cases hqc:q c with
   | false=>rfl
   | true=>have:=hmin j ⟨c,hc,hqc⟩;omega
  refine⟨k,b,by rw[a8G hb hq hf,Nat.zero_add],hb,hq,?_⟩;rw[K6 hb,filter_append];have e1:(L.take k).filter (λb=>!q b)=L.take k:=by
   rw[List.filter_eq_self];intro c hc;obtain⟨j,hj⟩:=getElem?_of_mem hc;rw[getElem?_take]at hj;split at hj
   ·rename_i hjk;rw[hf j c hjk hj];rfl
   ·cases hj
  rw[e1];simp[hq]
 ·left;have hf:∀b∈L,q b=false:=λb hb=>by
   cases hqc:q b with
   | false=>rfl
   | true=>exact absurd ⟨b,hb,hqc⟩ h
  refine⟨a2u hf,?_⟩;rw[List.filter_eq_self];intro c hc;rw[hf c hc];rfl
theorem b2f(q:Bd->Bool)(fc:CV)(L:List Bd)(n:Nat)(qK:n<=L.length)(hn:L.length<=1000000000)(hc:∀W x,x∈L.take n->P4 Tryz.prog W fc [x.cw] (.val (.b (q x)))) :
  r8 Tryz.prog 158 [(400000,.mrow 112 3 (L.map Bd.cv))] [.sl 400000 0 n 3,.val fc] (.sl 400000 0 ((L.take n).filter (λb=>!q b)).length 3) [(400000,.mrow 112 3 (((L.take n).filter (λb=>!q b)++(List.replicate (n-((L.take n).filter (λb=>!q b)).length) Bd.zero++L.drop n)).map Bd.cv))]:=by
 refine l6 Tryz.func158 Tryz.ntmps158 rfl rfl rfl rfl rfl rfl ?_;intro w U hU;obtain⟨R,hR⟩:∃R,R=(L.take n).filter (λb=>!q b):=⟨_,rfl⟩
 rw[<-hR];have hidx:=b2M q fc L n qK hn hc;refine qz<|nc ze ?_;refine qz<|nc zl<|nc zl<|nc (zW (z:=hidx) (G:=i8 (by first | rfl | kernel_rfl)))<|nc ze ?_;refine aS<|qz<|nc zl<|nc zD ?_;rcases b2k q (L.take n) with⟨hi,hf⟩ | ⟨i,b,hi,hb,hqb,hf⟩
 ·rw[<-hR]at hf;have hl:R.length=n:=by rw[hf];simp;omega
  refine aC rfl (λ_=>?_) (λh=>?_)
  ·refine qz<|nc zl<|nc ze ?_;refine aT ⟨.inr rfl,_,Wk.refl _,?_,?_,trivial⟩
   ·rw[hl];rfl
   ·rw[hl,Nat.sub_self,List.replicate_zero,List.nil_append,hf,List.take_append_drop];rfl
  ·have h:decide (a8Q q (L.take n) 0 = -1)=false:=h;rw[hi]at h;cases h
 ·have dZ:i<n:=by
   rw[getElem?_take]at hb;split at hb
   ·assumption
   ·cases hb
  rw[List.take_take,Nat.min_eq_left (by omega),List.take_take,Nat.min_eq_left (by omega)]at hf;refine aC rfl (λh=>?_) (λ_=>?_)
  ·have h:decide (a8Q q (L.take n) 0 = -1)=true:=h;rw[hi]at h;simp at h
  refine aK ?_;refine AWp.wk (a7 (s':=[(0,.sl 400000 0 n 3),(1,.val fc),(5,.val (.i i)),(400000,.mrow 112 3 (L.map Bd.cv))]) ⟨rfl,rfl,by rw[<-hi];rfl,rfl,trivial⟩) ?_;refine aS<|qz<|nc zl<|nc zA<|nc ze ?_
  let st:Nat->Nat->List Bd->AS:=λj ii C=>[(0,.sl 400000 0 n 3),(1,.val fc),(5,.val (.i ii)),(6,.val (.i ((j+1:Nat):Int))),(400000,.mrow 112 3 (C.map Bd.cv))]
  refine aB (w8 (λm s=>∃j ii C,m=n-j/\j+1<=n/\ii<=j/\C.length=L.length/\C.take ii=(L.take (j+1)).filter (λb=>!q b)/\(∀p,j+1<=p->C[p]?=L[p]?)/\s=st j ii C) (s':=st i i L) (a7 ⟨rfl,rfl,rfl,rfl,rfl,trivial⟩) ⟨i,i,L,rfl,by omega,Nat.le_refl _,rfl,hf.symm,λ_ _=>rfl,rfl⟩ ?_);rintro m s ⟨j,ii,C,hm,hj1,iH,hC,iE,cD,rfl⟩;refine aS<|qz<|nc zl<|nc zl<|nc zX<|nc zi ?_;refine aC rfl (λkA=>?_) (λkA=>?_)
  ·have gI:j+1<n:=by have h3:decide ((((j+1:Nat):Int))<(n:Int))=true:=kA;simp at h3;omega
   obtain⟨x,hx⟩:∃x,L[j+1]?=some x:=⟨L[j+1]'(by omega),getElem?_eq_getElem (by omega)⟩
   have kT:=Bd.map_at ((cD _ (by omega)).trans hx);have cQ:x∈L.take n:=mem_of_getElem? (i:=j+1) (by rw[getElem?_take,if_pos gI];exact hx);refine aK<|aS<|aB<|qz<|nc zl<|nc zl<|nc (zO (k:=j+1))<|nc (zP (G:=kT))<|nc zw<|nc zx ?_;refine qz<|nc zl<|nc zj<|nc (zQ (E:=hc _ x cQ))<|nc zZ ?_;refine aC rfl (λhq=>?_) (λhq=>?_)
   ·have hq:q x=false:=by simpa using hq
    obtain⟨z,hz⟩:∃z,C[ii]?=some z:=⟨C[ii]'(by omega),getElem?_eq_getElem (by omega)⟩
    have iR:=Bd.map_at hz;refine qz<|nc zl<|nc zl<|nc zj<|nc (zO (k:=ii))<|nc (zR (F:=iR)) ?_;refine aR<|nc zl<|nc zA<|nc ze ?_;refine aR<|nc zl<|nc zA<|nc ze ?_;refine⟨n-(j+1),st (j+1) (ii+1) (C.set ii x),by omega,⟨j+1,ii+1,C.set ii x,rfl,by omega,by omega,by simp[hC],?_,λp hp=>?_,rfl⟩,a7 ⟨rfl,rfl,rfl,rfl,?_,trivial⟩⟩
    ·rw[b0w (by omega),iE,K6 (k:=j+1) hx,filter_append];simp[hq]
    ·rw[getElem?_set_ne (by omega)];exact cD p (by omega)
    ·show some (AV.mrow _ _ _)=some (AV.mrow _ _ _);rw[N5]
   ·have hq:q x=true:=by simpa using hq
    refine aK ?_;refine AWp.wk (a7 (s':=st j ii C) ⟨rfl,rfl,rfl,rfl,rfl,trivial⟩) ?_;refine aR<|nc zl<|nc zA<|nc ze ?_;refine⟨n-(j+1),st (j+1) ii C,by omega,⟨j+1,ii,C,rfl,by omega,by omega,hC,?_,λp hp=>cD p (by omega),rfl⟩,a7 ⟨rfl,rfl,rfl,rfl,rfl,trivial⟩⟩;rw[iE,K6 (k:=j+1) hx,filter_append];simp[hq]
  ·have gI:j+1=n:=by have h3:decide ((((j+1:Nat):Int))<(n:Int))=false:=kA;simp at h3;omega
   refine aE ?_;refine AWp.wk (a7 (s':=st j ii C) ⟨rfl,rfl,rfl,rfl,rfl,trivial⟩) ?_;refine qz<|nc zl<|nc zl<|nc (zY (j:=ii))<|nc z0 ?_;refine qz<|nc zl<|nc zl<|nc (z3 (j:=ii))<|nc ze ?_;rw[gI,<-hR]at iE;have gF:ii=R.length:=by rw[<-iE];simp;omega
   have wJ:C.drop n=L.drop n:=by apply List.ext_getElem?;intro p;rw[List.getElem?_drop,List.getElem?_drop];exact cD _ (by omega)
   refine aT ⟨.inr rfl,_,Wk.refl _,?_,?_,trivial⟩
   ·rw[<-gF];rfl
   ·show some (AV.mrow _ _ _)=some (AV.mrow _ _ _);rw[<-gF,<-iE,<-wJ,map_append,<-map_take,map_append,List.map_replicate];simp only[Nat.zero_add];rw[show ii+(n-ii)=n by omega,List.map_drop];rfl
def a3v(x y:Bd):Bool:=decide (x.v=y.v)
def R0(L:List Bd):List Bd:=F3 (ltC b4q) 0 (L.length-1) 1 L
def s8(L:List Bd):List Bd:=H7 a3v (R0 L) (R0 L).length
def Bd.strip(b:Bd):Bd:=⟨b.v,b.t.strip⟩
def A8(L:List Bd):List Bd:=((s8 L).filter λb=>!a0o b).map Bd.strip
theorem M6(L:List Bd):(R0 L).length=L.length:=a4i _ _ _ _ _
theorem a7E{q:Bd->Bd->Bool}{L:List Bd}(n:Nat):H7 q L (n+1)=H7 q L n\/∃x,L[n]?=some x/\H7 q L (n+1)=H7 q L n++[x]:=by
 cases n with
 | zero =>
  cases L with
  | nil=>left;rfl
  | cons x l=>right;exact⟨x,rfl,rfl⟩
 | succ m =>
  cases hx:L[m+1]? with
  | none=>left;rw[H7];simp only[hx]
  | some x =>
   cases hy:L[m]? with
   | none=>right;exact⟨x,rfl,by rw[H7];simp only[hx,hy]⟩
   | some y =>
    cases hq:q x y with
    | true=>left;exact a1G hx hy hq
    | false=>right;exact⟨x,rfl,a4s hx hy hq⟩
theorem a5A{q:Bd->Bd->Bool}{L:List Bd}:∀{n:Nat} {x:Bd},x∈H7 q L n->x∈L
 | 0,x,h=>by simp[H7]at h
 | n+1,x,h=>by
  rcases a7E (q:=q) (L:=L) n with e | ⟨y,h1,e⟩
  ·rw[e]at h;exact a5A h
  ·rw[e]at h;rcases mem_append.1 h with h | h
   ·exact a5A h
   ·rw[mem_singleton.1 h];exact mem_of_getElem? h1
theorem b0B{q:Bd->Bd->Bool}{L:List Bd}:∀{n:Nat},(H7 q L n).length<=n
 | 0=>Nat.le_refl _
 | n+1=>by
  have ih:=b0B (q:=q) (L:=L) (n:=n);rcases a7E (q:=q) (L:=L) n with e | ⟨y,h1,e⟩
  ·rw[e];omega
  ·rw[e];simp;omega
theorem b1g{lt:Bd->Bd->Bool}{a:Nat}:∀{j:Nat} {L:List Bd} {z:Bd},z∈a1n lt a j L↔z∈L
 | 0,L,z=>Iff.rfl
 | j+1,L,z=>by
  rw[a1n];split
  ·rename_i x y hx hy;split
   ·rw[b1g];have hj:j+1<L.length:=by
     rcases Nat.lt_or_ge (j+1) L.length with h | h
     ·exact h
     ·rw[getElem?_eq_none h]at hx;cases hx
    have hxe:L[j+1]=x:=by rw[getElem?_eq_getElem hj]at hx;exact Option.some.inj hx
    have hye:L[j]'(by omega)=y:=by rw[getElem?_eq_getElem (by omega)]at hy;exact Option.some.inj hy
    constructor
    ·intro h;rcases a0Y h with h | rfl
     ·rcases a0Y h with h | rfl
      ·exact h
      ·exact mem_of_getElem? hy
     ·exact mem_of_getElem? hx
    ·intro h;obtain⟨i,hi⟩:=getElem?_of_mem h;by_cases e1:i=j
     ·subst e1;rw[hy]at hi;cases hi;exact mem_of_getElem? (i:=i+1) (by rw[getElem?_set_ne (by omega),List.getElem?_set_self hj])
     ·by_cases e2:i=j+1
      ·subst e2;rw[hx]at hi;cases hi;exact mem_of_getElem? (i:=j) (by rw[List.getElem?_set_self (by simp;omega)])
      ·exact mem_of_getElem? (i:=i) (by rw[getElem?_set_ne (Ne.symm e1),getElem?_set_ne (Ne.symm e2)];exact hi)
   ·exact Iff.rfl
  ·exact Iff.rfl
theorem a4Z{lt:Bd->Bd->Bool}{a:Nat}:∀{n i:Nat} {L:List Bd} {z:Bd},z∈F3 lt a n i L↔z∈L
 | 0,_,_,_=>Iff.rfl
 | n+1,i,L,z=>by rw[F3,a4Z,b1g]
theorem Z6{L:List Bd}{x:Bd}(h:x∈s8 L):x∈L:=a4Z.1 (a5A h)
theorem P0(L:List Bd):(s8 L).length<=L.length:=by
 have:=b0B (q:=a3v) (L:=R0 L) (n:=(R0 L).length);rw[M6]at this;unfold s8;rw[M6];exact this
theorem a9N(L:List Bd)(hn:L.length<=1000000)(oC:r8 Tryz.prog 177 [(400000,.mrow 112 3 (L.map Bd.cv))] [.sl 400000 0 L.length 3,.val (.sc (.func (.func 178) #[] #[]))] (.tup []) [(400000,.mrow 112 3 ((R0 L).map Bd.cv))]) :
  r8 Tryz.prog 159 [] [.val (.lst (L.map Bd.cv))] (.sl 400000 0 (s8 L).length 3) [(400000,.mrow 112 3 ((s8 L++List.replicate (L.length-(s8 L).length) Bd.zero).map Bd.cv))]:=by
 refine l6 Tryz.func159 Tryz.ntmps159 rfl rfl rfl rfl rfl rfl ?_;intro w U hU;have sX:U.f 400000=none:=by
  cases h:U.f 400000 with
  | none=>rfl
  | some v=>have:=hU _ _ h;cases this
 have eF:=b2b L (by omega);have hco:=a9U a3v (.sc (.func (.func 180) #[] #[])) (R0 L) (by rw[M6];omega) (λW x y => .inr ⟨_,rfl,b5i W x y⟩);refine qz<|nc ze ?_;refine qz<|nc zl<|nc (zW (z:=eF) (G:=i8 (by first | rfl | kernel_rfl)))<|nc ze ?_;refine AWp.wk ((a7 (s':=[(3,.sl 250007 0 L.length 3),(250007,.mrow 112 3 (L.map Bd.cv))]) ⟨rfl,rfl,trivial⟩).trans (y6 250007 400000 rfl rfl sX rfl rfl rfl)) ?_;refine qz<|nc zl<|nc (zW (z:=oC) (G:=i8 (by first | rfl | kernel_rfl))) ?_;refine AWp.wk (a7 (s':=[(3,.sl 400000 0 (R0 L).length 3),(400000,.mrow 112 3 ((R0 L).map Bd.cv))]) ⟨by rw[M6];rfl,rfl,trivial⟩) ?_;refine qz<|nc zl<|nc (zW (z:=hco) (G:=i8 (by first | rfl | kernel_rfl)))<|nc ze ?_;refine aT ⟨.inr rfl,_,Wk.refl _,rfl,?_,trivial⟩;show some (AV.mrow _ _ _)=some (AV.mrow _ _ _);rw[M6];unfold s8;rw[M6]
theorem b2H(L:List Bd)(hn:L.length<20) :
  r8 Tryz.prog 159 [] [.val (.lst (L.map Bd.cv))] (.sl 400000 0 (s8 L).length 3) [(400000,.mrow 112 3 ((s8 L++List.replicate (L.length-(s8 L).length) Bd.zero).map Bd.cv))]:=a9N L (by omega) (a3K b4q (.sc (.func (.func 178) #[] #[])) L hn (λW x y => .inr ⟨_,rfl,b7A W x y⟩))
theorem b5p(W:World)(L:List Bd)(hn:L.length<=1000000)(hb:bdsOk L)(mI:r8 Tryz.prog 159 [] [.val (.lst (L.map Bd.cv))] (.sl 400000 0 (s8 L).length 3) [(400000,.mrow 112 3 ((s8 L++List.replicate (L.length-(s8 L).length) Bd.zero).map Bd.cv))]):AFun Tryz.prog W 125 [.lst (L.map Bd.cv)] (.val (.lst ((A8 L).map Bd.cv))):=by
 refine b9 (rs:=[.lst ((A8 L).map Bd.cv)]) Tryz.func125 Tryz.ntmps125 rfl rfl rfl rfl ?_;intro w U hW;obtain⟨F,hF⟩:∃F,F=s8 L++List.replicate (L.length-(s8 L).length) Bd.zero:=⟨_,rfl⟩
 rw[<-hF]at mI;have sY:F.length=L.length:=by rw[hF];have:=P0 L;simp;omega
 have hFt:F.take (s8 L).length=s8 L:=by rw[hF];simp
 have yP:=b2f a0o (.sc (.func (.func 160) #[] #[])) F (s8 L).length (by rw[sY];exact P0 L) (by omega) (λW x hx => .inr ⟨_,rfl,b6W W x (by rw[hFt]at hx;exact((Tm.rng_iff _).1 (hb x (Z6 hx)).1).1.1)⟩);rw[hFt]at yP;obtain⟨R,hR⟩:∃R,R=(s8 L).filter λb=>!a0o b:=⟨_,rfl⟩
 rw[<-hR]at yP;obtain⟨Z,hZ⟩:∃Z,Z=List.replicate ((s8 L).length-R.length) Bd.zero++F.drop (s8 L).length:=⟨_,rfl⟩
 rw[<-hZ]at yP;have hRm:∀x∈R,x∈L:=λx hx=>by rw[hR]at hx;exact Z6 (List.mem_filter.1 hx).1
 have pE:R.length<=L.length:=by rw[hR];exact Nat.le_trans (List.length_filter_le _ _) (P0 L)
 refine qz<|nc ze ?_;refine qz<|nc zl ?_;refine nc (zW (z:=mI) (G:=λk v h=>by first | (rw[hW.1]at h;cases h) | (have h2:=hU k v h;cases h2))) ?_;refine nc (zW (z:=yP) (G:=i8 (by first | rfl | kernel_rfl)))<|nc ze ?_;refine aS<|qz<|nc zl<|nc zX<|nc zl ?_
 let C:Nat->List Bd:=λk=>(R.take k).map Bd.strip++(R.drop k++Z)
 refine aB (n6 R.length (λk=>[(3,.sl 400000 0 R.length 3),(9,.sl 400000 0 R.length 3),(10,.val (.i R.length)),(11,.val (.i k)),(400000,.mrow 112 3 ((C k).map Bd.cv))]) (a7 ⟨rfl,rfl,rfl,rfl,rfl,trivial⟩) ?_);intro k hk;have hCl:(C k).length=R.length+Z.length:=by simp[C];omega
 refine qz<|nc zi ?_;refine aS<|aC rfl (λkA=>?_) (λkA=>?_)
 ·have kE:k<R.length:=by simpa using kA
  obtain⟨x,hx⟩:∃x,R[k]?=some x:=⟨R[k],getElem?_eq_getElem kE⟩
  have hxC:(C k)[k]?=some x:=by show((R.take k).map Bd.strip++(R.drop k++Z))[k]?=some x;rw[List.getElem?_append_right (by simp;omega),List.getElem?_append_left (by simp;omega),List.getElem?_drop];simp only[length_map,List.length_take,Nat.min_eq_left (Nat.le_of_lt kE),Nat.sub_self,Nat.add_zero];exact hx
  have kT:=Bd.map_at hxC;have iV:=hb x (hRm x (mem_of_getElem? hx));refine aK<|aS<|aB<|qz<|nc zl<|nc (zO (k:=k))<|nc (zP (G:=kT))<|nc zw<|nc ze<|nc zx ?_;refine aR<|nc zl<|nc zl<|nc zg<|nc zh<|nc (zk (z:=M3 _ iV.1 iV.2))<|nc (zO (k:=k))<|nc z4<|nc (zR (F:=kT)) ?_;refine aR<|nc zA<|nc zl ?_;refine⟨kE,a7 ⟨rfl,rfl,rfl,rfl,?_,trivial⟩⟩;show some (AV.mrow _ _ _)=some (AV.mrow _ _ _);have e1:((C k).map Bd.cv).set k (Bd.strip x).cw=(C (k+1)).map Bd.cv:=by
   rw[N5];congr 1;show((R.take k).map Bd.strip++(R.drop k++Z)).set k (Bd.strip x)=(R.take (k+1)).map Bd.strip++(R.drop (k+1)++Z);rw[List.set_append_right _ _ (by simp;omega)];simp only[length_map,List.length_take,Nat.min_eq_left (Nat.le_of_lt kE),Nat.sub_self];have e2:R.drop k=x::R.drop (k+1):=by rw[getElem?_eq_getElem kE]at hx;rw[<-Option.some.inj hx,List.getElem_cons_drop]
   rw[e2,K6 hx,map_append];simp
  rw[<-e1];rfl
 ·have kE:k=R.length:=by
   have:¬ k<R.length:=by simpa using kA
   omega
  subst kE;refine aE<|qz<|nc zl<|nc ze ?_;refine AWp.wk (a9w 2 400000 rfl rfl rfl (.inl hW.2) (by rw[length_map,hCl];omega) (s':=[]) trivial rfl) ?_;refine aT ⟨.inr rfl,?_⟩;show some [CV.lst _]=some [CV.lst _];congr 3;show(((C R.length).map Bd.cv).drop 0).take R.length=(A8 L).map Bd.cv;rw[List.drop_zero,<-map_take];congr 1;show(((R.take R.length).map Bd.strip++(R.drop R.length++Z))).take R.length=A8 L;rw[take_length,List.take_append_of_le_length (by simp),List.take_of_length_le (by simp),hR];rfl
theorem b7D(W:World)(L:List Bd)(hn:L.length<20)(hb:bdsOk L):AFun Tryz.prog W 125 [.lst (L.map Bd.cv)] (.val (.lst ((A8 L).map Bd.cv))):=b5p W L (by omega) hb (b2H L hn)
theorem ltB(x y:Bd):ltC b4q x y=decide (x.v<y.v):=by
 unfold ltC b4q G2;by_cases h:x.v<y.v
 ·simp[h]
 ·by_cases h2:x.v>y.v
  ·simp[h,h2]
  ·simp[h,h2]
theorem b4G{α:Type}(A:List α)(x:α)(B:List α):(A++x::B)[A.length]?=some x:=by simp
theorem b5j(lt:Bd->Bd->Bool)(x:Bd)(B:List Bd):∀(n:Nat) (A:List Bd),A.length=n->∃A1 A2,A=A1++A2/\a1n lt 0 A.length (A++x::B)=A1++x::(A2++B)/\(∀y∈A2,lt x y=true)/\∀y,A1.getLast?=some y->lt x y=false:=by
 intro n
 induction n generalizing x B with
 | zero =>
  intro A hA;have:A=[]:=List.eq_nil_of_length_eq_zero hA;subst this;exact⟨[],[],rfl,rfl,by simp,by simp⟩
 | succ n ih =>
  intro A hA;obtain⟨A',y,rfl⟩:∃A' y,A=A'++[y]:=⟨A.dropLast,A.getLast (by intro h;rw[h]at hA;simp at hA),(List.dropLast_concat_getLast _).symm⟩
  have hl:A'.length=n:=by simp at hA;omega
  have hx:(A'++[y]++x::B)[A'.length+1]?=some x:=by
   have:=b4G (A'++[y]) x B
   rwa [length_append,length_singleton]at this
  have hy:(A'++[y]++x::B)[A'.length]?=some y:=by rw[append_assoc];exact b4G A' y (x::B)
  rw[length_append,length_singleton];cases h:lt x y with
  | false =>
   refine⟨A'++[y],[],by simp,?_,by simp,λz hz=>?_⟩
   ·rw[b4i lt 0 hx hy h];simp
   ·rw[List.getLast?_append]at hz;simp at hz;subst hz;exact h
  | true =>
   rw[b0A lt 0 hx hy (by omega) h];have yQ:((A'++[y]++x::B).set (A'.length+1) y).set A'.length x=A'++x::(y::B):=by rw[append_assoc,List.set_append_right _ _ (by omega),show A'.length+1-A'.length=1 by omega,List.set_append_right _ _ (by simp)];simp
   rw[yQ];obtain⟨A1,A2,e1,e2,e3,e4⟩:=ih x (y::B) A' hl;refine⟨A1,A2++[y],by rw[e1];simp,by rw[e2];simp,λz hz=>?_,e4⟩;rcases mem_append.1 hz with hz | hz
   ·exact e3 z hz
   ·rw[mem_singleton.1 hz];exact h
def b4O(l:List Bd):Prop:=l.Pairwise λx y=>x.v<=y.v
theorem c0k{A1 A2:List Bd}{x:Bd}(h:b4O (A1++A2))(h2:∀y∈A2,x.v<y.v)(h1:∀y,A1.getLast?=some y->¬ x.v<y.v):b4O (A1++x::A2):=by
 unfold b4O at h |-;rw[List.pairwise_append]at h |-;refine⟨h.1,List.pairwise_cons.2 ⟨λy hy=>Int.le_of_lt (h2 y hy),h.2.1⟩,λa ha b hb=>?_⟩;rcases mem_cons.1 hb with rfl | hb
 ·
  obtain⟨A',z,rfl⟩:∃A' z,A1=A'++[z]:=⟨A1.dropLast,A1.getLast (List.ne_nil_of_mem ha),(List.dropLast_concat_getLast _).symm⟩
  have hz:=h1 z (by simp);rcases mem_append.1 ha with ha | ha
  ·have:=(List.pairwise_append.1 h.1).2.2 a ha z (by simp);omega
  ·rw[mem_singleton.1 ha];omega
 ·exact h.2.2 a ha b hb
theorem b8G{A1 A2:List Bd}{x:Bd}(h2:∀y∈A2,x.v<y.v)(v:Int):(A1++x::A2).filter (λb=>decide (b.v=v))=(A1++A2++[x]).filter (λb=>decide (b.v=v)):=by
 simp only[filter_append,List.filter_cons,List.filter_nil,append_assoc];by_cases h:x.v=v
 ·have:A2.filter (λb=>decide (b.v=v))=[]:=by rw[List.filter_eq_nil_iff];intro y hy hv;have:=h2 y hy;simp at hv;omega
  rw[this];simp[h]
 ·simp[h]
theorem a2R:∀(n:Nat) (A B:List Bd),b4O A->n<=B.length->∃A',F3 (ltC b4q) 0 n A.length (A++B)=A'++B.drop n/\b4O A'/\A'.length=A.length+n/\∀v,A'.filter (λb=>decide (b.v=v))=(A++B.take n).filter (λb=>decide (b.v=v))
 | 0,A,B,hA,_=>⟨A,by simp[F3],hA,rfl,λv=>by simp⟩
 | n+1,A,[],hA,hn=>by simp at hn
 | n+1,A,x::B,hA,hn=>by
  obtain⟨A1,A2,e1,e2,e3,e4⟩:=b5j (ltC b4q) x B A.length A rfl;have h2:∀y∈A2,x.v<y.v:=λy hy=>by have:=e3 y hy;rw[ltB]at this;simpa using this
  have h1:∀y,A1.getLast?=some y->¬ x.v<y.v:=λy hy=>by have:=e4 y hy;rw[ltB]at this;simpa using this
  have hs:b4O (A1++x::A2):=c0k (by rw[<-e1];exact hA) h2 h1;obtain⟨A',f1,f2,f3,f4⟩:=a2R n (A1++x::A2) B hs (by simpa using hn);have hl:(A1++x::A2).length=A.length+1:=by rw[e1];simp;omega
  refine⟨A',?_,f2,by rw[f3,hl];omega,λv=>?_⟩
  ·rw[F3,e2,show A1++x::(A2++B)=(A1++x::A2)++B by simp,<-hl,f1];rfl
  ·rw[f4 v,filter_append,b8G h2 v,<-e1,List.take_succ_cons,<-filter_append,append_assoc];rfl
theorem a4F(L:List Bd):b4O (R0 L)/\∀v,(R0 L).filter (λb=>decide (b.v=v))=L.filter (λb=>decide (b.v=v)):=by
 cases L with
 | nil=>exact⟨List.Pairwise.nil,λv=>rfl⟩
 | cons x l =>
  obtain⟨A',f1,f2,f3,f4⟩:=a2R l.length [x] l (List.pairwise_singleton _ _) (Nat.le_refl _);have e:R0 (x::l)=A':=by unfold R0;rw[length_cons,Nat.add_sub_cancel];have:=f1;rw[List.drop_length,append_nil]at this;exact this
  rw[e];exact⟨f2,λv=>by rw[f4 v,take_length];rfl⟩
theorem T6:∀(L:List Bd) (v:Int),d9 L v=(L.filter (λb=>decide (b.v=v))).head?.map Bd.t
 | [],_=>rfl
 | b::L,v=>by
  rw[d9];by_cases h:b.v=v
  ·simp[h]
  ·rw[if_neg h,T6 L v];simp[h]
theorem b1V(L:List Bd)(v:Int):d9 (R0 L) v=d9 L v:=by rw[T6,T6,(a4F L).2]
theorem a0U(L:List Bd)(x:Bd)(v:Int):d9 (L++[x]) v=(d9 L v).or (if x.v=v then some x.t else none):=by
 induction L with
 | nil=>simp only[List.nil_append,d9];split<;>rfl
 | cons b L ih =>
  rw[cons_append,d9,d9];split
  ·rfl
  ·exact ih
theorem a1k{L:List Bd}{x:Bd}(h:x∈L):∃t,d9 L x.v=some t:=by
 induction L with
 | nil=>cases h
 | cons b L ih =>
  rw[d9];split
  ·exact⟨_,rfl⟩
  ·rename_i kF;rcases mem_cons.1 h with rfl | h
   ·exact absurd rfl kF
   ·exact ih h
theorem b1z{S:List Bd}(hS:b4O S):∀(m:Nat),m<=S.length->(∀v,d9 (H7 a3v S m) v=d9 (S.take m) v)/\(H7 a3v S m).Pairwise (λx y=>x.v<y.v)/\∀(k:Nat) (y:Bd),m=k+1->S[k]?=some y->∀x∈H7 a3v S m,x.v<=y.v
 | 0,_=>⟨λv=>rfl,List.Pairwise.nil,λk y h=>by omega⟩
 | 1,h=>by
  cases S with
  | nil=>simp at h
  | cons x l =>
   rw[b0u];exact⟨λv=>rfl,List.pairwise_singleton _ _,λk y hk hy z hz=>by
    have:k=0:=by omega
    subst this;simp at hy hz;subst hy;subst hz;exact Int.le_refl _⟩
 | m+2,h=>by
  obtain⟨ih1,ih2,ih3⟩:=b1z hS (m+1) (by omega);obtain⟨x,hx⟩:∃x,S[m+1]?=some x:=⟨S[m+1],getElem?_eq_getElem (by omega)⟩
  obtain⟨y,hy⟩:∃y,S[m]?=some y:=⟨S[m]'(by omega),getElem?_eq_getElem (by omega)⟩
  have cS:y.v<=x.v:=by have:=List.pairwise_iff_getElem.1 hS m (m+1) (by omega) (by omega) (by omega);rw[getElem?_eq_getElem (by omega)]at hx hy;rw[<-Option.some.inj hx,<-Option.some.inj hy];exact this
  have eB:=K6 hx;cases hq:a3v x y with
  | true =>
   have hv:x.v=y.v:=by simpa[a3v]using hq
   rw[a1G hx hy hq];refine⟨λv=>?_,ih2,λk z hk hz w hw=>?_⟩
   ·rw[ih1 v,eB,a0U];by_cases e:x.v=v
    ·obtain⟨t,ht⟩:=a1k (L:=S.take (m+1)) (x:=y) (mem_of_getElem? (i:=m) (by rw[getElem?_take,if_pos (by omega)];exact hy));rw[<-e,hv,ht];rfl
    ·rw[if_neg e];simp
   ·have:k=m+1:=by omega
    subst this;rw[hx]at hz;cases hz;rw[hv];exact ih3 m y rfl hy w hw
  | false =>
   have hv:x.v≠y.v:=by simpa[a3v]using hq
   rw[a4s hx hy hq];refine⟨λv=>by rw[a0U,ih1 v,eB,a0U],?_,λk z hk hz w hw=>?_⟩
   ·rw[List.pairwise_append];refine⟨ih2,List.pairwise_singleton _ _,λa ha b hb=>?_⟩;rw[mem_singleton.1 hb];have:=ih3 m y rfl hy a ha;omega
   ·have:k=m+1:=by omega
    subst this;rw[hx]at hz;cases hz;rcases mem_append.1 hw with hw | hw
    ·have:=ih3 m y rfl hy w hw;omega
    ·rw[mem_singleton.1 hw];exact Int.le_refl _
theorem T5(L:List Bd):(∀v,d9 (s8 L) v=d9 L v)/\(s8 L).Pairwise (λx y=>x.v<y.v):=by
 obtain⟨h1,h2,_⟩:=b1z (a4F L).1 (R0 L).length (Nat.le_refl _);refine⟨λv=>?_,h2⟩;have:=h1 v;rw[take_length,b1V]at this;exact this
theorem b6f{L:List Bd}(v:Int):d9 (L.map Bd.strip) v=(d9 L v).map Tm.strip:=by
 induction L with
 | nil=>rfl
 | cons b L ih =>
  rw[map_cons,d9,d9];show(if b.v=v then _ else _)=_;split
  ·rfl
  ·exact ih
theorem b1R{L:List Bd}(h:L.Pairwise (λx y=>x.v<y.v))(v:Int):d9 (L.filter λb=>!a0o b) v=match d9 L v with | some t=>if a0o ⟨v,t⟩then none else some t | none=>none:=by
 induction L with
 | nil=>rfl
 | cons b L ih =>
  rw[List.pairwise_cons]at h;rw[List.filter_cons];by_cases hv:b.v=v
  ·have kZ:∀c∈L,c.v≠v:=λc hc=>by have:=h.1 c hc;omega
   have hb:(⟨v,b.t⟩:Bd)=b:=by rw[<-hv]
   rw[d9,if_pos hv];simp only;rw[hb];cases hi:a0o b with
   | true =>
    simp only[Bool.not_true,Bool.false_eq_true,if_false,if_true];exact C6 λc hc=>kZ c (List.mem_filter.1 hc).1
   | false =>
    simp only[Bool.not_false,if_true,Bool.false_eq_true,if_false];rw[d9,if_pos hv]
  ·rw[d9,if_neg hv];split
   ·rw[d9,if_neg hv];exact ih h.2
   ·exact ih h.2
theorem a1e(L:List Bd)(v:Int):d9 (A8 L) v=match d9 L v with | some t=>if a0o ⟨v,t⟩then none else some t.strip | none=>none:=by
 unfold A8;rw[b6f,b1R (T5 L).2,(T5 L).1];cases d9 L v with
 | none=>rfl
 | some t=>simp only;split<;>rfl
theorem a0r(L:List Bd):(A8 L).Pairwise (λx y=>x.v<y.v):=by
 unfold A8;rw[List.pairwise_map];exact((T5 L).2.filter _).imp (λh=>h)
theorem a1t{t:Tm}(h:t.f<0):t.strip=⟨t.f,[]⟩:=by
 rw[Tm.strip_eq];have:t.ps=[]:=by unfold Tm.ps;rw[if_pos h]
 rw[this];rfl
theorem b2g{f g:Int->Tm}{t:Tm}(h:∀v∈t.vs,(f v).strip=(g v).strip):a8 f t=a8 g t:=by
 induction t using Tm.indp with
 | h t ih =>
  by_cases hf:t.f<0
  ·rw[Tm.vs_var hf]at h;rw[i9 hf,i9 hf,h _ (by simp)]
  ·rw[Tm.vs_sym hf]at h;rw[Tm.ps_of_sym (by omega)]at ih;rw[c9 hf,c9 hf];congr 1;exact map_congr_left λs hs=>ih s hs λv hv=>h v (mem_flatMap.2 ⟨s,hs,hv⟩)
theorem b2a(A M:List Bd)(v:Int):d9 (A++M) v=(d9 A v).or (d9 M v):=by
 induction A with
 | nil=>rfl
 | cons b A ih =>
  rw[cons_append,d9,d9];split
  ·rfl
  ·exact ih
theorem a2f(f g:Int->Tm)(t:Tm):a8 g (a8 f t)=a8 (λv=>a8 g (f v)) t:=by
 induction t using Tm.indp with
 | h t ih =>
  by_cases hf:t.f<0
  ·rw[i9 hf,i9 hf,B8,t7]
  ·rw[Tm.ps_of_sym (by omega)]at ih;rw[c9 hf,c9 (t:=⟨t.f,_⟩) hf,c9 hf];simp only[List.map_map];congr 1;exact map_congr_left λs hs=>ih s hs
theorem b5E(L:List Bd):(A8 L).length<=L.length:=by
 unfold A8;rw[length_map];exact Nat.le_trans (List.length_filter_le _ _) (P0 L)
def uni(τ:Int->Tm)(E:List (Tm×Tm)):Prop:=∀p∈E,a8 τ p.1=a8 τ p.2
theorem C5{τ:Int->Tm}{E F:List (Tm×Tm)}:uni τ (E++F)↔uni τ E/\uni τ F:=by
 unfold uni;constructor
 ·intro h;exact⟨λp hp=>h p (mem_append_left _ hp),λp hp=>h p (List.mem_append_right _ hp)⟩
 ·rintro⟨h1,h2⟩ p hp;rcases mem_append.1 hp with hp | hp
  ·exact h1 p hp
  ·exact h2 p hp
theorem C9{τ:Int->Tm}{a b:Tm}:uni τ [(a,b)]↔a8 τ a=a8 τ b:=by
 unfold uni;constructor
 ·intro h;exact h (a,b) (by simp)
 ·intro h p hp;simp only[mem_singleton]at hp;rw[hp];exact h
structure Mgu(σ:Int->Tm)(E:List (Tm×Tm)):Prop where
 uni:uni σ E
 bare:∀v,0<=v->(σ v).strip=σ v
 idem:∀v,0<=v->∀u∈(σ v).vs,σ u=n7 u
 most:∀ τ,Go.Proofs.YteegmcfobgpemaaGreat.uni τ E->∀v,0<=v->a8 τ (σ v)=(τ v).strip
 low:∀v,0<=v->(σ v).f<0 -> -1-(σ v).f<=v
theorem s7(v:Int):(n7 v).f = -1-v:=rfl
theorem G0{τ:Int->Tm}{v:Int}(hv:0<=v):a8 τ (n7 v)=(τ v).strip:=by
 rw[i9 (by rw[s7];omega),s7,show -1-(-1-v)=v by omega]
theorem c4H{τ:Int->Tm}{t:Tm}(h:¬ t.f<0):(a8 τ t).f=t.f:=by rw[c9 h]
theorem a0V{τ:Int->Tm}{t:Tm}(h:(a8 τ t).f<0):t.f<0:=by
 rcases Decidable.em (t.f<0)with h1 | h1
 ·exact h1
 ·rw[c4H h1]at h;exact h
theorem a1A{t:Tm}(hb:t.strip=t)(h:t.f<0):t=n7 (-1-t.f):=by
 rw[<-hb,a1t h];unfold n7;rw[show -1-(-1-t.f)=t.f by omega]
theorem a5h{σ:Int->Tm}{t:Tm}(h:∀u∈t.vs,σ u=n7 u):a8 σ t=t.strip:=by
 rw[y9 (g:=n7) h,a3D]
theorem Mgu.stays{σ σ':Int->Tm}{E:List (Tm×Tm)}(h:Mgu σ E)(h':Mgu σ' E){v:Int}(hv:0<=v)(e:σ v=n7 v):σ' v=n7 v:=by
 have h1:=h'.most σ h.uni v hv;rw[h.bare v hv,e]at h1;have h2:(σ' v).f<0:=a0V (τ:=σ) (by rw[h1,s7];omega);obtain⟨u,hu⟩:∃u,u = -1-(σ' v).f:=⟨_,rfl⟩
 have eR:0<=u:=by omega
 have h3:σ' v=n7 u:=by rw[hu];exact a1A (h'.bare v hv) h2
 have h4:u<=v:=by rw[hu];exact h'.low v hv h2
 rw[h3,G0 eR,h.bare u eR]at h1;have h5:=h.low u eR (by rw[h1,s7];omega);rw[h1,s7]at h5;have:u=v:=by omega
 rw[h3,this]
theorem Mgu.one{σ σ':Int->Tm}{E:List (Tm×Tm)}(h:Mgu σ E)(h':Mgu σ' E){v:Int}(hv:0<=v):σ' v=σ v:=by
 have h1:=h.most σ' h'.uni v hv;rw[h'.bare v hv,a5h (λu hu=>h.stays h' (l9 _ u hu) (h.idem v hv u hu)),h.bare v hv]at h1;exact h1.symm
theorem Mgu.eqv{σ:Int->Tm}{E F:List (Tm×Tm)}(h:Mgu σ E)(he:∀ τ,Go.Proofs.YteegmcfobgpemaaGreat.uni τ E↔Go.Proofs.YteegmcfobgpemaaGreat.uni τ F):Mgu σ F:=
 ⟨(he σ).1 h.uni,h.bare,h.idem,fun τ ht=>h.most τ ((he τ).2 ht),h.low⟩
theorem Mgu.rep{σ τ:Int->Tm}{E:List (Tm×Tm)}(h:Mgu σ E)(ht:Go.Proofs.YteegmcfobgpemaaGreat.uni τ E)(t:Tm):a8 τ (a8 σ t)=a8 τ t:=by
 rw[a2f];revert t;refine Tm.ind λf l ih=>?_;rcases Decidable.em (f<0)with hf | hf
 ·rw[i9 (t:=⟨f,l⟩) hf,i9 (t:=⟨f,l⟩) hf,h.most τ ht _ (by show 0 <= -1-f;omega),Tm.strip_strip]
 ·rw[c9 (t:=⟨f,l⟩) (by show ¬ f<0;omega),c9 (t:=⟨f,l⟩) (by show ¬ f<0;omega)];show(⟨f,l.map _⟩:Tm)=⟨f,l.map _⟩;congr 1;exact map_congr_left ih
theorem Mgu.rep_vs{σ:Int->Tm}{E:List (Tm×Tm)}(h:Mgu σ E){t:Tm}{u:Int}(hu:u∈(a8 σ t).vs):σ u=n7 u:=by
 rw[a0H,mem_flatMap]at hu;obtain⟨v,hv,hu⟩:=hu;exact h.idem v (l9 _ v hv) u hu
theorem Mgu.nil:Mgu n7 []:=
 ⟨λp hp=>(by cases hp),λv hv=>t9 v,λv hv u hu=>rfl,fun τ ht v hv=>G0 hv,λv hv hf=>by rw[s7];omega⟩
theorem Mgu.same{σ:Int->Tm}{E:List (Tm×Tm)}(h:Mgu σ E){a b:Tm}(e:a8 σ a=a8 σ b):Mgu σ (E++[(a,b)]):=
 h.eqv fun τ=>by
  rw[C5,C9];constructor
  ·intro ht;refine⟨ht,?_⟩;rw[<-h.rep ht a,e,h.rep ht b]
  ·exact λht=>ht.1
def Y8(x:Int)(b:Tm)(v:Int):Tm:=if v=x then b else n7 v
theorem b3y{x:Int}{b t:Tm}(h:x∉t.vs):a8 (Y8 x b) t=t.strip:=
 a5h λu hu=>if_neg λ(e:u=x)=>h (e▸hu)
theorem Mgu.bind{σ:Int->Tm}{E:List (Tm×Tm)}(h:Mgu σ E){a b:Tm}{x:Int}(hx:0<=x)(ha:a8 σ a=n7 x)(hb:x∉(a8 σ b).vs)(kV:(a8 σ b).f<0 -> -1-(a8 σ b).f<=x){σ2:Int->Tm}(h2:∀v,0<=v->σ2 v=a8 (Y8 x (a8 σ b)) (σ v)):Mgu σ2 (E++[(a,b)]):=by
 obtain⟨B,hB⟩:∃B,B=a8 σ b:=⟨_,rfl⟩
 rw[<-hB]at hb kV h2;have wK:B.strip=B:=by rw[hB,t7]
 have hr:∀t,a8 σ2 t=a8 (Y8 x B) (a8 σ t):=λt=>by rw[a2f];exact y9 λv hv=>h2 v (l9 _ v hv)
 have mV:Y8 x B x=B:=if_pos rfl;refine⟨?_,λv hv=>by rw[h2 v hv,t7],λv hv u hu=>?_,fun τ ht v hv=>?_,λv hv hf=>?_⟩
 ·rw[C5,C9];refine⟨λp hp=>by rw[hr,hr,h.uni p hp],?_⟩;rw[hr,hr,ha,G0 hx,mV,<-hB,b3y hb]
 ·rw[h2 v hv,a0H,mem_flatMap]at hu;obtain⟨w,hw,hu⟩:=hu;have eS:=l9 _ w hw;have:σ u=n7 u/\u≠x:=by
   by_cases e:w=x
   ·rw[e,mV]at hu;refine⟨h.rep_vs (t:=b) (by rw[<-hB];exact hu),λe=>hb (e▸hu)⟩
   ·unfold Y8 at hu;rw[if_neg e,Tm.vs_var (by rw[s7];omega),s7,mem_singleton]at hu;have:u=w:=by omega
    rw[this];exact⟨h.idem v hv w hw,e⟩
  have eR:0<=u:=l9 _ u hu;rw[h2 u eR,this.1,G0 eR];unfold Y8;rw[if_neg this.2,t9]
 ·rw[C5,C9]at ht;rw[h2 v hv,a2f,<-h.most τ ht.1 v hv];have:∀w∈(σ v).vs,a8 τ (Y8 x B w)=(τ w).strip:=λw hw=>by
   have eS:=l9 _ w hw;by_cases e:w=x
   ·rw[e,mV,hB,h.rep ht.1,<-ht.2,<-h.rep ht.1,ha,G0 hx]
   ·unfold Y8;rw[if_neg e,G0 eS]
  have h3:∀t:Tm,(∀w∈t.vs,a8 τ (Y8 x B w)=(τ w).strip)->a8 (λv=>a8 τ (Y8 x B v)) t=a8 τ t:=by
   refine Tm.ind λf l ih hw=>?_;rcases Decidable.em (f<0)with hf | hf
   ·rw[i9 (t:=⟨f,l⟩) hf,i9 (t:=⟨f,l⟩) hf,hw _ (by rw[Tm.vs_var (t:=⟨f,l⟩) hf];simp),Tm.strip_strip]
   ·have uG:¬ (⟨f,l⟩:Tm).f<0:=by show ¬ f<0;omega
    rw[c9 uG,c9 uG];rw[Tm.vs_sym uG]at hw;congr 1;exact map_congr_left λt ht=>ih t ht λw eQ=>hw w (mem_flatMap.2 ⟨t,ht,eQ⟩)
  exact h3 _ this
 ·rw[h2 v hv]at hf |-;have h4:=a0V hf;have h5:=h.low v hv h4;rw[i9 h4]at hf |-;obtain⟨w,hw⟩:∃w,w = -1-(σ v).f:=⟨_,rfl⟩
  rw[<-hw]at hf h5 |-;by_cases e:w=x
  ·rw[e,mV,wK]at hf |-;have:=kV hf;omega
  ·unfold Y8;rw[if_neg e,t9,s7];omega
theorem b5O{τ:Int->Tm}{x:Int}{t:Tm}(hx:x∈t.vs)(ht:¬ t.f<0):a8 τ (n7 x)≠a8 τ t:=by
 have jT:=l9 _ x hx;have key:∀t:Tm,x∈t.vs->(a8 τ (n7 x)).size<=(a8 τ t).size/\(¬ t.f<0->(a8 τ (n7 x)).size<(a8 τ t).size):=by
  refine Tm.ind λf l ih hx=>?_;rcases Decidable.em (f<0)with hf | hf
  ·rw[Tm.vs_var (t:=⟨f,l⟩) hf,mem_singleton]at hx;refine⟨?_,λh=>absurd hf h⟩;rw[G0 jT,i9 (t:=⟨f,l⟩) hf,<-hx];exact Nat.le_refl _
  ·have uG:¬ (⟨f,l⟩:Tm).f<0:=by show ¬ f<0;omega
   rw[Tm.vs_sym uG,mem_flatMap]at hx;obtain⟨s,hs,eV⟩:=hx;have h1:=(ih s hs eV).1;have h2:(a8 τ s).size<(a8 τ ⟨f,l⟩).size:=by refine Tm.size_part ?_;rw[c9 uG,Tm.ps_of_sym (by show 0<=f;omega)];exact mem_map.2 ⟨s,hs,rfl⟩
   exact⟨by omega,λ_=>by omega⟩
 intro e;have:=(key t hx).2 ht;rw[e]at this;exact Nat.lt_irrefl _ this
structure Joined(N:Nat)(T:Nat->Tm)(H K:Nat->Nat)(E:List (Tm×Tm)):Prop where
 hd:∀n,n<N->H n<N/\H (H n)=H n
 low:∀n,n<N->(T n).f<=(T (H n)).f
 kid:∀n,n<N->¬ (T n).f<0->∀i p,(T n).l[i]?=some p->K n+i<N/\T (K n+i)=p
 cls:∀n,n<N->¬ (T n).f<0->(T (H n)).f=(T n).f/\(T (H n)).l.length=(T n).l.length/\∀i,i<(T n).l.length->H (K n+i)=H (K (H n)+i)
 var:∀n m,n<N->m<N->(T n).f<0->(T n).f=(T m).f->H n=H m
 pair:∀p∈E,∃n m,n<N/\m<N/\T n=p.1/\T m=p.2/\H n=H m
 sound:∀ τ,uni τ E->∀n,n<N->a8 τ (T n)=a8 τ (T (H n))
section
variable{N:Nat}{T:Nat->Tm}{H K:Nat->Nat}{E:List (Tm×Tm)}
def a4V(N:Nat)(T:Nat->Tm)(H K:Nat->Nat)(out:Nat->Tm):Prop:=∀h,h<N->H h=h->out h=⟨(T h).f,if(T h).f<0 then[] else(List.range (T h).l.length).map λi=>out (H (K h+i))⟩
def a3B(N:Nat)(T:Nat->Tm)(H K:Nat->Nat)(ρ:Nat->Nat):Prop:=∀h,h<N->H h=h->¬ (T h).f<0->∀i,i<(T h).l.length->ρ (H (K h+i))<ρ h
theorem Joined.part(j:Joined N T H K E){h:Nat}(hN:h<N)(hf:¬ (T h).f<0){i:Nat}(hi:i<(T h).l.length):K h+i<N/\T (K h+i)=(T h).l[i]/\H (K h+i)<N/\H (H (K h+i))=H (K h+i):=by
 obtain⟨h1,h2⟩:=j.kid h hN hf i _ (getElem?_eq_getElem hi);exact⟨h1,h2,j.hd _ h1⟩
theorem Joined.ind(j:Joined N T H K E){ρ:Nat->Nat}(hr:a3B N T H K ρ){Q:Nat->Prop}(hQ:∀h,h<N->H h=h->(¬ (T h).f<0->∀i,i<(T h).l.length->Q (H (K h+i)))->Q h):∀h,h<N->H h=h->Q h:=by
 intro h
 induction e:ρ h using Nat.strongRecOn generalizing h with
 | ind k ih =>
  intro hN hh;refine hQ h hN hh λhf i hi=>?_;obtain⟨_,_,h3,h4⟩:=j.part hN hf hi;exact ih _ (by rw[<-e];exact hr h hN hh hf i hi) _ rfl h3 h4
theorem a8Y{out:Nat->Tm}(ho:a4V N T H K out){h:Nat}(hN:h<N)(hh:H h=h)(hf:(T h).f<0):out h=⟨(T h).f,[]⟩:=by rw[ho h hN hh,if_pos hf]
theorem a4r{out:Nat->Tm}(ho:a4V N T H K out){h:Nat}(hN:h<N)(hh:H h=h)(hf:¬ (T h).f<0):out h=⟨(T h).f,(List.range (T h).l.length).map λi=>out (H (K h+i))⟩:=by rw[ho h hN hh,if_neg hf]
theorem c4v{out:Nat->Tm}(ho:a4V N T H K out){h:Nat}(hN:h<N)(hh:H h=h):(out h).f=(T h).f:=by rw[ho h hN hh]
theorem a7G{l:List Tm}{g g':Tm->Tm}{q:Nat->Tm}(h:∀i (hi:i<l.length),g l[i]=g' (q i)):l.map g=((List.range l.length).map q).map g':=by
 apply List.ext_getElem
 ·simp
 ·intro i h1 h2;simp only[List.getElem_map,List.getElem_range];exact h i (by simpa using h1)
theorem Joined.out_bare(j:Joined N T H K E){ρ:Nat->Nat}(hr:a3B N T H K ρ){out:Nat->Tm}(ho:a4V N T H K out):∀h,h<N->H h=h->(out h).strip=out h:=
 j.ind hr λh hN hh ih=>by
  by_cases hf:(T h).f<0
  ·rw[a8Y ho hN hh hf,a1t (t:=⟨(T h).f,[]⟩) hf]
  ·rw[a4r ho hN hh hf,Tm.strip_eq,Tm.ps_of_sym (t:=⟨(T h).f,_⟩) (by show 0<=(T h).f;omega)];congr 1;rw[List.map_map];exact map_congr_left λi hi=>ih hf i (mem_range.1 hi)
structure c4j(N:Nat)(T:Nat->Tm)(H:Nat->Nat)(out:Nat->Tm)(σ:Int->Tm):Prop where
 at_:∀n,n<N->(T n).f<0->σ (-1-(T n).f)=out (H n)
 off:∀v,0<=v->(∀n,n<N->(T n).f ≠ -1-v)->σ v=n7 v
theorem Joined.rep(j:Joined N T H K E){ρ:Nat->Nat}(hr:a3B N T H K ρ){out:Nat->Tm}(ho:a4V N T H K out){σ:Int->Tm}(hs:c4j N T H out σ):∀(t:Tm) (n:Nat),n<N->T n=t->a8 σ t=out (H n):=by
 refine Tm.ind λf l ih n hN e=>?_;obtain⟨hH,hHH⟩:=j.hd n hN;by_cases hf:f<0
 ·have:=hs.at_ n hN (by rw[e];exact hf);rw[e]at this;rw[i9 (t:=⟨f,l⟩) hf,this,j.out_bare hr ho _ hH hHH]
 ·have dQ:¬ (T n).f<0:=by rw[e];exact hf
  obtain⟨c1,c2,c3⟩:=j.cls n hN dQ;rw[c9 (t:=⟨f,l⟩) hf,a4r ho hH hHH (by rw[c1];exact dQ),c1,c2,e];congr 1;have:=a7G (l:=l) (g:=a8 σ) (g':=id) (q:=λi=>out (H (K (H n)+i))) λi hi=>by
   have gH:i<(T n).l.length:=by rw[e];exact hi
   obtain⟨p1,p2,_⟩:=j.part hN dQ gH;have p3:(T n).l[i]=l[i]:=by simp only[e]
   rw[ih l[i] (List.getElem_mem hi) (K n+i) p1 (by rw[p2,p3]),c3 i gH];rfl
  rw[this,List.map_id]
theorem Joined.most(j:Joined N T H K E){ρ:Nat->Nat}(hr:a3B N T H K ρ){out:Nat->Tm}(ho:a4V N T H K out){τ:Int->Tm}(ht:uni τ E):∀h,h<N->H h=h->a8 τ (out h)=a8 τ (T h):=
 j.ind hr λh hN hh ih=>by
  by_cases hf:(T h).f<0
  ·rw[a8Y ho hN hh hf,i9 (t:=⟨(T h).f,[]⟩) hf,i9 hf]
  ·rw[a4r ho hN hh hf,c9 (t:=⟨(T h).f,_⟩) hf,c9 hf];congr 1;refine(a7G λi hi=>?_).symm;obtain⟨p1,p2,_⟩:=j.part hN hf hi;rw[ih hf i hi,<-j.sound τ ht _ p1,p2]
theorem Joined.idem(j:Joined N T H K E){ρ:Nat->Nat}(hr:a3B N T H K ρ){out:Nat->Tm}(ho:a4V N T H K out){σ:Int->Tm}(hs:c4j N T H out σ):∀h,h<N->H h=h->∀u∈(out h).vs,σ u=n7 u:=
 j.ind hr λh hN hh ih u hu=>by
  by_cases hf:(T h).f<0
  ·have h1:=a8Y ho hN hh hf;rw[h1,Tm.vs_var (t:=⟨(T h).f,[]⟩) hf,mem_singleton]at hu;have h2:=hs.at_ h hN hf;rw[hh,h1]at h2;have hu:u = -1-(T h).f:=hu;rw[hu,h2];unfold n7;rw[show -1-(-1-(T h).f)=(T h).f by omega]
  ·rw[a4r ho hN hh hf,Tm.vs_sym (t:=⟨(T h).f,_⟩) hf,mem_flatMap]at hu;obtain⟨t,ht,hu⟩:=hu;obtain⟨i,hi,rfl⟩:=mem_map.1 ht;exact ih hf i (mem_range.1 hi) u hu
theorem Joined.mgu(j:Joined N T H K E){ρ:Nat->Nat}(hr:a3B N T H K ρ){out:Nat->Tm}(ho:a4V N T H K out){σ:Int->Tm}(hs:c4j N T H out σ):Mgu σ E:=by
 have two:∀v,0<=v->(∃n,n<N/\(T n).f = -1-v/\σ v=out (H n))\/σ v=n7 v:=λv hv=>by
  by_cases h:∃n,n<N/\(T n).f = -1-v
  ·obtain⟨n,h1,h2⟩:=h;have:=hs.at_ n h1 (by omega);rw[h2,show -1-(-1-v)=v by omega]at this;exact .inl ⟨n,h1,h2,this⟩
  ·exact .inr (hs.off v hv λn h1 h2=>h ⟨n,h1,h2⟩)
 refine⟨λp hp=>?_,λv hv=>?_,λv hv u hu=>?_,fun τ ht v hv=>?_,λv hv hf=>?_⟩
 ·obtain⟨n,m,h1,h2,h3,h4,h5⟩:=j.pair p hp;rw[j.rep hr ho hs p.1 n h1 h3,j.rep hr ho hs p.2 m h2 h4,h5]
 ·rcases two v hv with⟨n,h1,h2,h3⟩ | h3
  ·rw[h3,j.out_bare hr ho _ (j.hd n h1).1 (j.hd n h1).2]
  ·rw[h3,t9]
 ·rcases two v hv with⟨n,h1,h2,h3⟩ | h3
  ·rw[h3]at hu;exact j.idem hr ho hs _ (j.hd n h1).1 (j.hd n h1).2 u hu
  ·rw[h3,Tm.vs_var (by rw[s7];omega),s7,mem_singleton]at hu;rw[show u=v by omega];exact h3
 ·rcases two v hv with⟨n,h1,h2,h3⟩ | h3
  ·rw[h3,j.most hr ho ht _ (j.hd n h1).1 (j.hd n h1).2,<-j.sound τ ht n h1,i9 (by omega),h2,show -1-(-1-v)=v by omega]
  ·rw[h3,G0 hv]
 ·rcases two v hv with⟨n,h1,h2,h3⟩ | h3
  ·have:=j.low n h1;rw[h3,c4v ho (j.hd n h1).1 (j.hd n h1).2];omega
  ·rw[h3,s7];omega
theorem Joined.no(j:Joined N T H K E){O:Nat->Prop}(hO:∀h,h<N->H h=h->¬ O h->∃g,g<N/\H g=g/\¬ O g/\¬ (T g).f<0/\∃i,i<(T g).l.length/\H (K g+i)=h){h0:Nat}(hN0:h0<N)(hh0:H h0=h0)(uE:¬ O h0)(τ:Int->Tm):¬ uni τ E:=by
 intro ht;have up:∀k:Nat,∃h,h<N/\H h=h/\¬ O h/\k<=(a8 τ (T h)).size:=λk=>by
  induction k with
  | zero=>exact⟨h0,hN0,hh0,uE,Nat.zero_le _⟩
  | succ k ih =>
   obtain⟨h,h1,h2,h3,h4⟩:=ih;obtain⟨g,g1,g2,g3,g4,i,g5,g6⟩:=hO h h1 h2 h3;refine⟨g,g1,g2,g3,?_⟩;obtain⟨p1,p2,_⟩:=j.part g1 g4 g5;have h5:a8 τ (T h)=a8 τ (T g).l[i]:=by rw[<-g6,<-j.sound τ ht _ p1,p2]
   have h6:(a8 τ (T g).l[i]).size<(a8 τ (T g)).size:=by refine Tm.size_part ?_;rw[c9 g4,Tm.ps_of_sym (t:=⟨(T g).f,_⟩) (by show 0<=(T g).f;omega)];exact mem_map.2 ⟨_,List.getElem_mem g5,rfl⟩
   rw[h5]at h4;omega
 have top:∀M:Nat,∃B,∀n,n<M->(a8 τ (T n)).size<=B:=λM=>by
  induction M with
  | zero=>exact⟨0,λn hn=>by omega⟩
  | succ M ih =>
   obtain⟨B,hB⟩:=ih;refine⟨max B (a8 τ (T M)).size,λn hn=>?_⟩;rcases Nat.lt_or_ge n M with h | h
   ·exact Nat.le_trans (hB n h) (Nat.le_max_left _ _)
   ·rw[show n=M by omega];exact Nat.le_max_right _ _
 obtain⟨B,hB⟩:=top N;obtain⟨h,h1,_,_,h4⟩:=up (B+1);have:=hB h h1;omega
end
def p8:List (Int×Nat)->Int->Option Nat
 | [],_=>none
 | p::l,v=>if p.1=v then some p.2 else p8 l v
theorem V8(l:List (Int×Nat))(u:Int)(n:Nat)(v:Int):p8 (l++[(u,n)]) v=(p8 l v).or (if u=v then some n else none):=by
 induction l with
 | nil=>rfl
 | cons p l ih =>
  rw[cons_append,p8,p8];split
  ·rfl
  ·exact ih
def Con(N:Nat)(H:Nat->Nat)(ps:List (Nat×Nat))(x y:Nat):Prop:=∀G:Nat->Nat,(∀m,m<N->G m=G (H m))->(∀p∈ps,G p.1=G p.2)->G x=G y
structure Cls(N:Nat)(T:Nat->Tm)(K U H r:Nat->Nat)(vr:List (Int×Nat))(ps:List (Nat×Nat))(E:List (Tm×Tm)):Prop where
 hd:∀n,n<N->H n<N/\H (H n)=H n
 up:∀n,n<N->U n<N/\H (U n)=H n/\(H n=n->U n=n)
 rank:∀n,n<N->H n≠n->r (U n)<r n
 low:∀n,n<N->(T n).f<=(T (H n)).f
 kid:∀n,n<N->K n≠0->¬ (T n).f<0/\∀i,i<(T n).l.length->K n+i<N/\(T n).l[i]?=some (T (K n+i))
 vrs:∀n,n<N->(T n).f<0->∃m,p8 vr (-1-(T n).f)=some m/\H n=H m
 vrt:∀v m,p8 vr v=some m->m<N/\(T m).f = -1-v
 cls:∀n,n<N->¬ (T n).f<0->H n≠n->(T (H n)).f=(T n).f/\(T (H n)).l.length=(T n).l.length/\((T n).l.length≠0->K n≠0/\K (H n)≠0)/\∀i,i<(T n).l.length->Con N H ps (K n+i) (K (H n)+i)
 pss:∀p∈ps,p.1<N/\p.2<N
 pair:∀p∈E,∃n m,n<N/\m<N/\T n=p.1/\T m=p.2/\Con N H ps n m
 sound:∀ τ,uni τ E->(∀n,n<N->a8 τ (T n)=a8 τ (T (H n)))/\∀p∈ps,a8 τ (T p.1)=a8 τ (T p.2)
section
variable{N:Nat}{T:Nat->Tm}{K U H r:Nat->Nat}{vr:List (Int×Nat)}{ps:List (Nat×Nat)}{E:List (Tm×Tm)}
def upd{α:Type}(f:Nat->α)(n:Nat)(x:α)(m:Nat):α:=if m=n then x else f m
theorem j9{α:Type}{f:Nat->α}{n:Nat}{x:α}:upd f n x n=x:=if_pos rfl
theorem q5{α:Type}{f:Nat->α}{n m:Nat}{x:α}(h:m≠n):upd f n x m=f m:=if_neg h
theorem Cls.nil:Cls 0 T K U H r [] [] []:=
 ⟨λn h=>by omega,λn h=>by omega,λn h=>by omega,λn h=>by omega,λn h=>by omega,λn h=>by omega,λv m h=>(by cases h),λn h=>by omega,λp h=>(by cases h),λp h=>(by cases h),fun τ _=>⟨λn h=>by omega,λp h=>(by cases h)⟩⟩
theorem Cls.add(h:Cls N T K U H r vr ps E){t:Tm}{u:Nat}{vr':List (Int×Nat)}(hu:u<=N)(hb:u<N->t.f<0/\(T u).f=t.f)(gA:∀v m,p8 vr v=some m->p8 vr' v=some m)(gD:∀v m,p8 vr' v=some m->p8 vr v=some m\/(m=N/\t.f = -1-v))(mU:t.f<0->p8 vr' (-1-t.f)=some u) :
  Cls (N+1) (upd T N t) (upd K N 0) (upd U N u) (upd H N (if u=N then N else H u)) (upd r N (if u=N then 0 else r u+1)) vr' ps E:=by
 have hH:∀{n},n<N->upd H N (if u=N then N else H u) n=H n:=λhn=>q5 (by omega);have hT:∀{n},n<N->upd T N t n=T n:=λhn=>q5 (by omega);have hK:∀{n},n<N->upd K N 0 n=K n:=λhn=>q5 (by omega);have hU:∀{n},n<N->upd U N u n=U n:=λhn=>q5 (by omega);have hr:∀{n},n<N->upd r N (if u=N then 0 else r u+1) n=r n:=λhn=>q5 (by omega);have con:∀{x y},Con N H ps x y->Con (N+1) (upd H N (if u=N then N else H u)) ps x y:=λhc G g1 g2=>hc G (λm hm=>by have:=g1 m (by omega);rw[hH hm]at this;exact this) g2;have two:∀{n},n<N+1->n<N\/n=N:=λhn=>by omega
 refine⟨λn hn=>?_,λn hn=>?_,λn hn kF=>?_,λn hn=>?_,λn hn hk=>?_,λn hn hf=>?_,λv m hl=>?_,λn hn hf kF=>?_,λp hp=>?_,λp hp=>?_,fun τ ht=>?_⟩
 ·rcases two hn with hn | rfl
  ·have:=h.hd n hn;rw[hH hn,hH this.1];exact⟨by omega,this.2⟩
  ·rw[j9];split
   ·exact⟨by omega,by rw[j9]⟩
   ·have:=h.hd u (by omega);rw[q5 (by omega)];exact⟨by omega,this.2⟩
 ·rcases two hn with hn | rfl
  ·have:=h.up n hn;rw[hU hn,hH hn,hH this.1];exact⟨by omega,this.2⟩
  ·rw[j9,j9];by_cases e:u=n
   ·rw[if_pos e,e,j9];exact⟨by omega,by simp,λ_=>rfl⟩
   ·rw[if_neg e,q5 e];refine⟨by omega,rfl,λe2=>?_⟩;have:=(h.hd u (by omega)).1;omega
 ·rcases two hn with hn | rfl
  ·rw[hH hn]at kF;rw[hU hn,hr hn,hr (h.up n hn).1];exact h.rank n hn kF
  ·rw[j9]at kF;rw[j9,j9];by_cases e:u=n
   ·rw[if_pos e]at kF;exact absurd rfl kF
   ·rw[if_neg e,q5 e];omega
 ·rcases two hn with hn | rfl
  ·rw[hH hn,hT hn,hT (h.hd n hn).1];exact h.low n hn
  ·rw[j9,j9];by_cases e:u=n
   ·rw[if_pos e,j9];exact Int.le_refl _
   ·rw[if_neg e];have h1:=h.hd u (by omega);have h2:=h.low u (by omega);rw[hT h1.1,<-(hb (by omega)).2];exact h2
 ·rcases two hn with hn | rfl
  ·rw[hK hn]at hk |-;rw[hT hn];obtain⟨h1,h2⟩:=h.kid n hn hk;refine⟨h1,λi hi=>?_⟩;have:=h2 i hi;rw[hT this.1];exact⟨by omega,this.2⟩
  ·rw[j9]at hk;exact absurd rfl hk
 ·rcases two hn with hn | rfl
  ·rw[hT hn]at hf |-;obtain⟨m,h1,h2⟩:=h.vrs n hn hf;have:=(h.vrt _ m h1).1;exact⟨m,gA _ _ h1,by rw[hH hn,hH this,h2]⟩
  ·rw[j9]at hf |-;refine⟨u,mU hf,?_⟩;rw[j9];by_cases e:u=n
   ·rw[if_pos e,e,j9]
   ·rw[if_neg e,q5 e]
 ·rcases gD v m hl with h1 | ⟨rfl,h1⟩
  ·have:=h.vrt v m h1;rw[hT this.1];exact⟨by omega,this.2⟩
  ·rw[j9];exact⟨by omega,h1⟩
 ·rcases two hn with hn | rfl
  ·have h1:=(h.hd n hn).1;rw[hT hn]at hf |-;rw[hH hn]at kF |-;rw[hT h1,hK hn,hK h1];obtain⟨c1,c2,c3,c4⟩:=h.cls n hn hf kF;exact⟨c1,c2,c3,λi hi=>con (c4 i hi)⟩
  ·rw[j9]at hf kF;by_cases e:u=n
   ·rw[if_pos e]at kF;exact absurd rfl kF
   ·exact absurd (hb (by omega)).1 hf
 ·have:=h.pss p hp;exact⟨by omega,by omega⟩
 ·obtain⟨n,m,h1,h2,h3,h4,h5⟩:=h.pair p hp;exact⟨n,m,by omega,by omega,by rw[hT h1];exact h3,by rw[hT h2];exact h4,con h5⟩
 ·obtain⟨s1,s2⟩:=h.sound τ ht;refine⟨λn hn=>?_,λp hp=>?_⟩
  ·rcases two hn with hn | rfl
   ·rw[hH hn,hT hn,hT (h.hd n hn).1];exact s1 n hn
   ·rw[j9,j9];by_cases e:u=n
    ·rw[if_pos e,j9]
    ·have yR:u<n:=by omega
     rw[if_neg e,hT (h.hd u yR).1,<-s1 u yR];obtain⟨f1,f2⟩:=hb yR;rw[i9 f1,i9 (by rw[f2];exact f1),f2]
  ·have:=h.pss p hp;rw[hT this.1,hT this.2];exact s2 p hp
theorem Cls.setK(h:Cls N T K U H r vr ps E){n k:Nat}(hn:n<N)(hk:K n=0)(hf:¬ (T n).f<0)(hp:∀i,i<(T n).l.length->k+i<N/\(T n).l[i]?=some (T (k+i))):Cls N T (upd K n k) U H r vr ps E:=by
 refine⟨h.hd,h.up,h.rank,h.low,λm hm h1=>?_,h.vrs,h.vrt,λm hm h1 h2=>?_,h.pss,h.pair,h.sound⟩
 ·by_cases e:m=n
  ·subst e;rw[j9];exact⟨hf,hp⟩
  ·rw[q5 e]at h1 |-;exact h.kid m hm h1
 ·obtain⟨c1,c2,c3,c4⟩:=h.cls m hm h1 h2;refine⟨c1,c2,λh3=>?_,λi hi=>?_⟩
  ·obtain⟨d1,d2⟩:=c3 h3;rw[q5 (m:=m) (λe=>d1 (by rw[e];exact hk)),q5 (m:=H m) (λe=>d2 (by rw[e];exact hk))];exact⟨d1,d2⟩
  ·obtain⟨d1,d2⟩:=c3 (by omega);rw[q5 (m:=m) (λe=>d1 (by rw[e];exact hk)),q5 (m:=H m) (λe=>d2 (by rw[e];exact hk))];exact c4 i hi
theorem Cls.halve(h:Cls N T K U H r vr ps E){n:Nat}(hn:n<N):Cls N T K (upd U n (U (U n))) H r vr ps E:=by
 obtain⟨u1,u2,u3⟩:=h.up n hn;obtain⟨v1,v2,v3⟩:=h.up (U n) u1;refine⟨h.hd,λm hm=>?_,λm hm h1=>?_,h.low,h.kid,h.vrs,h.vrt,h.cls,h.pss,h.pair,h.sound⟩
 ·by_cases e:m=n
  ·subst e;rw[j9];exact⟨v1,by rw[v2,u2],λe=>by rw[u3 e];exact u3 e⟩
  ·rw[q5 e];exact h.up m hm
 ·by_cases e:m=n
  ·subst e;rw[j9];have h2:=h.rank m hm h1;by_cases e2:H (U m)=U m
   ·rw[v3 e2];exact h2
   ·have:=h.rank (U m) u1 e2;omega
  ·rw[q5 e];exact h.rank m hm h1
theorem Cls.drop{x y:Nat}(h:Cls N T K U H r vr (ps++[(x,y)]) E)(e:H x=H y):Cls N T K U H r vr ps E:=by
 have lJ:=h.pss (x,y) (by simp);have con:∀{p q},Con N H (ps++[(x,y)]) p q->Con N H ps p q:=λhc G g1 g2=>hc G g1 λp hp=>by
  rcases mem_append.1 hp with hp | hp
  ·exact g2 p hp
  ·rw[mem_singleton]at hp;rw[hp];show G x=G y;rw[g1 x lJ.1,g1 y lJ.2,e]
 refine⟨h.hd,h.up,h.rank,h.low,h.kid,h.vrs,h.vrt,λn hn h1 h2=>?_,λp hp=>h.pss p (mem_append_left _ hp),λp hp=>?_,fun τ ht=>⟨(h.sound τ ht).1,λp hp=>(h.sound τ ht).2 p (mem_append_left _ hp)⟩⟩
 ·obtain⟨c1,c2,c3,c4⟩:=h.cls n hn h1 h2;exact⟨c1,c2,c3,λi hi=>con (c4 i hi)⟩
 ·obtain⟨n,m,h1,h2,h3,h4,h5⟩:=h.pair p hp;exact⟨n,m,h1,h2,h3,h4,con h5⟩
theorem Cls.push(h:Cls N T K U H r vr ps E){n m:Nat}(hn:n<N)(hm:m<N):Cls N T K U H r vr (ps++[(n,m)]) (E++[(T n,T m)]):=by
 have con:∀{p q},Con N H ps p q->Con N H (ps++[(n,m)]) p q:=λhc G g1 g2=>hc G g1 λp hp=>g2 p (mem_append_left _ hp);refine⟨h.hd,h.up,h.rank,h.low,h.kid,h.vrs,h.vrt,λa ha h1 h2=>?_,λp hp=>?_,λp hp=>?_,fun τ ht=>?_⟩
 ·obtain⟨c1,c2,c3,c4⟩:=h.cls a ha h1 h2;exact⟨c1,c2,c3,λi hi=>con (c4 i hi)⟩
 ·rcases mem_append.1 hp with hp | hp
  ·exact h.pss p hp
  ·rw[mem_singleton]at hp;rw[hp];exact⟨hn,hm⟩
 ·rcases mem_append.1 hp with hp | hp
  ·obtain⟨a,b,h1,h2,h3,h4,h5⟩:=h.pair p hp;exact⟨a,b,h1,h2,h3,h4,con h5⟩
  ·rw[mem_singleton]at hp;rw[hp];exact⟨n,m,hn,hm,rfl,rfl,λG _ g2=>g2 (n,m) (by simp)⟩
 ·rw[C5,C9]at ht;obtain⟨s1,s2⟩:=h.sound τ ht.1;refine⟨s1,λp hp=>?_⟩;rcases mem_append.1 hp with hp | hp
  ·exact s2 p hp
  ·rw[mem_singleton]at hp;rw[hp];exact ht.2
theorem Cls.union{x y:Nat}(h:Cls N T K U H r vr (ps++[(x,y)]) E){a b:Nat}(ha:a<N)(hb:b<N)(pM:H a=a)(pN:H b=b)(oO:a≠b)(lJ:(H x=a/\H y=b)\/(H x=b/\H y=a))(kV:(T a).f<=(T b).f){qs:List (Nat×Nat)}
  (hs:¬ (T a).f<0->(T b).f=(T a).f/\(T b).l.length=(T a).l.length/\((T a).l.length≠0->K a≠0/\K b≠0)/\∀i,i<(T a).l.length->(K a+i,K b+i)∈qs)
  (hq:∀q∈qs,¬ (T a).f<0/\∃i,i<(T a).l.length/\q=(K a+i,K b+i)) :
  Cls N T K (upd U a b) (λm=>if H m=a then b else H m) (λm=>if H m=a then r m+r b+1 else r m) vr (ps++qs) E:=by
 have fB:=h.pss (x,y) (by simp);obtain⟨H',hH'⟩:∃H':Nat->Nat,H'=λm=>if H m=a then b else H m:=⟨_,rfl⟩
 have e1:∀{m},H m=a->H' m=b:=λe=>by rw[hH'];exact if_pos e
 have e2:∀{m},H m≠a->H' m=H m:=λe=>by rw[hH'];exact if_neg e
 rw[<-hH'];have rM:¬ (T a).f<0->∀i,i<(T a).l.length->K a+i<N/\K b+i<N/\(T a).l[i]?=some (T (K a+i))/\(T b).l[i]?=some (T (K b+i)):=λhf i hi=>by obtain⟨_,s2,s3,_⟩:=hs hf;obtain⟨k1,k2⟩:=s3 (by omega);have p1:=(h.kid a ha k1).2 i hi;have p2:=(h.kid b hb k2).2 i (by omega);exact⟨p1.1,p2.1,p1.2,p2.2⟩
 have resp:∀G:Nat->Nat,(∀m,m<N->G m=G (H' m))->(∀p∈ps++qs,G p.1=G p.2)->(∀m,m<N->G m=G (H m))/\∀p∈ps++[(x,y)],G p.1=G p.2:=λG g1 g2=>by
  have g3:∀m,m<N->G m=G (H m):=λm hm=>by
   by_cases e:H m=a
   ·rw[g1 m hm,e1 e,e,g1 a ha,e1 pM]
   ·rw[g1 m hm,e2 e]
  refine⟨g3,λp hp=>?_⟩;rcases mem_append.1 hp with hp | hp
  ·exact g2 p (mem_append_left _ hp)
  ·rw[mem_singleton]at hp;rw[hp];show G x=G y;have g4:G a=G b:=by rw[g1 a ha,e1 pM]
   rw[g3 x fB.1,g3 y fB.2];rcases lJ with⟨c1,c2⟩ | ⟨c1,c2⟩
   ·rw[c1,c2,g4]
   ·rw[c1,c2,g4]
 have con:∀{p q},Con N H (ps++[(x,y)]) p q->Con N H' (ps++qs) p q:=λhc G g1 g2=>hc G (resp G g1 g2).1 (resp G g1 g2).2;have hba:H b≠a:=by rw[pN];exact Ne.symm oO
 refine⟨λn hn=>?_,λn hn=>?_,λn hn kF=>?_,λn hn=>?_,h.kid,λn hn hf=>?_,h.vrt,λn hn hf kF=>?_,λp hp=>?_,λp hp=>?_,fun τ ht=>?_⟩
 ·by_cases e:H n=a
  ·rw[e1 e,e2 hba];exact⟨hb,pN⟩
  ·have:=h.hd n hn;rw[e2 e,e2 (by rw[this.2];exact e)];exact this
 ·obtain⟨u1,u2,u3⟩:=h.up n hn;by_cases e:n=a
  ·subst e;rw[j9,e1 pM,e2 hba];exact⟨hb,pN,λe=>e⟩
  ·rw[q5 e];by_cases e3:H n=a
   ·rw[e1 e3,e1 (by rw[u2];exact e3)];exact⟨u1,rfl,λe4=>by rw[<-e4,pN]at e3;exact absurd e3.symm oO⟩
   ·rw[e2 e3,e2 (by rw[u2];exact e3)];exact⟨u1,u2,u3⟩
 ·obtain⟨u1,u2,u3⟩:=h.up n hn;by_cases e:n=a
  ·subst e;rw[j9,if_neg hba,if_pos pM];omega
  ·rw[q5 e];by_cases e3:H n=a
   ·have:=h.rank n hn (by rw[e3];exact Ne.symm e);rw[if_pos e3,if_pos (by rw[u2];exact e3)];omega
   ·rw[e2 e3]at kF;rw[if_neg e3,if_neg (by rw[u2];exact e3)];exact h.rank n hn kF
 ·have:=h.low n hn;by_cases e:H n=a
  ·rw[e1 e];rw[e]at this;omega
  ·rw[e2 e];exact this
 ·obtain⟨m,h1,h2⟩:=h.vrs n hn hf;refine⟨m,h1,?_⟩;by_cases e:H n=a
  ·rw[e1 e,e1 (by rw[<-h2];exact e)]
  ·rw[e2 e,e2 (by rw[<-h2];exact e),h2]
 ·by_cases e:H n=a
  ·rw[e1 e];by_cases e3:n=a
   ·subst e3;obtain⟨s1,s2,s3,s4⟩:=hs hf;exact⟨s1,s2,s3,λi hi G g1 g2=>g2 _ (List.mem_append_right _ (s4 i hi))⟩
   ·obtain⟨c1,c2,c3,c4⟩:=h.cls n hn hf (by rw[e];exact Ne.symm e3);rw[e]at c1 c2 c3 c4;obtain⟨s1,s2,s3,s4⟩:=hs (by rw[c1];exact hf);refine⟨by rw[s1,c1],by rw[s2,c2],λh5=>⟨(c3 h5).1,(s3 (by rw[c2];exact h5)).2⟩,λi hi G g1 g2=>?_⟩;rw[con (c4 i hi) G g1 g2];exact g2 _ (List.mem_append_right _ (s4 i (by rw[c2];exact hi)))
  ·rw[e2 e]at kF |-;obtain⟨c1,c2,c3,c4⟩:=h.cls n hn hf kF;exact⟨c1,c2,c3,λi hi=>con (c4 i hi)⟩
 ·rcases mem_append.1 hp with hp | hp
  ·exact h.pss p (mem_append_left _ hp)
  ·obtain⟨hf,i,hi,e⟩:=hq p hp;have:=rM hf i hi;rw[e];exact⟨this.1,this.2.1⟩
 ·obtain⟨n,m,h1,h2,h3,h4,h5⟩:=h.pair p hp;exact⟨n,m,h1,h2,h3,h4,con h5⟩
 ·obtain⟨s1,s2⟩:=h.sound τ ht;have eL:a8 τ (T x)=a8 τ (T y):=s2 (x,y) (by simp);have jV:a8 τ (T a)=a8 τ (T b):=by
   rw[s1 x fB.1,s1 y fB.2]at eL;rcases lJ with⟨c1,c2⟩ | ⟨c1,c2⟩
   ·rw[c1,c2]at eL;exact eL
   ·rw[c1,c2]at eL;exact eL.symm
  refine⟨λn hn=>?_,λp hp=>?_⟩
  ·by_cases e:H n=a
   ·rw[e1 e,s1 n hn,e,jV]
   ·rw[e2 e];exact s1 n hn
  ·rcases mem_append.1 hp with hp | hp
   ·exact s2 p (mem_append_left _ hp)
   ·obtain⟨hf,i,hi,e⟩:=hq p hp;obtain⟨_,_,k3,k4⟩:=rM hf i hi;rw[e];obtain⟨s3,s4,_⟩:=hs hf;rw[c9 hf,c9 (by rw[s3];exact hf)]at jV;have:=congrArg (λt:Tm=>t.l[i]?) jV;simp only[List.getElem?_map,k3,k4,Option.map_some,Option.some.injEq]at this;exact this
theorem Cls.clash{x y:Nat}(h:Cls N T K U H r vr (ps++[(x,y)]) E){a b:Nat}(lJ:(H x=a/\H y=b)\/(H x=b/\H y=a))(hfa:¬ (T a).f<0)(qN:¬ (T b).f<0)(hc:(T a).f≠(T b).f\/(T a).l.length≠(T b).l.length)(τ:Int->Tm):¬ uni τ E:=by
 intro ht;have fB:=h.pss (x,y) (by simp);obtain⟨s1,s2⟩:=h.sound τ ht;have eL:a8 τ (T x)=a8 τ (T y):=s2 (x,y) (by simp);have jV:a8 τ (T a)=a8 τ (T b):=by
  rw[s1 x fB.1,s1 y fB.2]at eL;rcases lJ with⟨c1,c2⟩ | ⟨c1,c2⟩
  ·rw[c1,c2]at eL;exact eL
  ·rw[c1,c2]at eL;exact eL.symm
 rw[c9 hfa,c9 qN]at jV;have h4:=congrArg Tm.f jV;have h5:=congrArg (λt:Tm=>t.l.length) jV;simp only[length_map]at h4 h5;rcases hc with hc | hc
 ·exact hc h4
 ·exact hc h5
theorem Cls.joined(h:Cls N T K U H r vr [] E)(hk:∀n,n<N->¬ (T n).f<0->(T n).l.length≠0->K n≠0):Joined N T H K E:=by
 have con:∀{p q},Con N H [] p q->H p=H q:=λhc=>hc H (λm hm=>(h.hd m hm).2.symm) (λp hp=>by cases hp);refine⟨h.hd,h.low,λn hn hf i p hp=>?_,λn hn hf=>?_,λn m hn hm hf e=>?_,λp hp=>?_,fun τ ht=>(h.sound τ ht).1⟩
 ·have hi:i<(T n).l.length:=by
   rcases Nat.lt_or_ge i (T n).l.length with h1 | h1
   ·exact h1
   ·rw[getElem?_eq_none h1]at hp;cases hp
  obtain⟨k1,k2⟩:=(h.kid n hn (hk n hn hf (by omega))).2 i hi;rw[k2]at hp;exact⟨k1,Option.some.inj hp⟩
 ·by_cases e:H n=n
  ·rw[e];exact⟨rfl,rfl,λ_ _=>rfl⟩
  ·obtain⟨c1,c2,c3,c4⟩:=h.cls n hn hf e;exact⟨c1,c2,λi hi=>con (c4 i hi)⟩
 ·obtain⟨a,a1,a2⟩:=h.vrs n hn hf;obtain⟨b,b1,b2⟩:=h.vrs m hm (by rw[<-e];exact hf);rw[<-e,a1]at b1;rw[a2,b2,Option.some.inj b1]
 ·obtain⟨n,m,h1,h2,h3,h4,h5⟩:=h.pair p hp;exact⟨n,m,h1,h2,h3,h4,con h5⟩
end
theorem Cls.congr{N:Nat}{T T':Nat->Tm}{K K' U U' H H' r:Nat->Nat}{vr ps E}(h:Cls N T K U H r vr ps E)(hT:∀n,n<N->T' n=T n)(hK:∀n,n<N->K' n=K n)(hU:∀n,n<N->U' n=U n)(hH:∀n,n<N->H' n=H n):Cls N T' K' U' H' r vr ps E:=by
 have con:∀{x y},Con N H ps x y->Con N H' ps x y:=λhc G g1 g2=>hc G (λm hm=>by rw[g1 m hm,hH m hm]) g2;refine⟨λn hn=>?_,λn hn=>?_,λn hn kF=>?_,λn hn=>?_,λn hn hk=>?_,λn hn hf=>?_,λv m hl=>?_,λn hn hf kF=>?_,h.pss,λp hp=>?_,fun τ ht=>?_⟩
 ·have:=h.hd n hn;rw[hH n hn,hH _ this.1];exact this
 ·have:=h.up n hn;rw[hU n hn,hH n hn,hH _ this.1];exact this
 ·rw[hH n hn]at kF;rw[hU n hn];exact h.rank n hn kF
 ·rw[hH n hn,hT n hn,hT _ (h.hd n hn).1];exact h.low n hn
 ·rw[hK n hn]at hk |-;rw[hT n hn];obtain⟨h1,h2⟩:=h.kid n hn hk;refine⟨h1,λi hi=>?_⟩;have:=h2 i hi;rw[hT _ this.1];exact this
 ·rw[hT n hn]at hf |-;obtain⟨m,h1,h2⟩:=h.vrs n hn hf;exact⟨m,h1,by rw[hH n hn,hH m (h.vrt _ m h1).1];exact h2⟩
 ·have:=h.vrt v m hl;rw[hT m this.1];exact this
 ·have h1:=(h.hd n hn).1;rw[hT n hn]at hf |-;rw[hH n hn]at kF |-;rw[hT _ h1,hK n hn,hK _ h1];obtain⟨c1,c2,c3,c4⟩:=h.cls n hn hf kF;exact⟨c1,c2,c3,λi hi=>con (c4 i hi)⟩
 ·obtain⟨n,m,h1,h2,h3,h4,h5⟩:=h.pair p hp;exact⟨n,m,h1,h2,by rw[hT n h1];exact h3,by rw[hT m h2];exact h4,con h5⟩
 ·obtain⟨s1,s2⟩:=h.sound τ ht;refine⟨λn hn=>?_,λp hp=>?_⟩
  ·rw[hH n hn,hT n hn,hT _ (h.hd n hn).1];exact s1 n hn
  ·have:=h.pss p hp;rw[hT _ this.1,hT _ this.2];exact s2 p hp
structure Nd where
 t:Tm
 fi:Nat
 up:Nat
 us:Int
def ndD:Nd:=⟨⟨0,[]⟩,0,0,0⟩
def nT(ns:List Nd)(n:Nat):Tm:=(ns.getD n ndD).t
def nK(ns:List Nd)(n:Nat):Nat:=(ns.getD n ndD).fi
def nU(ns:List Nd)(n:Nat):Nat:=(ns.getD n ndD).up
def nS(ns:List Nd)(n:Nat):Int:=(ns.getD n ndD).us
def setFi(ns:List Nd)(n k:Nat):List Nd:=ns.set n { ns.getD n ndD with fi:=k }
def setUp(ns:List Nd)(n k:Nat):List Nd:=ns.set n { ns.getD n ndD with up:=k }
structure Cl where
 ns:List Nd
 vr:List (Int×Nat)
 ps:List (Nat×Nat)
def ClsC(c:Cl)(H r:Nat->Nat)(E:List (Tm×Tm)):Prop:=Cls c.ns.length (nT c.ns) (nK c.ns) (nU c.ns) H r c.vr c.ps E
theorem a4t{ns:List Nd}{x:Nd}{n:Nat}(h:n<ns.length):(ns++[x]).getD n ndD=ns.getD n ndD:=by
 rw[getD_eq_getElem?_getD,getD_eq_getElem?_getD,List.getElem?_append_left h]
theorem I9{ns:List Nd}{x:Nd}:(ns++[x]).getD ns.length ndD=x:=by
 rw[getD_eq_getElem?_getD,List.getElem?_append_right (Nat.le_refl _),Nat.sub_self];rfl
theorem a0p{ns:List Nd}{x:Nd}{n m:Nat}(h:n<ns.length):(ns.set n x).getD m ndD=if m=n then x else ns.getD m ndD:=by
 rw[getD_eq_getElem?_getD,List.getElem?_set];by_cases e:m=n
 ·subst e;rw[if_pos rfl,if_pos h,if_pos rfl];rfl
 ·rw[if_neg (Ne.symm e),if_neg e,getD_eq_getElem?_getD]
theorem a5n{α:Type}(g:Nd->α){ns:List Nd}{x:Nd}{n:Nat}(hn:n<ns.length+1):g ((ns++[x]).getD n ndD)=upd (λm=>g (ns.getD m ndD)) ns.length (g x) n:=by
 rcases Nat.lt_or_ge n ns.length with h | h
 ·rw[a4t h,q5 (by omega)]
 ·have:n=ns.length:=by omega
  rw[this,I9,j9]
def Y7(c:Cl)(t:Tm):Nat:=if t.f<0 then(p8 c.vr (-1-t.f)).getD c.ns.length else c.ns.length
def addV(c:Cl)(t:Tm):List (Int×Nat):=if t.f<0 then(match p8 c.vr (-1-t.f)with | some _=>c.vr | none=>c.vr++[(-1-t.f,c.ns.length)])else c.vr
def r7(c:Cl)(t:Tm):Cl:=⟨c.ns++[⟨t,0,Y7 c t,0⟩],addV c t,c.ps⟩
theorem A3(c:Cl)(t:Tm):(r7 c t).ns.length=c.ns.length+1:=by simp[r7]
theorem a2a(c:Cl)(t:Tm){n:Nat}(h:n<c.ns.length):(r7 c t).ns.getD n ndD=c.ns.getD n ndD:=a4t h
theorem ClsC.add{c:Cl}{H r:Nat->Nat}{E}(h:ClsC c H r E)(t:Tm):∃H' r',ClsC (r7 c t) H' r' E/\(∀n,n<c.ns.length->H' n=H n)/\(¬ t.f<0->H' c.ns.length=c.ns.length):=by
 have hx:Y7 c t<=c.ns.length/\(Y7 c t<c.ns.length->t.f<0/\(nT c.ns (Y7 c t)).f=t.f)/\(t.f<0->p8 (addV c t) (-1-t.f)=some (Y7 c t))/\(∀v m,p8 c.vr v=some m->p8 (addV c t) v=some m)/\(∀v m,p8 (addV c t) v=some m->p8 c.vr v=some m\/(m=c.ns.length/\t.f = -1-v)):=by
  unfold Y7 addV;by_cases hf:t.f<0
  ·rw[if_pos hf,if_pos hf];cases hl:p8 c.vr (-1-t.f)with
   | some m =>
    have:=h.vrt _ m hl;refine⟨by simpa using Nat.le_of_lt this.1,λ_=>⟨hf,?_⟩,λ_=>hl,λv m h=>h,λv m h => .inl h⟩;show(nT c.ns m).f=t.f;rw[this.2];omega
   | none =>
    refine⟨Nat.le_refl _,λh=>absurd h (Nat.lt_irrefl _),λ_=>?_,λv m h=>?_,λv m h=>?_⟩
    ·show p8 (c.vr++_) _=_;rw[V8,hl,if_pos rfl];rfl
    ·show p8 (c.vr++_) _=_;rw[V8,h];rfl
    ·have h:p8 (c.vr++_) _=_:=h;rw[V8]at h;cases hv:p8 c.vr v with
     | some q=>rw[hv]at h;exact .inl h
     | none =>
      rw[hv]at h;have h:(if -1-t.f=v then some c.ns.length else none)=some m:=h;split at h
      ·rename_i e;cases h;exact .inr ⟨rfl,by omega⟩
      ·cases h
  ·rw[if_neg hf,if_neg hf];exact⟨Nat.le_refl _,λh=>absurd h (Nat.lt_irrefl _),λh=>absurd h hf,λv m h=>h,λv m h => .inl h⟩
 obtain⟨x1,x2,x3,x4,x5⟩:=hx;have h1:=Cls.add h x1 x2 x4 x5 x3;refine⟨upd H c.ns.length (if Y7 c t=c.ns.length then c.ns.length else H (Y7 c t)),upd r c.ns.length (if Y7 c t=c.ns.length then 0 else r (Y7 c t)+1),?_,λn hn=>q5 (by omega),λhf=>?_⟩
 ·unfold ClsC;rw[A3];exact h1.congr (λn hn=>a5n Nd.t hn) (λn hn=>a5n Nd.fi hn) (λn hn=>a5n Nd.up hn) λn hn=>rfl
 ·rw[j9,if_pos];unfold Y7;rw[if_neg hf]
def addAll(c:Cl)(l:List Tm):Cl:=l.foldl r7 c
theorem V5(l:List Tm):∀c:Cl,(addAll c l).ns.length=c.ns.length+l.length:=by
 induction l with
 | nil=>exact λc=>rfl
 | cons t l ih=>intro c;rw[show addAll c (t::l)=addAll (r7 c t) l from rfl,ih,A3,length_cons];omega
theorem E8(l:List Tm):∀(c:Cl) {n:Nat},n<c.ns.length->(addAll c l).ns.getD n ndD=c.ns.getD n ndD:=by
 induction l with
 | nil=>exact λc n _=>rfl
 | cons t l ih =>
  intro c n hn;rw[show addAll c (t::l)=addAll (r7 c t) l from rfl,ih _ (by rw[A3];omega),a2a c t hn]
theorem b6g(l:List Tm):∀(c:Cl),(addAll c l).ps=c.ps:=by
 induction l with
 | nil=>exact λc=>rfl
 | cons t l ih=>intro c;exact ih _
theorem a4e(l:List Tm):∀(c:Cl) {i:Nat},i<l.length->l[i]?=some (nT (addAll c l).ns (c.ns.length+i))/\nK (addAll c l).ns (c.ns.length+i)=0:=by
 induction l with
 | nil=>intro c i hi;simp at hi
 | cons t l ih =>
  intro c i hi;rw[show addAll c (t::l)=addAll (r7 c t) l from rfl];cases i with
  | zero =>
   unfold nT nK;rw[Nat.add_zero,E8 l _ (by rw[A3];omega)];unfold r7;rw[I9];exact⟨rfl,rfl⟩
  | succ i =>
   have:=ih (r7 c t) (i:=i) (by simpa using hi);rw[A3]at this;rw[show c.ns.length+(i+1)=c.ns.length+1+i by omega];exact⟨by rw[List.getElem?_cons_succ];exact this.1,this.2⟩
theorem ClsC.addAll(l:List Tm):∀{c:Cl} {H r:Nat->Nat} {E},ClsC c H r E->∃H' r',ClsC (addAll c l) H' r' E/\(∀n,n<c.ns.length->H' n=H n):=by
 induction l with
 | nil=>exact fun{c H r E} h=>⟨H,r,h,λn _=>rfl⟩
 | cons t l ih =>
  intro c H r E h;obtain⟨H1,r1,g1,g2,_⟩:=h.add t;obtain⟨H2,r2,k1,k2⟩:=ih g1;exact⟨H2,r2,k1,λn hn=>by rw[k2 n (by rw[A3];omega),g2 n hn]⟩
def Cl.setFi(c:Cl)(n k:Nat):Cl:=⟨Go.Proofs.YteegmcfobgpemaaGreat.setFi c.ns n k,c.vr,c.ps⟩
theorem b2P(c:Cl)(t:Tm){n k:Nat}(hn:n<c.ns.length):r7 (c.setFi n k) t=(r7 c t).setFi n k:=by
 unfold r7 Cl.setFi Y7 addV setFi;simp only[length_set];congr 1;rw[List.set_append_left _ _ hn,a4t hn]
theorem L9(l:List Tm):∀(c:Cl) {n k:Nat},n<c.ns.length->Go.Proofs.YteegmcfobgpemaaGreat.addAll (c.setFi n k) l=(Go.Proofs.YteegmcfobgpemaaGreat.addAll c l).setFi n k:=by
 induction l with
 | nil=>exact λc n k _=>rfl
 | cons t l ih =>
  intro c n k hn;show Go.Proofs.YteegmcfobgpemaaGreat.addAll (r7 (c.setFi n k) t) l=_;rw[b2P c t hn,ih _ (by rw[A3];omega)];rfl
theorem W5{ns:List Nd}{n k m:Nat}(h:n<ns.length):(setFi ns n k).getD m ndD=if m=n then{ ns.getD n ndD with fi:=k }else ns.getD m ndD:=a0p h
theorem V6{ns:List Nd}{n k m:Nat}(h:n<ns.length):(setUp ns n k).getD m ndD=if m=n then{ ns.getD n ndD with up:=k }else ns.getD m ndD:=a0p h
theorem O9{ns:List Nd}{n k m:Nat}(h:n<ns.length):nT (setFi ns n k) m=nT ns m:=by
 unfold nT;rw[W5 h];split
 ·rename_i e;rw[e]
 ·rfl
theorem b8q{ns:List Nd}{n k m:Nat}(h:n<ns.length):nU (setFi ns n k) m=nU ns m:=by
 unfold nU;rw[W5 h];split
 ·rename_i e;rw[e]
 ·rfl
theorem I1{ns:List Nd}{n k m:Nat}(h:n<ns.length):nK (setFi ns n k) m=upd (nK ns) n k m:=by
 unfold nK upd;rw[W5 h];split<;>rfl
theorem S6{ns:List Nd}{n k m:Nat}(h:n<ns.length):nT (setUp ns n k) m=nT ns m:=by
 unfold nT;rw[V6 h];split
 ·rename_i e;rw[e]
 ·rfl
theorem T2{ns:List Nd}{n k m:Nat}(h:n<ns.length):nK (setUp ns n k) m=nK ns m:=by
 unfold nK;rw[V6 h];split
 ·rename_i e;rw[e]
 ·rfl
theorem b8B{ns:List Nd}{n k m:Nat}(h:n<ns.length):nS (setUp ns n k) m=nS ns m:=by
 unfold nS;rw[V6 h];split
 ·rename_i e;rw[e]
 ·rfl
theorem a1E{ns:List Nd}{n k m:Nat}(h:n<ns.length):nU (setUp ns n k) m=upd (nU ns) n k m:=by
 unfold nU upd;rw[V6 h];split<;>rfl
theorem G9{ns:List Nd}{n k:Nat}:(setUp ns n k).length=ns.length:=length_set
theorem R8{ns:List Nd}{n k:Nat}:(setFi ns n k).length=ns.length:=length_set
def pC(c:Cl)(n:Nat):Cl×Nat×Nat:=
 if(nT c.ns n).f<0\/(nT c.ns n).l.length=0 then(c,0,0)
 else if nK c.ns n=0 then(Go.Proofs.YteegmcfobgpemaaGreat.addAll (c.setFi n c.ns.length) (nT c.ns n).l,c.ns.length,c.ns.length+(nT c.ns n).l.length)
 else(c,nK c.ns n,nK c.ns n+(nT c.ns n).l.length)
structure Grew(c c':Cl)(H H':Nat->Nat):Prop where
 len:c.ns.length<=c'.ns.length
 tm:∀m,m<c.ns.length->nT c'.ns m=nT c.ns m
 kd:∀m,m<c.ns.length->nK c.ns m≠0->nK c'.ns m=nK c.ns m
 us:∀m,m<c.ns.length->nS c'.ns m=nS c.ns m
 hd:∀m,m<c.ns.length->H' m=H m
 ps:c'.ps=c.ps
theorem Grew.refl(c:Cl)(H:Nat->Nat):Grew c c H H:=⟨Nat.le_refl _,λ_ _=>rfl,λ_ _ _=>rfl,λ_ _=>rfl,λ_ _=>rfl,rfl⟩
theorem ClsC.parts{c:Cl}{H r:Nat->Nat}{E}(h:ClsC c H r E){n:Nat}(hn:n<c.ns.length):∃H' r',ClsC (pC c n).1 H' r' E/\Grew c (pC c n).1 H H'/\((nT c.ns n).f<0\/(nT c.ns n).l.length=0->(pC c n).2=(0,0))/\(¬ ((nT c.ns n).f<0\/(nT c.ns n).l.length=0)->nK (pC c n).1.ns n≠0/\(pC c n).2=(nK (pC c n).1.ns n,nK (pC c n).1.ns n+(nT c.ns n).l.length)):=by
 unfold pC;split
 ·rename_i hv;exact⟨H,r,h,Grew.refl c H,λ_=>rfl,λhc=>absurd hv hc⟩
 ·rename_i hv;split
  ·rename_i hk;obtain⟨H1,r1,g1,g2⟩:=ClsC.addAll (nT c.ns n).l h;rw[L9 _ c hn];obtain⟨l,hl⟩:∃l,l=(nT c.ns n).l:=⟨_,rfl⟩
   rw[<-hl]at g1 hv |-;have kD:=V5 l c;have gQ:n<(Go.Proofs.YteegmcfobgpemaaGreat.addAll c l).ns.length:=by omega
   have ht:∀m,m<c.ns.length->nT (Go.Proofs.YteegmcfobgpemaaGreat.addAll c l).ns m=nT c.ns m:=λm hm=>by unfold nT;rw[E8 l c hm]
   have gF:∀m,m<c.ns.length->nK (Go.Proofs.YteegmcfobgpemaaGreat.addAll c l).ns m=nK c.ns m:=λm hm=>by unfold nK;rw[E8 l c hm]
   have yS:∀m,m<c.ns.length->nS (Go.Proofs.YteegmcfobgpemaaGreat.addAll c l).ns m=nS c.ns m:=λm hm=>by unfold nS;rw[E8 l c hm]
   have yT:¬ (nT c.ns n).f<0:=λe=>hv (.inl e);have g3:Cls _ _ (upd (nK (Go.Proofs.YteegmcfobgpemaaGreat.addAll c l).ns) n c.ns.length) _ _ _ _ _ _:=Cls.setK g1 gQ (by rw[gF n hn];exact hk) (by rw[ht n hn];exact yT) λi hi=>by rw[ht n hn,<-hl]at hi |-;exact⟨by omega,(a4e l c hi).1⟩
   refine⟨H1,r1,?_,⟨?_,λm hm=>?_,λm hm gY=>?_,λm hm=>?_,g2,b6g l c⟩,λe=>absurd e hv,λ_=>?_⟩
   ·unfold ClsC;show Cls (setFi _ _ _).length (nT (setFi _ _ _)) (nK (setFi _ _ _)) (nU (setFi _ _ _)) _ _ _ _ _;rw[R8];exact g3.congr (λm _=>O9 gQ) (λm _=>I1 gQ) (λm _=>b8q gQ) λm _=>rfl
   ·show _<=(setFi _ _ _).length;rw[R8];omega
   ·show nT (setFi _ _ _) m=_;rw[O9 gQ,ht m hm]
   ·show nK (setFi _ _ _) m=_;rw[I1 gQ,q5 (λe=>gY (by rw[e];exact hk)),gF m hm]
   ·show nS (setFi _ _ _) m=_;unfold nS;rw[W5 gQ,<-show nS (Go.Proofs.YteegmcfobgpemaaGreat.addAll c l).ns m=(c.ns.getD m ndD).us from yS m hm];split
    ·rename_i e;rw[e];rfl
    ·rfl
   ·have:nK (setFi (Go.Proofs.YteegmcfobgpemaaGreat.addAll c l).ns n c.ns.length) n=c.ns.length:=by rw[I1 gQ,j9]
    show nK (setFi _ _ _) n≠0/\(c.ns.length,c.ns.length+l.length)=(nK (setFi _ _ _) n,nK (setFi _ _ _) n+l.length);rw[this];exact⟨by omega,rfl⟩
  ·rename_i hk;exact⟨H,r,h,Grew.refl c H,λe=>absurd e hv,λ_=>⟨hk,rfl⟩⟩
def o8:Nat->List Nd->Nat->Option (List Nd×Nat)
 | 0,_,_=>none
 | k+1,ns,n=>if nU ns n=n then some (ns,n)else o8 k (setUp ns n (nU ns (nU ns n))) (nU (setUp ns n (nU ns (nU ns n))) n)
theorem a4L:∀(k:Nat) (ns:List Nd) (n:Nat) (r),o8 k ns n=some r->o8 (k+1) ns n=some r
 | 0,_,_,_,e=>by cases e
 | k+1,ns,n,r,e=>by
  rw[o8]at e |-;split
  ·rename_i h;rw[if_pos h]at e;exact e
  ·rename_i h;rw[if_neg h]at e;exact a4L k _ _ _ e
theorem O7{k m:Nat}(h:k<=m){ns:List Nd}{n:Nat}{r}(e:o8 k ns n=some r):o8 m ns n=some r:=by
 induction h with
 | refl=>exact e
 | step _ ih=>exact a4L _ _ _ _ ih
theorem ClsC.head{vr ps}{H r:Nat->Nat}{E}:∀(k:Nat) {ns:List Nd} {n:Nat},ClsC ⟨ns,vr,ps⟩ H r E->n<ns.length->r n<k->∃ns',o8 k ns n=some (ns',H n)/\ClsC ⟨ns',vr,ps⟩ H r E/\ns'.length=ns.length/\(∀m,nT ns' m=nT ns m)/\(∀m,nK ns' m=nK ns m)/\∀m,nS ns' m=nS ns m
 | 0,ns,n,h,hn,hr=>by omega
 | k+1,ns,n,h,hn,hr=>by
  obtain⟨u1,u2,u3⟩:=h.up n hn;rw[o8];by_cases e:nU ns n=n
  ·rw[if_pos e];have hh:H n=n:=Decidable.byContradiction λkF=>by have h1:r (nU ns n)<r n:=h.rank n hn kF;rw[e]at h1;omega
   exact⟨ns,by rw[hh],h,rfl,λ_=>rfl,λ_=>rfl,λ_=>rfl⟩
  ·rw[if_neg e];have kF:H n≠n:=λe2=>e (u3 e2);have r1:r (nU ns n)<r n:=h.rank n hn kF;obtain⟨v1,v2,v3⟩:=h.up (nU ns n) u1;have u1':nU ns n<ns.length:=u1;have v1':nU ns (nU ns n)<ns.length:=v1;have hU:nU (setUp ns n (nU ns (nU ns n))) n=nU ns (nU ns n):=by rw[a1E hn,j9]
   have hc:ClsC ⟨setUp ns n (nU ns (nU ns n)),vr,ps⟩ H r E:=by unfold ClsC;show Cls (setUp _ _ _).length _ _ _ _ _ _ _ _;rw[G9];exact(Cls.halve h hn).congr (λm _=>S6 hn) (λm _=>T2 hn) (λm _=>a1E hn) λm _=>rfl
   have r2:r (nU ns (nU ns n))<=r (nU ns n):=by
    by_cases e2:H (nU ns n)=nU ns n
    ·rw[show nU ns (nU ns n)=nU ns n from v3 e2];exact Nat.le_refl _
    ·exact Nat.le_of_lt (h.rank _ u1 e2)
   rw[hU];obtain⟨ns',g1,g2,g3,g4,g5,g6⟩:=ClsC.head k hc (n:=nU ns (nU ns n)) (by rw[G9];exact v1') (by omega);refine⟨ns',?_,g2,by rw[g3,G9],λm=>by rw[g4,S6 hn],λm=>by rw[g5,T2 hn],λm=>by rw[g6,b8B hn]⟩;rw[g1,show H (nU ns (nU ns n))=H n from v2.trans u2]
def j8(f:Nat->Nat):Nat->Nat
 | 0=>0
 | n+1=>j8 f n+f n
theorem r9{f g:Nat->Nat}:∀{N:Nat},(∀n,n<N->f n=g n)->j8 f N=j8 g N
 | 0,_=>rfl
 | N+1,h=>by rw[j8,j8,r9 λn hn=>h n (by omega),h N (by omega)]
theorem M8{f:Nat->Nat}{n x:Nat}:∀{N:Nat},n<N->j8 (upd f n x) N+f n=j8 f N+x
 | 0,h=>by omega
 | N+1,h=>by
  rw[j8,j8];by_cases e:n=N
  ·subst e;rw[j9,r9 (g:=f) λm hm=>q5 (by omega)];omega
  ·rw[q5 (Ne.symm e)];have:=M8 (f:=f) (n:=n) (x:=x) (N:=N) (by omega);omega
def wgt(ns:List Nd)(n:Nat):Nat:=if nK ns n≠0 then(nT ns n).l.length else 2*(nT ns n).size-1
def hw(ns:List Nd)(H:Nat->Nat)(n:Nat):Nat:=if H n=n then wgt ns n else 0
theorem a1Y{ns ns':List Nd}{H H':Nat->Nat}{n:Nat}(h1:nT ns' n=nT ns n)(h2:nK ns' n=nK ns n)(h3:H' n=H n):hw ns' H' n=hw ns H n:=by
 unfold hw wgt;rw[h1,h2,h3]
theorem c0b(c:Cl)(t:Tm){H H':Nat->Nat}(hH:∀n,n<c.ns.length->H' n=H n):j8 (hw (r7 c t).ns H') (c.ns.length+1)<=j8 (hw c.ns H) c.ns.length+(2*t.size-1):=by
 rw[j8,r9 (g:=hw c.ns H) λn hn=>a1Y (by unfold nT;rw[a2a c t hn]) (by unfold nK;rw[a2a c t hn]) (hH n hn)];have h1:nT (r7 c t).ns c.ns.length=t:=by unfold nT r7;rw[I9]
 have h2:nK (r7 c t).ns c.ns.length=0:=by unfold nK r7;rw[I9]
 have:hw (r7 c t).ns H' c.ns.length<=2*t.size-1:=by
  unfold hw wgt;rw[h1,h2];split
  ·rw[if_neg (by simp)];exact Nat.le_refl _
  ·exact Nat.zero_le _
 omega
def szs(l:List Tm):Nat:=(l.map λt=>2*t.size-1).sum
theorem c3D(l:List Tm):szs l+l.length=2*(l.map Tm.size).sum:=by
 unfold szs
 induction l with
 | nil=>rfl
 | cons t l ih =>
  rw[map_cons,map_cons,sum_cons,sum_cons,length_cons];have:=t.size_pos;omega
theorem b2v(l:List Tm):∀(c:Cl) {H H':Nat->Nat},(∀n,n<c.ns.length->H' n=H n)->j8 (hw (addAll c l).ns H') (c.ns.length+l.length)<=j8 (hw c.ns H) c.ns.length+szs l:=by
 induction l with
 | nil =>
  intro c H H' hH;rw[length_nil,Nat.add_zero];have:j8 (hw (addAll c []).ns H') c.ns.length=j8 (hw c.ns H) c.ns.length:=r9 λn hn=>a1Y rfl rfl (hH n hn);rw[this];exact Nat.le_add_right _ _
 | cons t l ih =>
  intro c H H' hH;have h1:=c0b c t hH;have h2:=ih (r7 c t) (H:=H') (H':=H') λ_ _=>rfl;rw[A3]at h2;rw[show addAll c (t::l)=addAll (r7 c t) l from rfl,length_cons,show c.ns.length+(l.length+1)=c.ns.length+1+l.length by omega];have h3:szs (t::l)=(2*t.size-1)+szs l:=by unfold szs;rw[map_cons,sum_cons]
  omega
theorem a7L(c:Cl){n:Nat}(hn:n<c.ns.length){H H':Nat->Nat}(hh:H n=n)(hH:∀n,n<c.ns.length->H' n=H n):j8 (hw (pC c n).1.ns H') (pC c n).1.ns.length<=j8 (hw c.ns H) c.ns.length:=by
 have triv:j8 (hw c.ns H') c.ns.length<=j8 (hw c.ns H) c.ns.length:=by rw[r9 (g:=hw c.ns H) λn hn=>a1Y rfl rfl (hH n hn)];exact Nat.le_refl _
 unfold pC;split
 ·exact triv
 ·rename_i hv;split
  ·rename_i hk;rw[L9 _ c hn];obtain⟨l,hl⟩:∃l,l=(nT c.ns n).l:=⟨_,rfl⟩
   rw[<-hl];have kD:=V5 l c;have gQ:n<(addAll c l).ns.length:=by omega
   have ht:nT (addAll c l).ns n=nT c.ns n:=by unfold nT;rw[E8 l c hn]
   have gF:nK (addAll c l).ns n=nK c.ns n:=by unfold nK;rw[E8 l c hn]
   show j8 (hw (setFi _ _ _) H') (setFi _ _ _).length<=_;rw[R8];have h1:j8 (hw (setFi (addAll c l).ns n c.ns.length) H') (addAll c l).ns.length=j8 (upd (hw (addAll c l).ns H') n l.length) (addAll c l).ns.length:=r9 λm hm=>by
    by_cases e:m=n
    ·subst e;rw[j9];unfold hw wgt;rw[O9 gQ,I1 gQ,j9,hH m hn,hh,if_pos rfl,if_pos (by omega),ht,hl]
    ·rw[q5 e];exact a1Y (O9 gQ) (by rw[I1 gQ,q5 e]) rfl
   have h2:=M8 (f:=hw (addAll c l).ns H') (x:=l.length) gQ;have h3:=b2v l c hH;have h4:hw (addAll c l).ns H' n=2*(nT c.ns n).size-1:=by unfold hw wgt;rw[hH n hn,hh,if_pos rfl,gF,hk,if_neg (by simp),ht]
   have h5:=c3D l;have h6:=Tm.size_sym (t:=nT c.ns n) (λe=>hv (.inl e));rw[<-hl]at h6;rw[h1];rw[kD]at h2 |-;omega
  ·exact triv
def a6B(c:Cl)(a b:Nat):Cl:=
 ⟨(pC (pC c a).1 b).1.ns,(pC (pC c a).1 b).1.vr,(pC (pC c a).1 b).1.ps++(List.range ((pC c a).2.2-(pC c a).2.1)).reverse.map λi=>((pC c a).2.1+i,(pC (pC c a).1 b).2.1+i)⟩
def Cl.setUp(c:Cl)(n k:Nat):Cl:=⟨Go.Proofs.YteegmcfobgpemaaGreat.setUp c.ns n k,c.vr,c.ps⟩
def joinTo(c:Cl)(a b:Nat):Cl×Bool:=
 if(nT c.ns a).f<0 then(c.setUp a b,true)
 else if(nT c.ns a).f≠(nT c.ns b).f\/(nT c.ns a).l.length≠(nT c.ns b).l.length then(c,false)
 else((a6B c a b).setUp a b,true)
def E7(k:Nat)(c:Cl)(x y:Nat):Option (Cl×Bool):=match o8 k c.ns x with
 | none=>none
 | some q=>match o8 k q.1 y with
  | none=>none
  | some q'=>if q.2=q'.2 then some (⟨q'.1,c.vr,c.ps⟩,true)
   else if(nT q'.1 q'.2).f<(nT q'.1 q.2).f then some (joinTo ⟨q'.1,c.vr,c.ps⟩ q'.2 q.2)
   else some (joinTo ⟨q'.1,c.vr,c.ps⟩ q.2 q'.2)
theorem a1D{k m:Nat}(h:k<=m){c:Cl}{x y:Nat}{r}(e:E7 k c x y=some r):E7 m c x y=some r:=by
 unfold E7 at e |-;cases h1:o8 k c.ns x with
 | none=>rw[h1]at e;cases e
 | some q =>
  rw[h1]at e;rw[O7 h h1];simp only at e |-;cases h2:o8 k q.1 y with
  | none=>rw[h2]at e;cases e
  | some q' =>
   rw[h2]at e;rw[O7 h h2];exact e
def mea(c:Cl)(H:Nat->Nat):Nat:=c.ps.length+j8 (hw c.ns H) c.ns.length
def c5q(c:Cl)(M:Nat)(E:List (Tm×Tm))(q:Cl×Bool):Prop:=(q.2=false->∀ τ,¬ uni τ E)/\(q.2=true->∃H' r',ClsC q.1 H' r' E/\mea q.1 H'<M)
theorem a3c{ns vr ps x y}{H r:Nat->Nat}{E}(h:ClsC ⟨ns,vr,ps++[(x,y)]⟩ H r E){a b:Nat}(ha:a<ns.length)(hb:b<ns.length)(pM:H a=a)(pN:H b=b)(oO:a≠b)(lJ:(H x=a/\H y=b)\/(H x=b/\H y=a))(kV:(nT ns a).f<=(nT ns b).f):c5q ⟨ns,vr,ps⟩ (mea ⟨ns,vr,ps++[(x,y)]⟩ H) E (joinTo ⟨ns,vr,ps⟩ a b):=by
 have h0:Cls ns.length (nT ns) (nK ns) (nU ns) H r vr (ps++[(x,y)]) E:=h
 have wH:∀(ns':List Nd) (H1:Nat->Nat),(∀m,m<ns'.length->H1 m<ns'.length/\H1 (H1 m)=H1 m)->a<ns'.length->b<ns'.length->H1 a=a->H1 b=b->j8 (hw (setUp ns' a b) (λm=>if H1 m=a then b else H1 m)) ns'.length+wgt ns' a=j8 (hw ns' H1) ns'.length:=λns' H1 hd tA hb' e1 e2=>by
  have e3:j8 (hw (setUp ns' a b) (λm=>if H1 m=a then b else H1 m)) ns'.length=j8 (upd (hw ns' H1) a 0) ns'.length:=r9 λm hm=>by
   unfold hw;by_cases e:m=a
   ·subst e;rw[j9,if_neg];show ¬ (if H1 m=m then b else H1 m)=m;rw[if_pos e1];exact Ne.symm oO
   ·rw[q5 e];have ew:wgt (setUp ns' a b) m=wgt ns' m:=by unfold wgt;rw[S6 tA,T2 tA]
    rw[ew];by_cases e4:H1 m=a
    ·have e5:(if H1 m=a then b else H1 m)=b:=if_pos e4;have e6:b≠m:=λe7=>by rw[<-e7,e2]at e4;exact oO e4.symm
     show(if(if H1 m=a then b else H1 m)=m then _ else _)=_;rw[e5,if_neg e6,if_neg (by rw[e4];exact Ne.symm e)]
    ·show(if(if H1 m=a then b else H1 m)=m then _ else _)=_;rw[if_neg e4]
  have e4:=M8 (f:=hw ns' H1) (n:=a) (x:=0) tA;have e5:hw ns' H1 a=wgt ns' a:=by unfold hw;rw[if_pos e1]
  omega
 unfold joinTo;by_cases hf:(nT ns a).f<0
 ·rw[if_pos hf];refine⟨λe=>(by cases e),λ_=>?_⟩;have hu:=Cls.union h0 ha hb pM pN oO lJ kV (qs:=[]) (λe=>absurd hf e) (λq hq=>by cases hq);refine⟨λm=>if H m=a then b else H m,λm=>if H m=a then r m+r b+1 else r m,?_,?_⟩
  ·unfold ClsC;show Cls (setUp _ _ _).length (nT (setUp _ _ _)) (nK (setUp _ _ _)) (nU (setUp _ _ _)) _ _ _ _ _;rw[G9];rw[append_nil]at hu;exact hu.congr (λm _=>S6 ha) (λm _=>T2 ha) (λm _=>a1E ha) λm _=>rfl
  ·have:=wH ns H h0.hd ha hb pM pN;show ps.length+j8 (hw (setUp ns a b) _) (setUp ns a b).length<(ps++[(x,y)]).length+j8 (hw ns H) ns.length;rw[G9,length_append,length_singleton];omega
 ·rw[if_neg hf];by_cases hc:(nT ns a).f≠(nT ns b).f\/(nT ns a).l.length≠(nT ns b).l.length
  ·rw[if_pos hc];exact⟨λ_=>Cls.clash h0 lJ hf (by show ¬ (nT ns b).f<0;omega) hc,λe=>by cases e⟩
  ·rw[if_neg hc];refine⟨λe=>(by cases e),λ_=>?_⟩;have lU:(nT ns a).f=(nT ns b).f:=Decidable.byContradiction λh=>hc (.inl h);have cZ:(nT ns a).l.length=(nT ns b).l.length:=Decidable.byContradiction λh=>hc (.inr h)
   obtain⟨c0,vJ⟩:∃c0:Cl,c0=⟨ns,vr,ps⟩:=⟨_,rfl⟩
   have pps:∀(c:Cl) (qs:List (Nat×Nat)) (n:Nat),pC ⟨c.ns,c.vr,qs⟩ n=(⟨(pC c n).1.ns,(pC c n).1.vr,qs⟩,(pC c n).2):=λc qs n=>by
    have addQ:∀(l:List Tm) (c:Cl) (qs:List (Nat×Nat)),addAll ⟨c.ns,c.vr,qs⟩ l=⟨(addAll c l).ns,(addAll c l).vr,qs⟩:=λl=>by
     induction l with
     | nil=>exact λc qs=>rfl
     | cons t l ih=>intro c qs;exact ih (r7 c t) qs
    unfold pC;split
    ·rfl
    ·split
     ·have:=addQ (nT c.ns n).l (c.setFi n c.ns.length) qs;show(addAll ⟨(c.setFi n c.ns.length).ns,(c.setFi n c.ns.length).vr,qs⟩ _,_)=_;rw[this]
     ·rfl
   have hA:=pps ⟨ns,vr,ps⟩ (ps++[(x,y)]) a;have fY:=ClsC.parts h (n:=a) ha;rw[hA]at fY;obtain⟨H1,r1,g1,g2,g3,g4⟩:=fY;obtain⟨c1,gP⟩:∃c1,c1=(pC ⟨ns,vr,ps⟩ a).1:=⟨_,rfl⟩
   rw[<-gP]at g1 g2 g4;have l1:ns.length<=c1.ns.length:=g2.len;have hB:=pps c1 (ps++[(x,y)]) b;have eA:=ClsC.parts g1 (n:=b) (show b<c1.ns.length by omega);rw[hB]at eA;obtain⟨H2,r2,k1,k2,k3,k4⟩:=eA;obtain⟨c2,gV⟩:∃c2,c2=(pC c1 b).1:=⟨_,rfl⟩
   rw[<-gV]at k1 k2 k4;have l2:c1.ns.length<=c2.ns.length:=k2.len;have t1:∀m,m<ns.length->nT c1.ns m=nT ns m:=g2.tm;have t2:∀m,m<c1.ns.length->nT c2.ns m=nT c1.ns m:=k2.tm;have ta:nT c2.ns a=nT ns a:=by rw[t2 a (by omega),t1 a ha]
   have tb:nT c2.ns b=nT ns b:=by rw[t2 b (by omega),t1 b hb]
   have dM:∀m,m<ns.length->H1 m=H m:=g2.hd;have bY:∀m,m<c1.ns.length->H2 m=H1 m:=k2.hd;have uH:∀m,m<ns.length->H2 m=H m:=λm hm=>by rw[bY m (by omega),dM m hm]
   have fB:=h0.pss (x,y) (by simp);have wL:c1.ps=ps:=by have:=pps ⟨ns,vr,ps⟩ ps a;rw[gP,this]
   have qO:c2.ps=ps:=by have:=pps c1 ps b;rw[<-wL]at this;rw[gV];have h9:=congrArg (λq=>q.1.ps) this;exact h9.trans wL
   have qa:(pC ⟨ns,vr,ps⟩ a).2.2-(pC ⟨ns,vr,ps⟩ a).2.1=(nT ns a).l.length/\((nT ns a).l.length≠0->(pC ⟨ns,vr,ps⟩ a).2.1=nK c2.ns a/\nK c2.ns a≠0):=by
    by_cases hz:(nT ns a).l.length=0
    ·have:=g3 (.inr hz);have this:(pC ⟨ns,vr,ps⟩ a).2=(0,0):=this;rw[this];exact⟨by show 0-0=_;omega,λe=>absurd hz e⟩
    ·obtain⟨q1,q2⟩:=g4 λe=>e.elim hf hz;have q2:(pC ⟨ns,vr,ps⟩ a).2=(nK c1.ns a,nK c1.ns a+(nT ns a).l.length):=q2;have q3:nK c2.ns a=nK c1.ns a:=k2.kd a (by show a<c1.ns.length;omega) q1;rw[q2];exact⟨by show nK c1.ns a+_-nK c1.ns a=_;omega,λ_=>⟨q3.symm,by rw[q3];exact q1⟩⟩
   have qb:(nT ns b).l.length≠0->(pC c1 b).2.1=nK c2.ns b/\nK c2.ns b≠0:=λhz=>by
    have tb1:nT c1.ns b=nT ns b:=t1 b hb;obtain⟨q1,q2⟩:=k4 λe=>by have e:(nT c1.ns b).f<0\/(nT c1.ns b).l.length=0:=e;rw[tb1]at e;exact e.elim (λe=>hf (by omega)) hz
    have q2:(pC c1 b).2=(nK c2.ns b,nK c2.ns b+_):=q2;rw[q2];exact⟨rfl,q1⟩
   obtain⟨qs,uI⟩:∃qs,qs=(List.range ((pC ⟨ns,vr,ps⟩ a).2.2-(pC ⟨ns,vr,ps⟩ a).2.1)).reverse.map λi=>((pC ⟨ns,vr,ps⟩ a).2.1+i,(pC c1 b).2.1+i):=⟨_,rfl⟩
   have lK:a6B ⟨ns,vr,ps⟩ a b=⟨c2.ns,c2.vr,ps++qs⟩:=by unfold a6B;rw[<-gP,<-gV,<-uI,qO]
   have hqm:∀q,q∈qs↔∃i,i<(nT ns a).l.length/\q=((pC ⟨ns,vr,ps⟩ a).2.1+i,(pC c1 b).2.1+i):=λq=>by
    rw[uI,mem_map,qa.1];constructor
    ·rintro⟨i,hi,e⟩;exact⟨i,mem_range.1 (List.mem_reverse.1 hi),e.symm⟩
    ·rintro⟨i,hi,e⟩;exact⟨i,List.mem_reverse.2 (mem_range.2 hi),e.symm⟩
   have wM:a<c2.ns.length:=by omega
   have gL:b<c2.ns.length:=by omega
   have hu:=Cls.union (show Cls c2.ns.length (nT c2.ns) (nK c2.ns) (nU c2.ns) H2 r2 c2.vr (ps++[(x,y)]) E from k1) wM gL (by rw[uH a ha];exact pM) (by rw[uH b hb];exact pN) oO (by rw[uH x fB.1,uH y fB.2];exact lJ) (by rw[ta,tb];exact kV) (qs:=qs)
    (λ_=>by rw[ta,tb];refine⟨lU.symm,cZ.symm,λhz=>⟨(qa.2 hz).2,(qb (by rw[<-cZ];exact hz)).2⟩,λi hi=>?_⟩;rw[hqm];refine⟨i,hi,?_⟩;rw[(qa.2 (by omega)).1,(qb (by omega)).1])
    (λq hq=>by obtain⟨i,hi,e⟩:=(hqm q).1 hq;rw[ta];refine⟨hf,i,hi,?_⟩;rw[e,(qa.2 (by omega)).1,(qb (by omega)).1])
   rw[lK];refine⟨λm=>if H2 m=a then b else H2 m,λm=>if H2 m=a then r2 m+r2 b+1 else r2 m,?_,?_⟩
   ·unfold ClsC;show Cls (setUp _ _ _).length (nT (setUp _ _ _)) (nK (setUp _ _ _)) (nU (setUp _ _ _)) _ _ _ _ _;rw[G9];exact hu.congr (λm _=>S6 wM) (λm _=>T2 wM) (λm _=>a1E wM) λm _=>rfl
   ·have w1:=wH c2.ns H2 (show Cls c2.ns.length (nT c2.ns) (nK c2.ns) (nU c2.ns) H2 r2 c2.vr (ps++[(x,y)]) E from k1).hd wM gL (by rw[uH a ha];exact pM) (by rw[uH b hb];exact pN);have w2:=a7L ⟨ns,vr,ps⟩ (n:=a) ha (H:=H) (H':=H1) pM dM;rw[<-gP]at w2;have w3:=a7L c1 (n:=b) (by omega) (H:=H1) (H':=H2) (by rw[dM b hb];exact pN) bY;rw[<-gV]at w3;have w4:qs.length=(nT ns a).l.length:=by rw[uI,length_map,List.length_reverse,List.length_range,qa.1]
    have w5:(nT ns a).l.length<=wgt c2.ns a:=by
     by_cases hz:(nT ns a).l.length=0
     ·omega
     ·unfold wgt;rw[if_pos (qa.2 hz).2,ta];exact Nat.le_refl _
    show(ps++qs).length+j8 (hw (setUp c2.ns a b) _) (setUp c2.ns a b).length<(ps++[(x,y)]).length+j8 (hw ns H) ns.length;rw[G9,length_append,length_append,length_singleton];have w2:j8 (hw c1.ns H1) c1.ns.length<=j8 (hw ns H) ns.length:=w2;omega
theorem b7Y{ns ns':List Nd}{vr ps}{H:Nat->Nat}(hl:ns'.length=ns.length)(ht:∀m,nT ns' m=nT ns m)(hk:∀m,nK ns' m=nK ns m):mea ⟨ns',vr,ps⟩ H=mea ⟨ns,vr,ps⟩ H:=by
 unfold mea;rw[show(Cl.mk ns' vr ps).ns.length=ns.length from hl];show ps.length+_=ps.length+_;congr 1;exact r9 λm _=>a1Y (ht m) (hk m) rfl
theorem a5a{ns vr ps x y}{H r:Nat->Nat}{E}(h:ClsC ⟨ns,vr,ps++[(x,y)]⟩ H r E):∃k q,E7 k ⟨ns,vr,ps⟩ x y=some q/\c5q ⟨ns,vr,ps⟩ (mea ⟨ns,vr,ps++[(x,y)]⟩ H) E q:=by
 have lJ:=h.pss (x,y) (by simp);have hx:x<ns.length:=lJ.1;have hy:y<ns.length:=lJ.2;obtain⟨ns1,e1,g1,l1,t1,k1,_⟩:=ClsC.head (r x+r y+1) h hx (by omega);obtain⟨ns2,e2,g2,l2,t2,k2,_⟩:=ClsC.head (r x+r y+1) g1 (n:=y) (by omega) (by omega);have hm:mea ⟨ns2,vr,ps++[(x,y)]⟩ H=mea ⟨ns,vr,ps++[(x,y)]⟩ H:=b7Y (by omega) (λm=>by rw[t2,t1]) λm=>by rw[k2,k1]
 have yU:=g2.hd x (by show x<ns2.length;omega);have yV:=g2.hd y (by show y<ns2.length;omega);refine⟨r x+r y+1,?_⟩;unfold E7;rw[show o8 (r x+r y+1) (Cl.mk ns vr ps).ns x=some (ns1,H x)from e1];simp only;rw[e2];simp only;rw[<-hm];by_cases e:H x=H y
 ·rw[if_pos e];refine⟨_,rfl,λe=>(by cases e),λ_=>⟨H,r,Cls.drop g2 e,?_⟩⟩;show ps.length+_<(ps++[(x,y)]).length+_;rw[length_append,length_singleton];show _+j8 (hw ns2 H) ns2.length<_+j8 (hw ns2 H) ns2.length;omega
 ·rw[if_neg e];split
  ·rename_i hf;exact⟨_,rfl,a3c g2 yV.1 yU.1 yV.2 yU.2 (Ne.symm e) (.inr ⟨rfl,rfl⟩) (Int.le_of_lt hf)⟩
  ·rename_i hf;exact⟨_,rfl,a3c g2 yU.1 yV.1 yU.2 yV.2 e (.inl ⟨rfl,rfl⟩) (by omega)⟩
def P9:Nat->Cl->Option (Cl×Bool)
 | 0,_=>none
 | k+1,c=>match c.ps.getLast? with
  | none=>some (c,true)
  | some p=>match E7 k ⟨c.ns,c.vr,c.ps.dropLast⟩ p.1 p.2 with
   | none=>none
   | some q=>if q.2=true then P9 k q.1 else some q
theorem a7g:∀(k:Nat) (c:Cl) (r),P9 k c=some r->P9 (k+1) c=some r
 | 0,_,_,e=>by cases e
 | k+1,c,r,e=>by
  rw[P9]at e |-;cases h1:c.ps.getLast? with
  | none=>rw[h1]at e;exact e
  | some p =>
   rw[h1]at e;simp only at e |-;cases h2:E7 k ⟨c.ns,c.vr,c.ps.dropLast⟩ p.1 p.2 with
   | none=>rw[h2]at e;cases e
   | some q =>
    rw[h2]at e;rw[a1D (Nat.le_succ k) h2];simp only at e |-;split
    ·rename_i h3;rw[if_pos h3]at e;exact a7g k _ _ e
    ·rename_i h3;rw[if_neg h3]at e;exact e
theorem a8h{k m:Nat}(h:k<=m){c:Cl}{r}(e:P9 k c=some r):P9 m c=some r:=by
 induction h with
 | refl=>exact e
 | step _ ih=>exact a7g _ _ _ ih
def c5o(E:List (Tm×Tm))(q:Cl×Bool):Prop:=(q.2=false->∀ τ,¬ uni τ E)/\(q.2=true->q.1.ps=[]/\∃H' r',ClsC q.1 H' r' E)
theorem b6x:∀(M:Nat) (c:Cl) {H r:Nat->Nat} {E},mea c H=M->ClsC c H r E->∃k q,P9 k c=some q/\c5o E q:=by
 intro M
 induction M using Nat.strongRecOn with
 | ind M ih =>
  intro c H r E hM h;cases hp:c.ps.getLast? with
  | none =>
   refine⟨1,(c,true),by rw[P9,hp],λe=>(by cases e),λ_=>⟨?_,H,r,h⟩⟩;exact List.getLast?_eq_none_iff.1 hp
  | some p =>
   have gR:c.ps=c.ps.dropLast++[p]:=by
    have kF:c.ps≠[]:=λe=>by rw[e]at hp;cases hp
    have h8:c.ps.getLast kF=p:=by have:=List.getLast?_eq_some_getLast kF;rw[hp]at this;exact(Option.some.inj this).symm
    rw[<-h8,List.dropLast_concat_getLast kF]
   have hc:c=⟨c.ns,c.vr,c.ps.dropLast++[(p.1,p.2)]⟩:=by conv=>lhs;rw[show c=⟨c.ns,c.vr,c.ps⟩from rfl,gR]
   rw[hc]at h;obtain⟨k,q,e1,l1,l2⟩:=a5a h;cases hq:q.2 with
   | false =>
    refine⟨k+1,q,?_,λ_=>l1 hq,λe=>by rw[hq]at e;cases e⟩;rw[P9,hp];simp only;rw[e1];simp only;rw[hq,if_neg (by simp)]
   | true =>
    obtain⟨H',r',g1,g2⟩:=l2 hq;rw[<-hc]at g2;obtain⟨k2,q2,e2,g3⟩:=ih (mea q.1 H') (by omega) q.1 rfl g1;refine⟨max k k2+1,q2,?_,g3⟩;rw[P9,hp];simp only;rw[a1D (Nat.le_max_left k k2) e1];simp only;rw[hq,if_pos rfl];exact a8h (Nat.le_max_right k k2) e2
def openC(c:Cl)(p:Tm×Tm):Cl:=⟨(r7 (r7 c p.1) p.2).ns,(r7 (r7 c p.1) p.2).vr,(r7 (r7 c p.1) p.2).ps++[(c.ns.length,c.ns.length+1)]⟩
def s9(k:Nat):List (Tm×Tm)->Cl->Option (Cl×Bool)
 | [],c=>some (c,true)
 | p::l,c=>match P9 k (openC c p)with
  | none=>none
  | some q=>if q.2=true then s9 k l q.1 else some q
theorem P7{k m:Nat}(h:k<=m):∀{l:List (Tm×Tm)} {c:Cl} {r},s9 k l c=some r->s9 m l c=some r
 | [],c,r,e=>e
 | p::l,c,r,e=>by
  rw[s9]at e |-;cases h2:P9 k (openC c p)with
  | none=>rw[h2]at e;cases e
  | some q =>
   rw[h2]at e;rw[a8h h h2];simp only at e |-;split
   ·rename_i h3;rw[if_pos h3]at e;exact P7 h e
   ·rename_i h3;rw[if_neg h3]at e;exact e
theorem ClsC.openC{c:Cl}{H r:Nat->Nat}{E}(h:ClsC c H r E)(p:Tm×Tm):∃H' r',ClsC (openC c p) H' r' (E++[p]):=by
 obtain⟨H1,r1,g1,_⟩:=h.add p.1;obtain⟨H2,r2,g2,_⟩:=g1.add p.2;have l1:=A3 c p.1;have l2:=A3 (r7 c p.1) p.2;have h3:=Cls.push g2 (n:=c.ns.length) (m:=c.ns.length+1) (by omega) (by omega);have t1:nT (r7 (r7 c p.1) p.2).ns c.ns.length=p.1:=by unfold nT;rw[a2a _ _ (by omega)];unfold r7;rw[I9]
 have t2:nT (r7 (r7 c p.1) p.2).ns (c.ns.length+1)=p.2:=by unfold nT;rw[<-l1];show(List.getD ((r7 c p.1).ns++[_]) _ _).t=_;rw[I9]
 rw[t1,t2]at h3;exact⟨H2,r2,h3⟩
theorem a0E:∀(l:List (Tm×Tm)) (c:Cl) {H r:Nat->Nat} {E},c.ps=[]->ClsC c H r E->∃k q,s9 k l c=some q/\c5o (E++l) q
 | [],c,H,r,E,hp,h=>⟨0,(c,true),rfl,λe=>(by cases e),λ_=>⟨hp,H,r,by rw[append_nil];exact h⟩⟩
 | p::l,c,H,r,E,hp,h=>by
  obtain⟨H1,r1,g1⟩:=h.openC p;obtain⟨k1,q1,e1,t1,t2⟩:=b6x _ _ rfl g1;have e3:E++[p]++l=E++p::l:=by rw[append_assoc];rfl
  cases hq:q1.2 with
  | false =>
   refine⟨k1,q1,?_,λ_ τ ht=>?_,λe=>by rw[hq]at e;cases e⟩
   ·rw[s9,e1];simp only;rw[hq,if_neg (by simp)]
   ·rw[<-e3,C5]at ht;exact t1 hq τ ht.1
  | true =>
   obtain⟨h2,H2,r2,g2⟩:=t2 hq;obtain⟨k2,q2,e2,g3⟩:=a0E l q1.1 h2 g2;refine⟨max k1 k2,q2,?_,by rw[<-e3];exact g3⟩;rw[s9,a8h (Nat.le_max_left k1 k2) e1];simp only;rw[hq,if_pos rfl];exact P7 (Nat.le_max_right k1 k2) e2
theorem K5{l:List Nat}{f g:Nat->Nat}(h:∀s∈l,f s=g s):(l.map f).sum=(l.map g).sum:=by
 rw[map_congr_left h]
theorem a4l{f:Nat->Nat}:∀{N:Nat},(∀n,n<N->f n=0)->j8 f N=0
 | 0,_=>rfl
 | N+1,h=>by rw[j8,a4l λn hn=>h n (by omega),h N (by omega)]
theorem C8{N:Nat}:∀(L:List Nat) (f:Nat->Nat),L.Nodup->(∀g∈L,g<N)->(L.map f).sum<=j8 f N/\((∀g,g<N->g∉L->f g=0)->j8 f N=(L.map f).sum)
 | [],f,_,_=>⟨Nat.zero_le _,λh=>a4l λn hn=>h n hn (by simp)⟩
 | a::L,f,hn,hb=>by
  obtain⟨h1,h2⟩:=List.nodup_cons.1 hn;have ha:=hb a (by simp);have e1:=M8 (f:=f) (x:=0) ha;obtain⟨i1,i2⟩:=C8 L (upd f a 0) h2 λg hg=>hb g (List.mem_cons_of_mem _ hg);have e2:(L.map (upd f a 0)).sum=(L.map f).sum:=K5 λs hs=>q5 λe=>h1 (e▸hs);rw[map_cons,sum_cons];refine⟨by omega,λhz=>?_⟩;have:=i2 λg hg hgL=>by
   by_cases e:g=a
   ·rw[e,j9]
   ·rw[q5 e];exact hz g hg λhm=>(mem_cons.1 hm).elim e hgL
  omega
theorem a1X(eg:Nat->List Nat)(h:Nat):∀L:List Nat,(L.flatMap eg).count h=(L.map λg=>(eg g).count h).sum
 | []=>rfl
 | a::L=>by rw[List.flatMap_cons,count_append,map_cons,sum_cons,a1X eg h L]
section
variable(N:Nat)(hp:Nat->Bool)(eg:Nat->List Nat)
def a8Z(h g:Nat):Nat:=if hp g then(eg g).count h else 0
def deg(h:Nat):Nat:=j8 (a8Z hp eg h) N
structure KI(k:Nat)(pre:List Nat)(u:Nat->Int)(o:List Nat):Prop where
 cnt:∀h,u h+(((o.take k).flatMap eg++pre).count h:Nat)=(deg N hp eg h:Int)
 nd:o.Nodup
 hd:∀h∈o,h<N/\hp h=true
 zero:∀h,h<N->hp h=true->(h∈o↔u h=0)
 ord:∀p g,p<k->o[p]?=some g->∀h∈eg g,∀q,o[q]?=some h->p<q
 orp:∀h∈pre,∀q,o[q]?=some h->k<q
variable{N hp eg}
theorem KI.start{o:List Nat}(hn:o.Nodup)(ho:∀h,h∈o↔(h<N/\hp h=true/\deg N hp eg h=0)):KI N hp eg 0 [] (λh=>(deg N hp eg h:Int)) o:=by
 refine⟨λh=>by simp,hn,λh hh=>⟨((ho h).1 hh).1,((ho h).1 hh).2.1⟩,λh h1 h2=>?_,λp g h=>by omega,λh hh=>by cases hh⟩;rw[ho h];constructor
 ·rintro⟨_,_,e⟩;simp only[e];rfl
 ·intro e;exact⟨h1,h2,by omega⟩
theorem a3F{o:List Nat}{k g:Nat}(h:o[k]?=some g):k<o.length:=by
 rcases Nat.lt_or_ge k o.length with h1 | h1
 ·exact h1
 ·rw[getElem?_eq_none h1]at h;cases h
theorem a4H{o:List Nat}{k g:Nat}(h:o[k]?=some g):o.take (k+1)=o.take k++[g]:=by
 rw[List.take_add_one,h];rfl
theorem KI.pos{k:Nat}{pre:List Nat}{u:Nat->Int}{o:List Nat}(h:KI N hp eg k pre u o){g x:Nat}{post:List Nat}(hk:o[k]?=some g)(he:eg g=pre++x::post):0<u x:=by
 have hN:(o.take (k+1)).Nodup:=h.nd.sublist (List.take_sublist _ _);have h1:=(C8 (N:=N) (o.take (k+1)) (a8Z hp eg x) hN λg hg=>(h.hd g (List.mem_of_mem_take hg)).1).1;have h2:((o.take (k+1)).map (a8Z hp eg x)).sum=((o.take (k+1)).flatMap eg).count x:=by rw[a1X];exact K5 λs hs=>if_pos (h.hd s (List.mem_of_mem_take hs)).2
 rw[h2,a4H hk,List.flatMap_append,count_append]at h1;have h3:([g].flatMap eg).count x=pre.count x+(1+post.count x):=by rw[List.flatMap_cons,List.flatMap_nil,append_nil,he,count_append,List.count_cons];simp only[BEq.rfl,if_true];omega
 have h4:=h.cnt x;rw[count_append]at h4;have h5:deg N hp eg x=j8 (a8Z hp eg x) N:=rfl;omega
theorem KI.step{k:Nat}{pre:List Nat}{u:Nat->Int}{o:List Nat}(h:KI N hp eg k pre u o){g x:Nat}{post:List Nat}(hk:o[k]?=some g)(he:eg g=pre++x::post)(hx:x<N/\hp x=true):KI N hp eg k (pre++[x]) (upd u x (u x-1)) (if u x-1=0 then o++[x]else o):=by
 have hp0:=h.pos hk he;have iV:x∉o:=λhm=>by have:=(h.zero x hx.1 hx.2).1 hm;omega
 have kE:=a3F hk;have cnt:∀o':List Nat,o'.take k=o.take k->∀y,upd u x (u x-1) y+(((o'.take k).flatMap eg++(pre++[x])).count y:Nat)=(deg N hp eg y:Int):=λo' ho y=>by
  have:=h.cnt y;rw[ho,<-append_assoc,count_append];by_cases e:y=x
  ·subst e;rw[j9];have:[y].count y=1:=by simp
   omega
  ·rw[q5 e];have:[x].count y=0:=by rw[List.count_eq_zero];simpa using e
   omega
 split
 ·rename_i hz;have gx:∀{q y},(o++[x])[q]?=some y->o[q]?=some y\/(q=o.length/\y=x):=fun{q y} e=>by
   rcases Nat.lt_or_ge q o.length with h1 | h1
   ·rw[List.getElem?_append_left h1]at e;exact .inl e
   ·rw[List.getElem?_append_right h1]at e;have h2:q-o.length<[x].length:=a3F e;simp only[length_singleton]at h2;rw[show q-o.length=0 by omega]at e;exact .inr ⟨by omega,(Option.some.inj e).symm⟩
  refine⟨cnt (o++[x]) (List.take_append_of_le_length (by omega)),?_,λy hy=>?_,λy h1 h2=>?_,λp g' lH hg y hy q hq=>?_,λy hy q hq=>?_⟩
  ·rw[List.nodup_append];exact⟨h.nd,by simp,λa ha b hb=>by rw[mem_singleton]at hb;rw[hb];exact λe=>iV (e▸ha)⟩
  ·rcases mem_append.1 hy with hy | hy
   ·exact h.hd y hy
   ·rw[mem_singleton]at hy;rw[hy];exact hx
  ·by_cases e:y=x
   ·subst e;rw[j9];exact⟨λ_=>hz,λ_=>by simp⟩
   ·rw[q5 e,<-h.zero y h1 h2];simp[e]
  ·have dI:o[p]?=some g':=by rw[List.getElem?_append_left (by omega)]at hg;exact hg
   rcases gx hq with hq | ⟨hq,_⟩
   ·exact h.ord p g' lH dI y hy q hq
   ·omega
  ·rcases gx hq with hq' | ⟨hq',_⟩
   ·rcases mem_append.1 hy with hy | hy
    ·exact h.orp y hy q hq'
    ·rw[mem_singleton]at hy;exact absurd (mem_of_getElem? hq') (by rw[hy];exact iV)
   ·omega
 ·rename_i hz;refine⟨cnt o rfl,h.nd,h.hd,λy h1 h2=>?_,h.ord,λy hy q hq=>?_⟩
  ·by_cases e:y=x
   ·subst e;rw[j9];exact⟨λhm=>absurd hm iV,λe=>absurd e hz⟩
   ·rw[q5 e];exact h.zero y h1 h2
  ·rcases mem_append.1 hy with hy | hy
   ·exact h.orp y hy q hq
   ·rw[mem_singleton]at hy;exact absurd (mem_of_getElem? hq) (by rw[hy];exact iV)
theorem KI.next{k:Nat}{pre:List Nat}{u:Nat->Int}{o:List Nat}(h:KI N hp eg k pre u o){g:Nat}(hk:o[k]?=some g)(he:eg g=pre):KI N hp eg (k+1) [] u o:=by
 refine⟨λx=>?_,h.nd,h.hd,h.zero,λp g' lH hg y hy q hq=>?_,λy hy=>by cases hy⟩
 ·rw[a4H hk,List.flatMap_append,append_nil,List.flatMap_cons,List.flatMap_nil,append_nil,he];exact h.cnt x
 ·rcases Nat.lt_or_ge p k with h1 | h1
  ·exact h.ord p g' h1 hg y hy q hq
  ·have:p=k:=by omega
   subst this;rw[hk]at hg;cases hg;rw[he]at hy;exact h.orp y hy q hq
theorem KI.over{u:Nat->Int}{o:List Nat}(h:KI N hp eg o.length [] u o){x:Nat}(hx:x<N)(yW:hp x=true)(iV:x∉o):∃g,g<N/\hp g=true/\g∉o/\x∈eg g:=by
 apply Classical.byContradiction;intro kZ;have h1:=(C8 (N:=N) o (a8Z hp eg x) h.nd λg hg=>(h.hd g hg).1).2 λg hg mH=>by
  unfold a8Z;split
  ·rename_i hpg;exact List.count_eq_zero.2 λhm=>kZ ⟨g,hg,hpg,mH,hm⟩
  ·rfl
 have h2:(o.map (a8Z hp eg x)).sum=(o.flatMap eg).count x:=by rw[a1X];exact K5 λs hs=>if_pos (h.hd s hs).2
 have h3:=h.cnt x;rw[take_length,append_nil]at h3;have h5:deg N hp eg x=j8 (a8Z hp eg x) N:=rfl;exact iV ((h.zero x hx yW).2 (by omega))
theorem KI.rank{u:Nat->Int}{o:List Nat}(h:KI N hp eg o.length [] u o)(ha:∀x,x<N->hp x=true->x∈o):∃ ρ:Nat->Nat,∀g,g<N->hp g=true->∀x∈eg g,x<N->hp x=true->ρ x<ρ g:=by
 refine⟨λx=>o.length-o.idxOf x,λg hg hpg x hx hxN yW=>?_⟩;have i1:=List.idxOf_lt_length_of_mem (ha g hg hpg);have i2:=List.idxOf_lt_length_of_mem (ha x hxN yW);have e1:o[o.idxOf g]?=some g:=by rw[getElem?_eq_getElem i1,List.getElem_idxOf]
 have e2:o[o.idxOf x]?=some x:=by rw[getElem?_eq_getElem i2,List.getElem_idxOf]
 have:=h.ord _ g i1 e1 x hx _ e2;show o.length-_<o.length-_;omega
end
theorem a5s{ns:List Nd}{n:Nat}(h:ns.length<=n):ns.getD n ndD=ndD:=by
 rw[getD_eq_getElem?_getD,getElem?_eq_none h];rfl
theorem b9l{ns:List Nd}{n h:Nat}{x:Nd}(hx:x.us=nS ns n):nS (ns.set n x) h=nS ns h:=by
 rcases Nat.lt_or_ge n ns.length with h1 | h1
 ·unfold nS;rw[a0p h1];split
  ·rename_i e;rw[e];exact hx
  ·rfl
 ·rw[List.set_eq_of_length_le h1]
theorem b9O{ns:List Nd}{n k h:Nat}:nS (setUp ns n k) h=nS ns h:=b9l rfl
theorem c4y{ns:List Nd}{n k h:Nat}:nS (setFi ns n k) h=nS ns h:=b9l rfl
theorem b3l(c:Cl)(t:Tm)(h:Nat):nS (r7 c t).ns h=nS c.ns h:=by
 unfold nS r7;rcases Nat.lt_or_ge h c.ns.length with h1 | h1
 ·rw[a4t h1]
 ·rw[a5s h1];rcases Nat.lt_or_ge h (c.ns.length+1)with h2 | h2
  ·rw[show h=c.ns.length by omega,I9];rfl
  ·rw[a5s (by rw[length_append,length_singleton];exact h2)]
theorem b6b(l:List Tm):∀(c:Cl) (h:Nat),nS (addAll c l).ns h=nS c.ns h:=by
 induction l with
 | nil=>exact λc h=>rfl
 | cons t l ih=>intro c h;rw[show addAll c (t::l)=addAll (r7 c t) l from rfl,ih,b3l]
theorem a5O(c:Cl)(n h:Nat):nS (pC c n).1.ns h=nS c.ns h:=by
 unfold pC;split
 ·rfl
 ·split
  ·show nS (addAll _ _).ns h=_;rw[b6b];exact c4y
  ·rfl
theorem a8E:∀(k:Nat) {ns:List Nd} {n:Nat} {q},o8 k ns n=some q->∀h,nS q.1 h=nS ns h
 | 0,_,_,_,e,_=>by cases e
 | k+1,ns,n,q,e,h=>by
  rw[o8]at e;split at e
  ·cases e;rfl
  ·rw[a8E k e h,b9O]
theorem a6T(c:Cl)(a b h:Nat):nS (joinTo c a b).1.ns h=nS c.ns h:=by
 unfold joinTo;split
 ·exact b9O
 ·split
  ·rfl
  ·show nS (setUp _ _ _) h=_;rw[b9O];show nS (pC (pC c a).1 b).1.ns h=_;rw[a5O,a5O]
theorem b4F{k:Nat}{c:Cl}{x y:Nat}{q}(e:E7 k c x y=some q)(h:Nat):nS q.1.ns h=nS c.ns h:=by
 unfold E7 at e;cases h1:o8 k c.ns x with
 | none=>rw[h1]at e;cases e
 | some q1 =>
  rw[h1]at e;simp only at e;cases h2:o8 k q1.1 y with
  | none=>rw[h2]at e;cases e
  | some q2 =>
   rw[h2]at e;simp only at e;have h3:nS q2.1 h=nS c.ns h:=by rw[a8E k h2,a8E k h1]
   split at e
   ·cases e;exact h3
   ·split at e
    ·cases e;rw[a6T];exact h3
    ·cases e;rw[a6T];exact h3
theorem b9o:∀(k:Nat) {c:Cl} {q},P9 k c=some q->∀h,nS q.1.ns h=nS c.ns h
 | 0,_,_,e,_=>by cases e
 | k+1,c,q,e,h=>by
  rw[P9]at e;cases h1:c.ps.getLast? with
  | none=>rw[h1]at e;cases e;rfl
  | some p =>
   rw[h1]at e;simp only at e;cases h2:E7 k ⟨c.ns,c.vr,c.ps.dropLast⟩ p.1 p.2 with
   | none=>rw[h2]at e;cases e
   | some q1 =>
    rw[h2]at e;simp only at e;split at e
    ·rw[b9o k e h,b4F h2]
    ·cases e;rw[b4F h2]
theorem b3k:∀{k:Nat} {l:List (Tm×Tm)} {c:Cl} {q},s9 k l c=some q->∀h,nS q.1.ns h=nS c.ns h
 | k,[],c,q,e,h=>by cases e;rfl
 | k,p::l,c,q,e,h=>by
  rw[s9]at e;cases h2:P9 k (openC c p)with
  | none=>rw[h2]at e;cases e
  | some q1 =>
   rw[h2]at e;simp only at e;have h3:nS q1.1.ns h=nS c.ns h:=by rw[b9o k h2];show nS (r7 (r7 c p.1) p.2).ns h=_;rw[b3l,b3l]
   split at e
   ·rw[b3k e h,h3]
   ·cases e;exact h3
def setUs(ns:List Nd)(n:Nat)(x:Int):List Nd:=ns.set n { ns.getD n ndD with us:=x }
theorem U3{ns:List Nd}{n m:Nat}{x:Int}(h:n<ns.length):(setUs ns n x).getD m ndD=if m=n then{ ns.getD n ndD with us:=x }else ns.getD m ndD:=a0p h
theorem R7{ns:List Nd}{n:Nat}{x:Int}:(setUs ns n x).length=ns.length:=length_set
theorem a1O{ns:List Nd}{n m:Nat}{x:Int}(h:n<ns.length):nT (setUs ns n x) m=nT ns m:=by
 unfold nT;rw[U3 h];split
 ·rename_i e;rw[e]
 ·rfl
theorem a1Q{ns:List Nd}{n m:Nat}{x:Int}(h:n<ns.length):nK (setUs ns n x) m=nK ns m:=by
 unfold nK;rw[U3 h];split
 ·rename_i e;rw[e]
 ·rfl
theorem b8d{ns:List Nd}{n m:Nat}{x:Int}(h:n<ns.length):nU (setUs ns n x) m=nU ns m:=by
 unfold nU;rw[U3 h];split
 ·rename_i e;rw[e]
 ·rfl
theorem b0P{ns:List Nd}{n m:Nat}{x:Int}(h:n<ns.length):nS (setUs ns n x) m=upd (nS ns) n x m:=by
 unfold nS upd;rw[U3 h];split<;>rfl
theorem ClsC.setUs{ns vr ps}{H r:Nat->Nat}{E}(h:ClsC ⟨ns,vr,ps⟩ H r E){n:Nat}(hn:n<ns.length)(x:Int):ClsC ⟨setUs ns n x,vr,ps⟩ H r E:=by
 unfold ClsC;show Cls (Go.Proofs.YteegmcfobgpemaaGreat.setUs _ _ _).length _ _ _ _ _ _ _ _;rw[R7];exact Cls.congr h (λm _=>a1O hn) (λm _=>a1Q hn) (λm _=>b8d hn) λm _=>rfl
def a4E(k:Nat):List Nat->List Nd->Option (List Nd)
 | [],ns=>some ns
 | p::l,ns=>match o8 k ns p with
  | none=>none
  | some q=>a4E k l (setUs q.1 q.2 (nS q.1 q.2+1))
theorem a7u{vr ps}{H r:Nat->Nat}{E}:∀(l:List Nat) {ns:List Nd},ClsC ⟨ns,vr,ps⟩ H r E->(∀p∈l,p<ns.length)->∃k0 ns',(∀k,k0<=k->a4E k l ns=some ns')/\ClsC ⟨ns',vr,ps⟩ H r E/\ns'.length=ns.length/\(∀m,nT ns' m=nT ns m)/\(∀m,nK ns' m=nK ns m)/\∀m,nS ns' m=nS ns m+((l.map H).count m:Nat)
 | [],ns,h,_=>⟨0,ns,λ_ _=>rfl,h,rfl,λ_=>rfl,λ_=>rfl,λm=>by simp⟩
 | p::l,ns,h,hl=>by
  have hp:=hl p (by simp);obtain⟨ns1,e1,g1,l1,t1,k1,s1⟩:=ClsC.head (r p+1) h hp (by omega);have hH:H p<ns1.length:=by rw[l1];exact(h.hd p hp).1
  obtain⟨k0,ns2,e2,g2,l2,t2,k2,s2⟩:=a7u l (g1.setUs hH (nS ns1 (H p)+1)) λq hq=>by rw[R7,l1];exact hl q (List.mem_cons_of_mem _ hq)
  refine⟨max (r p+1) k0,ns2,λk hk=>?_,g2,by rw[l2,R7,l1],λm=>by rw[t2,a1O hH,t1],λm=>by rw[k2,a1Q hH,k1],λm=>?_⟩
  ·rw[a4E,O7 (show r p+1<=k by omega) e1];exact e2 k (by omega)
  ·rw[s2,b0P hH,map_cons,List.count_cons];by_cases e:m=H p
   ·subst e;rw[j9,s1];simp only[BEq.rfl,if_true];omega
   ·rw[q5 e,s1];have:(H p == m)=false:=by simpa using Ne.symm e
    rw[this];simp
def egC(ns:List Nd)(H:Nat->Nat)(g:Nat):List Nat:=if(nT ns g).f<0 then[] else(List.range (nT ns g).l.length).map λi=>H (nK ns g+i)
def F0(k:Nat):Nat->Nat->Cl->List Nat->Option (Cl×List Nat)
 | 0,_,_,_=>none
 | j+1,n,c,hs=>if n<c.ns.length then(match o8 k c.ns n with
   | none=>none
   | some q=>if q.2≠n then F0 k j (n+1) ⟨q.1,c.vr,c.ps⟩ hs
    else match a4E k (List.range' (pC ⟨q.1,c.vr,c.ps⟩ n).2.1 ((pC ⟨q.1,c.vr,c.ps⟩ n).2.2-(pC ⟨q.1,c.vr,c.ps⟩ n).2.1)) (pC ⟨q.1,c.vr,c.ps⟩ n).1.ns with
     | none=>none
     | some ns=>F0 k j (n+1) ⟨ns,(pC ⟨q.1,c.vr,c.ps⟩ n).1.vr,(pC ⟨q.1,c.vr,c.ps⟩ n).1.ps⟩ (hs++[n]))
  else some (c,hs)
def gw(ns:List Nd)(n m:Nat):Nat:=if m<n then 0 else if nK ns m=0 then(nT ns m).size else 1
theorem a5d{f:Nat->Nat}:∀(l:List Tm) (N:Nat),(∀i t,l[i]?=some t->f (N+i)<=t.size)->j8 f (N+l.length)<=j8 f N+(l.map Tm.size).sum
 | [],N,_=>by simp
 | t::l,N,h=>by
  have h1:=h 0 t rfl;have h2:=a5d (f:=f) l (N+1) λi u hu=>by have:=h (i+1) u (by simpa using hu);rw[show N+1+i=N+(i+1) by omega];exact this
  rw[length_cons,show N+(l.length+1)=N+1+l.length by omega,map_cons,sum_cons];rw[j8]at h2;rw[Nat.add_zero]at h1;omega
theorem b3Y{ns:List Nd}{n:Nat}(hn:n<ns.length):j8 (gw ns (n+1)) ns.length+(if nK ns n=0 then(nT ns n).size else 1)=j8 (gw ns n) ns.length:=by
 have h1:j8 (gw ns (n+1)) ns.length=j8 (upd (gw ns n) n 0) ns.length:=r9 λm _=>by
  unfold gw;by_cases e:m=n
  ·subst e;rw[j9,if_pos (by omega)]
  ·rw[q5 e];by_cases e2:m<n
   ·rw[if_pos (by omega),if_pos e2]
   ·rw[if_neg (by omega),if_neg e2]
 have h2:=M8 (f:=gw ns n) (x:=0) hn;have h3:gw ns n n=if nK ns n=0 then(nT ns n).size else 1:=if_neg (by omega)
 rw[h1,<-h3];omega
theorem b7E(c:Cl){n:Nat}(hn:n<c.ns.length):j8 (gw (pC c n).1.ns (n+1)) (pC c n).1.ns.length<j8 (gw c.ns n) c.ns.length:=by
 have h0:=b3Y hn;have gO:1<=(if nK c.ns n=0 then(nT c.ns n).size else 1):=by
  split
  ·exact Tm.size_pos _
  ·exact Nat.le_refl _
 unfold pC;split
 ·show j8 (gw c.ns (n+1)) c.ns.length<_;omega
 ·rename_i hv;split
  ·rename_i hk;rw[L9 _ c hn];obtain⟨l,hl⟩:∃l,l=(nT c.ns n).l:=⟨_,rfl⟩
   rw[<-hl];have kD:=V5 l c;have gQ:n<(addAll c l).ns.length:=by omega
   show j8 (gw (setFi _ _ _) (n+1)) (setFi _ _ _).length<_;rw[R8,kD];have h1:=a5d (f:=gw (setFi (addAll c l).ns n c.ns.length) (n+1)) l c.ns.length λi t hi=>by
    have eO:i<l.length:=by
     rcases Nat.lt_or_ge i l.length with h1 | h1
     ·exact h1
     ·rw[getElem?_eq_none h1]at hi;cases hi
    obtain⟨a1,a2⟩:=a4e l c eO;unfold gw;rw[if_neg (by omega),I1 gQ,q5 (by omega),a2,if_pos rfl,O9 gQ];rw[hi]at a1;rw[<-Option.some.inj a1];exact Nat.le_refl _
   have h2:j8 (gw (setFi (addAll c l).ns n c.ns.length) (n+1)) c.ns.length=j8 (gw c.ns (n+1)) c.ns.length:=r9 λm hm=>by
    unfold gw;by_cases e:m<n+1
    ·rw[if_pos e,if_pos e]
    ·rw[if_neg e,if_neg e,I1 gQ,q5 (by omega),O9 gQ];unfold nK nT;rw[E8 l c hm]
   rw[hk,if_pos rfl]at h0;have h6:=Tm.size_sym (t:=nT c.ns n) (λe=>hv (.inl e));rw[<-hl]at h6;omega
  ·show j8 (gw c.ns (n+1)) c.ns.length<_;omega
end Go.Proofs.YteegmcfobgpemaaGreat
