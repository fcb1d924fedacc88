/-
 SmFns SmMath SmSym SmSym2 SmSym3 SmStab SmNorm UnPairs UnBig UnLaws
-/
import Derived.Test.YtglmoficcjphaaaGreatMg7
import Derived.Test.YtglmoficcjphaaaGreatMg4
import Derived.Test.YtglmoficcjphaaaGreatMg6
namespace Go.Proofs.YtglmoficcjphaaaGreat
open List (getElem?_eq_none getElem?_set length_map length_set mem_cons mem_cons_self mem_map)
open Go.RowKit
set_option linter.unusedVariables false
set_option linter.unusedSimpArgs false
set_option maxRecDepth 100000
def swG (n a b:Nat) (G:Nat->Option Bd) (t:Nat):Option Bd:=if a<=t/\t<a+n then G (t-a+b) else if b<=t/\t<b+n then G (t-b+a) else G t
def rtG (a m b:Nat) (G:Nat->Option Bd) (t:Nat):Option Bd:=if a<=t/\t<a+(b-m) then G (t-a+m) else if a+(b-m)<=t/\t<b then G (t-(b-m)) else G t
theorem b6n {n a b:Nat} (h:a+n<b) (G:Nat->Option Bd) (t:Nat):swG (n+1) a b G t=if t=a+n then G (b+n) else if t=b+n then G (a+n) else swG n a b G t:=by
 unfold swG;by_cases h1:t=a+n
 ·subst h1;rw [if_pos (by omega),if_pos rfl,show a+n-a+b=b+n by omega]
 ·rw [if_neg h1];by_cases h2:t=b+n
  ·subst h2;rw [if_neg (by omega),if_pos (by omega),if_pos rfl,show b+n-b+a=a+n by omega]
  ·rw [if_neg h2];by_cases h3:a<=t/\t<a+n
   ·rw [if_pos (by omega),if_pos h3]
   ·rw [if_neg (by omega),if_neg h3];by_cases h4:b<=t/\t<b+n
    ·rw [if_pos (by omega),if_pos h4]
    ·rw [if_neg (by omega),if_neg h4]
theorem b9c {i j m:Nat} (hi:i<=m) (hj:j<i) (G:Nat->Option Bd) (t:Nat):rtG (m-i+j) m (m+j) (swG j (m-i) m G) t=rtG (m-i) m (m+j) G t:=by
 unfold rtG swG;have e1:m+j-m=j:=by omega
 rw [e1];by_cases c1:m-i<=t/\t<m-i+j
 ·rw [if_neg (by omega),if_neg (by omega),if_pos c1,if_pos c1]
 ·by_cases c2:m-i+j<=t/\t<m-i+j+j
  ·rw [if_pos c2,if_neg (by omega),if_pos (by omega),if_neg c1];by_cases c3:m-i+j<=t/\t<m+j
   ·rw [if_pos c3];congr 1;omega
   ·omega
  ·rw [if_neg c2,if_neg c1];by_cases c3:m-i+j<=t/\t<m+j
   ·rw [if_pos c3,if_pos (by omega),if_neg (by omega),if_neg (by omega),if_neg c1]
   ·rw [if_neg c3,if_neg (by omega),if_neg c1,if_neg (by omega)]
theorem b4T {i j m:Nat} (hi:i<=m) (hj:i<j) (G:Nat->Option Bd) (t:Nat):rtG (m-i) m (m+(j-i)) (swG i (m-i) (m+j-i) G) t=rtG (m-i) m (m+j) G t:=by
 unfold rtG swG;have e1:m+j-m=j:=by omega
 have e2:m+(j-i)-m=j-i:=by omega
 rw [e1,e2];by_cases c1:m-i<=t/\t<m-i+(j-i)
 ·rw [if_pos c1,if_pos (show m-i<=t/\t<m-i+j by omega),if_neg (by omega),if_neg (by omega)]
 ·rw [if_neg c1];by_cases c2:m-i+(j-i)<=t/\t<m+(j-i)
  ·rw [if_pos c2,if_pos (show m-i<=t/\t<m-i+j by omega),if_pos (by omega)];congr 1;omega
  ·rw [if_neg c2];by_cases c3:m-i<=t/\t<m-i+j
   ·omega
   ·rw [if_neg c3];by_cases c4:m-i+j<=t/\t<m+j
    ·rw [if_pos c4,if_neg (by omega),if_pos (by omega)];congr 1;omega
    ·rw [if_neg c4,if_neg (by omega),if_neg (by omega)]
theorem b8X {i m:Nat} (hi:i<=m) (G:Nat->Option Bd) (t:Nat):swG i (m-i) m G t=rtG (m-i) m (m+i) G t:=by
 unfold rtG swG;rw [show m+i-m=i by omega];by_cases c1:m-i<=t/\t<m-i+i
 ·rw [if_pos c1,if_pos c1]
 ·rw [if_neg c1,if_neg c1];by_cases c2:m<=t/\t<m+i
  ·rw [if_pos c2,if_pos (by omega)];congr 1;omega
  ·rw [if_neg c2,if_neg (by omega)]
def IsG (L:List Bd) (n:Nat) (G:Nat->Option Bd):Prop:=L.length=n/\∀ t,L[t]?=G t
theorem K0 {L:List Bd} {t:Nat} (h:t<L.length):∃ x,L[t]?=some x:=⟨L[t],List.getElem?_eq_getElem h⟩
noncomputable abbrev rwB (L:List Bd):AS:=[(400000,.mrow 99 3 (L.map Bd.cv))]
set_option maxHeartbeats 2000000 in
theorem a2h (fc:CV) (L:List Bd) (a b n:Nat) (hab:a+n<=b) (hb:b+n<=L.length) (hl:L.length<=1000000):AFunE (Sg:=List Bd) Tryz.prog 162 (rwB L) [.sl 400000 0 L.length 3,.val (.i a),.val (.i b),.val (.i n),.val fc] (fun σ=>IsG σ L.length (swG n a b fun t=>L[t]?)) (fun _ => .tup []) (fun σ=>rwB σ):=by
 refine J0 Tryz.func162 Tryz.ntmps162 rfl rfl rfl rfl rfl (fun σ=>rfl) ?_;intro w U hU;refine aS (aR ?_);refine nc ze ?_;obtain ⟨st,hst⟩:∃ st:Nat->List Bd->AS,st=fun i M=>(0,AV.sl 400000 0 L.length 3)::(1,.val (.i a))::(2,.val (.i b))::(3,.val (.i n))::(10,.val (.i (i:Nat)))::rwB M:=⟨_,rfl⟩
 refine aB (n4 (fun k s=>∃ i M,i+k=n/\IsG M L.length (swG i a b fun t=>L[t]?)/\s=st i M) (n:=n) (s':=st 0 L) (by rw [hst];exact a7 ⟨rfl,rfl,rfl,rfl,rfl,rfl,trivial⟩) ⟨0,L,by omega,⟨rfl,fun t=>by unfold swG;rw [if_neg (by omega),if_neg (by omega)]⟩,rfl⟩ ?_);rintro k s ⟨i,M,hik,hM,rfl⟩;rw [hst];refine aS (aS (aR ?_));refine nc zl (nc zl (nc zi ?_));refine aC rfl (fun hc=>aK ?_) (fun hc=>aE ?_)
 ·have hin:i<n:=by
   have:(i:Int)<n:=by simpa using hc
   omega
  have hMl:=hM.1;obtain ⟨x,hx⟩:=K0 (L:=M) (t:=a+i) (by omega);obtain ⟨y,hy⟩:=K0 (L:=M) (t:=b+i) (by omega);have hx':=Bd.map_at hx;have hy':=Bd.map_at hy;have hlm:(M.map Bd.cv).length=M.length:=length_map ..;have hy2:((M.map Bd.cv).set (a+i) y.cw)[b+i]?=some y.cw:=by rw [List.getElem?_set_ne (by omega)];exact hy'
  refine aS (aB (aD (by kernel_rfl) (by kernel_rfl) ?_));refine nc zl (nc zl (nc zl (nc zu (nc zl (nc zl (nc zl (nc zu (nc zl (nc zl (nc zl (nc zu (nc (zM (k:=b+i)) (nc (zN (G:=hy')) (nc zl (nc zl (nc zl (nc zu (nc (zM (k:=a+i)) (nc (zN (G:=hx')) (nc (zM (k:=a+i)) (nc (zQ (F:=hx')) (nc (zM (k:=b+i)) (nc (zQ (F:=hy2)) ?_)))))))))))))))))))))));refine ⟨by kernel_rfl,?_⟩;refine aR ?_;refine nc zl (nc zu (nc ze ?_));refine ⟨k-1,st (i+1) ((M.set (a+i) y).set (b+i) x),by omega,⟨i+1,(M.set (a+i) y).set (b+i) x,by omega,⟨by rw [length_set,length_set];exact hMl,fun t=>?_⟩,by rw [hst]⟩,?_⟩
  ·have gx:=hM.2 (a+i);have gy:=hM.2 (b+i);rw [hx] at gx;rw [hy] at gy;rw [b6n (by omega)];have hLa:swG i a b (fun t=>L[t]?) (a+i)=L[a+i]?:=by unfold swG;rw [if_neg (by omega),if_neg (by omega)]
   have hLb:swG i a b (fun t=>L[t]?) (b+i)=L[b+i]?:=by unfold swG;rw [if_neg (by omega),if_neg (by omega)]
   rw [hLa] at gx;rw [hLb] at gy;rw [getElem?_set,getElem?_set];by_cases c1:t=a+i
   ·rw [if_pos c1,if_neg (by omega),if_pos c1.symm,if_pos (by omega),gy]
   ·rw [if_neg c1];by_cases c2:t=b+i
    ·rw [if_pos c2,if_pos c2.symm,if_pos (show b+i<(M.set (a+i) y).length by rw [length_set];omega),gx]
    ·rw [if_neg c2,if_neg (by omega),if_neg (by omega)];exact hM.2 t
  ·rw [hst];refine a7 ⟨rfl,rfl,rfl,rfl,rfl,?_,trivial⟩;rw [<-w8,<-w8];rfl
 ·have hin:i=n:=by
   have:¬ (i:Int)<n:=by simpa using hc
   omega
  subst hin;exact ⟨.inl rfl,M,hM,_,Wk.refl _,rfl,rfl,trivial⟩
set_option maxHeartbeats 2000000 in
theorem b0L (fc:CV) (L:List Bd) (a m b:Nat) (ham:a<m) (hmb:m<b) (hb:b<=L.length) (hl:L.length<=1000000):AFunE (Sg:=List Bd) Tryz.prog 161 (rwB L) [.sl 400000 0 L.length 3,.val (.i a),.val (.i m),.val (.i b),.val fc] (fun σ=>IsG σ L.length (rtG a m b fun t=>L[t]?)) (fun _ => .tup []) (fun σ=>rwB σ):=by
 refine J0 Tryz.func161 Tryz.ntmps161 rfl rfl rfl rfl rfl (fun σ=>rfl) ?_;intro w U hU;refine aS (aR ?_);refine nc zl (nc zl (nc zj (nc ze ?_)));refine aS (aR ?_);refine nc zl (nc zl (nc zj (nc ze ?_)));obtain ⟨N,hN⟩:∃ N,N=L.length:=⟨_,rfl⟩
 rw [<-hN] at hb hl |-;obtain ⟨st,hst⟩:∃ st:Nat->Nat->List Bd->AS,st=fun i j M=>(0,AV.sl 400000 0 N 3)::(2,.val (.i m))::(4,.val fc)::(10,.val (.i (i:Nat)))::(11,.val (.i (j:Nat)))::rwB M:=⟨_,rfl⟩
 refine aS (aB (n4 (fun k s=>∃ i j M,k=i+j/\0<i/\0<j/\i<=m/\m+j<=N/\M.length=N/\(∀ t,rtG (m-i) m (m+j) (fun t=>M[t]?) t=rtG a m b (fun t=>L[t]?) t)/\s=st i j M) (n:=(m-a)+(b-m)) (s':=st (m-a) (b-m) L) (by
  rw [hst];refine a7 ⟨?_,rfl,rfl,?_,?_,rfl,trivial⟩
  ·rw [hN];rfl
  ·show _=some (AV.val (.i (((m-a:Nat):Nat):Int)));rw [show ((m-a:Nat):Int)=(m:Int)-a by omega];rfl
  ·show _=some (AV.val (.i (((b-m:Nat):Nat):Int)));rw [show ((b-m:Nat):Int)=(b:Int)-m by omega];rfl) ⟨m-a,b-m,L,rfl,by omega,by omega,by omega,by omega,hN.symm,fun t=>by rw [show m-(m-a)=a by omega,show m+(b-m)=b by omega],rfl⟩ ?_))
 rintro k s ⟨i,j,M,rfl,hi,hj,him,hjN,hMl,hrt,rfl⟩;rw [hst];refine aS (aS (aR ?_));refine nc zl (nc zl (nc zba ?_));by_cases hij:i=j
 ·subst hij;refine aC rfl (fun hc=>by simp at hc) (fun _=>aE ?_);have hsw:=a2h fc M (m-i) m i (by omega) (by omega) (by omega);rw [hMl] at hsw;refine v7 7 rfl rfl rfl rfl rfl rfl hsw (by kernel_rfl) (fun σ=>by kernel_rfl) (fun σ=>by kernel_rfl) (fun σ=>rfl) (fun σ=>j5 (by kernel_rfl)) ?_;refine nc zl (nc zl (nc zl (nc zj (nc zl (nc zl (nc zl ?_))))));refine ⟨?_,⟨rfl,trivial⟩,fun σ hσ=>⟨by kernel_rfl,?_⟩⟩
  ·show some [AV.sl 400000 0 N 3,.val (.i ((m:Int)-(i:Nat))),.val (.i m),.val (.i (i:Nat)),.val fc]=_;rw [show ((m:Int)-(i:Nat))=((m-i:Nat):Int) by omega]
  ·refine ⟨.inl rfl,σ,⟨hσ.1,fun t=>?_⟩,_,Wk.refl _,rfl,rfl,trivial⟩;rw [hσ.2,b8X him];exact hrt t
 ·refine aC rfl (fun _=>aK ?_) (fun hc=>?_)
  case refine_2 =>
   have hc:=of_decide_eq_false hc;simp only [ne_eq,Decidable.not_not] at hc;omega
  refine aB (aS (aR ?_));refine nc zl (nc zl (nc zK ?_));rcases Nat.lt_or_ge j i with hji | hji
  ·refine aC rfl (fun _=>?_) (fun hc=>?_)
   case refine_2 =>
    have:¬ ((i:Nat):Int)>(j:Nat):=by simpa using hc
    omega
   have hsw:=a2h fc M (m-i) m j (by omega) (by omega) (by omega);rw [hMl] at hsw;refine aS (v7 7 rfl rfl rfl rfl rfl rfl hsw (by kernel_rfl) (fun σ=>by kernel_rfl) (fun σ=>by kernel_rfl) (fun σ=>rfl) (fun σ=>j5 (by kernel_rfl)) ?_);refine nc zl (nc zl (nc zl (nc zj (nc zl (nc zl (nc zl ?_))))));refine ⟨?_,⟨rfl,trivial⟩,fun σ hσ=>⟨by kernel_rfl,?_⟩⟩
   ·show some [AV.sl 400000 0 N 3,.val (.i ((m:Int)-(i:Nat))),.val (.i m),.val (.i (j:Nat)),.val fc]=_;rw [show ((m:Int)-(i:Nat))=((m-i:Nat):Int) by omega]
   refine aR ?_;refine nc zl (nc zl (nc zj (nc ze ?_)));refine ⟨(i-j)+j,st (i-j) j σ,by omega,⟨i-j,j,σ,rfl,by omega,hj,by omega,hjN,hσ.1,fun t=>?_,by rw [hst]⟩,?_⟩
   ·rw [<-hrt t,<-b9c him hji,show m-i+j=m-(i-j) by omega];congr 1;funext t;exact hσ.2 t
   ·rw [hst];refine a7 ⟨rfl,rfl,rfl,?_,rfl,rfl,trivial⟩;rw [show ((i-j:Nat):Int)=(i:Int)-j by omega];rfl
  ·refine aC rfl (fun hc=>?_) (fun _=>?_)
   ·exfalso;have:((i:Nat):Int)>(j:Nat):=by simpa using hc
    omega
   have hsw:=a2h fc M (m-i) (m+j-i) i (by omega) (by omega) (by omega);rw [hMl] at hsw;refine aS (v7 11 rfl rfl rfl rfl rfl rfl hsw (by kernel_rfl) (fun σ=>by kernel_rfl) (fun σ=>by kernel_rfl) (fun σ=>rfl) (fun σ=>j5 (by kernel_rfl)) ?_);refine nc zl (nc zl (nc zl (nc zj (nc zl (nc zl (nc zu (nc zl (nc zj (nc zl (nc zl ?_))))))))));refine ⟨?_,⟨rfl,trivial⟩,fun σ hσ=>⟨by kernel_rfl,?_⟩⟩
   ·show some [AV.sl 400000 0 N 3,.val (.i ((m:Int)-(i:Nat))),.val (.i ((m:Int)+(j:Nat)-(i:Nat))),.val (.i (i:Nat)),.val fc]=_;rw [show ((m:Int)-(i:Nat))=((m-i:Nat):Int) by omega,show ((m:Int)+(j:Nat)-(i:Nat))=((m+j-i:Nat):Int) by omega]
   refine aR ?_;refine nc zl (nc zl (nc zj (nc ze ?_)));refine ⟨i+(j-i),st i (j-i) σ,by omega,⟨i,j-i,σ,rfl,hi,by omega,him,by omega,hσ.1,fun t=>?_,by rw [hst]⟩,?_⟩
   ·have h:=b4T (i:=i) (j:=j) him (by omega) (fun t=>M[t]?) t;rw [<-hrt t,<-h];congr 1;funext t;exact hσ.2 t
   ·rw [hst];refine a7 ⟨rfl,rfl,rfl,rfl,?_,rfl,trivial⟩;rw [show ((j-i:Nat):Int)=(j:Int)-i by omega];rfl
def pc (L:List Bd) (a m:Nat):List Bd:=(L.drop a).take (m-a)
theorem Z9 {L:List Bd} {a m:Nat} (hm:m<=L.length):(pc L a m).length=m-a:=by unfold pc;rw [List.length_take,List.length_drop];omega
theorem a3d {L:List Bd} {a m t:Nat} (h:t<m-a):(pc L a m)[t]?=L[a+t]?:=by unfold pc;rw [List.getElem?_take,if_pos h,List.getElem?_drop]
theorem b2g {L:List Bd} (X Y Z W:List Bd) (t:Nat):(X++(Y++(Z++W)))[t]?=if t<X.length then X[t]? else if t<X.length+Y.length then Y[t-X.length]? else if t<X.length+Y.length+Z.length then Z[t-X.length-Y.length]? else W[t-X.length-Y.length-Z.length]?:=by
 rw [List.getElem?_append];by_cases h1:t<X.length
 ·rw [if_pos h1,if_pos h1]
 ·rw [if_neg h1,if_neg h1,List.getElem?_append];by_cases h2:t-X.length<Y.length
  ·rw [if_pos h2,if_pos (by omega)]
  ·rw [if_neg h2,if_neg (by omega),List.getElem?_append];by_cases h3:t-X.length-Y.length<Z.length
   ·rw [if_pos h3,if_pos (by omega)]
   ·rw [if_neg h3,if_neg (by omega)]
theorem b9M {L:List Bd} {a m b:Nat} (ham:a<=m) (hmb:m<=b) (hb:b<=L.length):pc L 0 a++(pc L a m++(pc L m b++pc L b L.length))=L:=by
 apply List.ext_getElem?;intro t;rw [b2g (L:=L),Z9 (by omega),Z9 (by omega),Z9 (by omega)];by_cases h1:t<a-0
 ·rw [if_pos h1,a3d (by omega)];congr 1;omega
 ·rw [if_neg h1];by_cases h2:t<a-0+(m-a)
  ·rw [if_pos h2,a3d (by omega)];congr 1;omega
  ·rw [if_neg h2];by_cases h3:t<a-0+(m-a)+(b-m)
   ·rw [if_pos h3,a3d (by omega)];congr 1;omega
   ·rw [if_neg h3];by_cases h4:t<L.length
    ·rw [a3d (by omega)];congr 1;omega
    ·rw [getElem?_eq_none (by rw [Z9 (Nat.le_refl _)];omega),getElem?_eq_none (by omega)]
theorem b8j {L σ:List Bd} {a m b:Nat} (ham:a<=m) (hmb:m<=b) (hb:b<=L.length) (h:IsG σ L.length (rtG a m b fun t=>L[t]?)):σ=pc L 0 a++(pc L m b++(pc L a m++pc L b L.length)):=by
 apply List.ext_getElem?;intro t;rw [h.2,b2g (L:=L),Z9 (by omega),Z9 (by omega),Z9 (by omega)];unfold rtG;by_cases h1:t<a-0
 ·rw [if_pos h1,a3d (by omega),if_neg (by omega),if_neg (by omega)];congr 1;omega
 ·rw [if_neg h1];by_cases h2:t<a-0+(b-m)
  ·rw [if_pos h2,a3d (by omega),if_pos (by omega)];congr 1;omega
  ·rw [if_neg h2];by_cases h3:t<a-0+(b-m)+(m-a)
   ·rw [if_pos h3,a3d (by omega),if_neg (by omega),if_pos (by omega)];congr 1;omega
   ·rw [if_neg h3,if_neg (by omega),if_neg (by omega)];by_cases h4:t<L.length
    ·rw [a3d (by omega)];congr 1;omega
    ·rw [getElem?_eq_none (l:=pc L b L.length) (by rw [Z9 (Nat.le_refl _)];omega)];exact getElem?_eq_none (by omega)
theorem b8U {L σ:List Bd} {a m b:Nat} (ham:a<=m) (hmb:m<=b) (hb:b<=L.length) (h:IsG σ L.length (rtG a m b fun t=>L[t]?)):σ.Perm L:=by
 rw [b8j ham hmb hb h]
 conv=>rhs;rw [<-b9M ham hmb hb]
 apply List.Perm.append_left;rw [<-List.append_assoc,<-List.append_assoc];exact List.Perm.append_right _ List.perm_append_comm
def srtB (L:List Bd) (a b:Nat):Prop:=∀ i j x y,a<=i->i<j->j<b->L[i]?=some x->L[j]?=some y->x.v<=y.v
structure Mg (a b:Nat) (L σ:List Bd):Prop where
 len:σ.length=L.length
 out:∀ t,t<a\/b<=t->σ[t]?=L[t]?
 ins:∀ t,a<=t->t<b->∃ t',a<=t'/\t'<b/\σ[t]?=L[t']?
 perm:σ.Perm L
theorem Mg.refl (a b:Nat) (L:List Bd):Mg a b L L:=⟨rfl,fun _ _=>rfl,fun t h h'=>⟨t,h,h',rfl⟩,List.Perm.refl _⟩
theorem Mg.trans {a b:Nat} {L M N:List Bd} (h:Mg a b L M) (h':Mg a b M N):Mg a b L N:=by
 refine ⟨h'.len.trans h.len,fun t ht=>(h'.out t ht).trans (h.out t ht),fun t h1 h2=>?_,h'.perm.trans h.perm⟩;obtain ⟨u,u1,u2,u3⟩:=h'.ins t h1 h2;obtain ⟨v,v1,v2,v3⟩:=h.ins u u1 u2;exact ⟨v,v1,v2,u3.trans v3⟩
theorem Mg.mono {a b c d:Nat} {L σ:List Bd} (h:Mg a b L σ) (hc:c<=a) (hd:b<=d):Mg c d L σ:=by
 refine ⟨h.len,fun t ht=>h.out t (by omega),fun t h1 h2=>?_,h.perm⟩;by_cases ht:a<=t/\t<b
 ·obtain ⟨u,u1,u2,u3⟩:=h.ins t ht.1 ht.2;exact ⟨u,by omega,by omega,u3⟩
 ·exact ⟨t,h1,h2,h.out t (by omega)⟩
theorem Mg.rt {L σ:List Bd} {a m b:Nat} (ham:a<=m) (hmb:m<=b) (hb:b<=L.length) (h:IsG σ L.length (rtG a m b fun t=>L[t]?)):Mg a b L σ:=by
 refine ⟨h.1,fun t ht=>?_,fun t h1 h2=>?_,b8U ham hmb hb h⟩
 ·rw [h.2];unfold rtG;rw [if_neg (by omega),if_neg (by omega)]
 ·by_cases c:t<a+(b-m)
  ·exact ⟨t-a+m,by omega,by omega,by rw [h.2];unfold rtG;rw [if_pos (by omega)]⟩
  ·exact ⟨t-(b-m),by omega,by omega,by rw [h.2];unfold rtG;rw [if_neg (by omega),if_pos (by omega)]⟩
theorem b0u {L:List Bd} {a m b:Nat} (ham:a<=m) (hmb:m<=b) (h:a=m\/m=b):IsG L L.length (rtG a m b fun t=>L[t]?):=by
 refine ⟨rfl,fun t=>?_⟩;unfold rtG;by_cases c1:a<=t/\t<a+(b-m)
 ·rw [if_pos c1];congr 1;omega
 ·rw [if_neg c1];by_cases c2:a+(b-m)<=t/\t<b
  ·rw [if_pos c2];congr 1;omega
  ·rw [if_neg c2]
theorem srtB.sub {L:List Bd} {a b c d:Nat} (h:srtB L a b) (hc:a<=c) (hd:d<=b):srtB L c d:=fun i j x y h1 h2 h3 h4 h5=>h i j x y (by omega) h2 (by omega) h4 h5
theorem srtB.same {L M:List Bd} {a b:Nat} (h:srtB L a b) (e:∀ t,a<=t->t<b->M[t]?=L[t]?):srtB M a b:=fun i j x y h1 h2 h3 h4 h5=>h i j x y h1 h2 h3 (by rw [<-e i (by omega) (by omega)];exact h4) (by rw [<-e j (by omega) (by omega)];exact h5)
theorem srtB.shift {L M:List Bd} {a b c d:Nat} (h:srtB L a b) (e:∀ t,c<=t->t<d->a<=t+a-c/\t+a-c<b/\M[t]?=L[t+a-c]?):srtB M c d:=fun i j x y h1 h2 h3 h4 h5=>by
 obtain ⟨i1,i2,i3⟩:=e i (by omega) (by omega);obtain ⟨j1,j2,j3⟩:=e j (by omega) (by omega);exact h (i+a-c) (j+a-c) x y i1 (by omega) j2 (by rw [<-i3];exact h4) (by rw [<-j3];exact h5)
def leB (L:List Bd) (a b c d:Nat):Prop:=∀ i j x y,a<=i->i<b->c<=j->j<d->L[i]?=some x->L[j]?=some y->x.v<=y.v
theorem srtB.glue {L:List Bd} {a m b:Nat} (h1:srtB L a m) (h2:srtB L m b) (h3:leB L a m m b):srtB L a b:=fun i j x y k1 k2 k3 k4 k5=>by
 by_cases c:j<m
 ·exact h1 i j x y k1 k2 c k4 k5
 ·by_cases d:m<=i
  ·exact h2 i j x y d k2 k3 k4 k5
  ·exact h3 i j x y k1 (by omega) (by omega) k3 k4 k5
theorem leB.mg {L σ:List Bd} {a m b:Nat} (h:leB L a m m b) (ham:a<=m) (hmb:m<=b) (hm:Mg a m L σ\/Mg m b L σ):leB σ a m m b:=fun i j x y k1 k2 k3 k4 k5 k6=>by
 rcases hm with hm | hm
 ·obtain ⟨u,u1,u2,u3⟩:=hm.ins i k1 k2;exact h u j x y u1 u2 k3 k4 (by rw [<-u3];exact k5) (by rw [<-hm.out j (by omega)];exact k6)
 ·obtain ⟨u,u1,u2,u3⟩:=hm.ins j k3 k4;exact h i u x y k1 k2 u1 u2 (by rw [<-hm.out i (by omega)];exact k5) (by rw [<-u3];exact k6)
theorem a0A {L σ:List Bd} {a m b s e mid:Nat} (has:a<=s) (hsm:s<=m) (hme:m<=e) (heb:e<=b) (hb:b<=L.length) (hse:s+(e-m)=mid) (h1:srtB L a m) (h2:srtB L m b) (hlo:leB L a s e b) (hhi:leB L m e s m) (h:IsG σ L.length (rtG s m e fun t=>L[t]?)) :
  srtB σ a s/\srtB σ s mid/\srtB σ mid e/\srtB σ e b/\leB σ a mid mid b:=by
 have ha:∀ t,t<s->σ[t]?=L[t]?:=fun t ht=>by rw [h.2];unfold rtG;rw [if_neg (by omega),if_neg (by omega)]
 have hs:∀ t,s<=t->t<mid->σ[t]?=L[t+m-s]?:=fun t ht ht'=>by rw [h.2];unfold rtG;rw [if_pos (by omega)];congr 1;omega
 have hm:∀ t,mid<=t->t<e->σ[t]?=L[t+s-mid]?:=fun t ht ht'=>by rw [h.2];unfold rtG;rw [if_neg (by omega),if_pos (by omega)];congr 1;omega
 have he:∀ t,e<=t->σ[t]?=L[t]?:=fun t ht=>by rw [h.2];unfold rtG;rw [if_neg (by omega),if_neg (by omega)]
 refine ⟨(h1.sub (Nat.le_refl _) hsm).same fun t _ ht=>ha t ht,(h2.sub (Nat.le_refl m) heb).shift fun t k1 k2=>⟨by omega,by omega,hs t k1 k2⟩,(h1.sub has (Nat.le_refl m)).shift fun t k1 k2=>⟨by omega,by omega,hm t k1 k2⟩,(h2.sub hme (Nat.le_refl b)).same fun t ht _=>he t ht,?_⟩;intro i j x y k1 k2 k3 k4 k5 k6;by_cases ci:i<s
 ·rw [ha i ci] at k5;by_cases cj:j<e
  ·rw [hm j k3 cj] at k6;exact h1 i (j+s-mid) x y k1 (by omega) (by omega) k5 k6
  ·rw [he j (by omega)] at k6;exact hlo i j x y k1 ci (by omega) k4 k5 k6
 ·rw [hs i (by omega) k2] at k5;by_cases cj:j<e
  ·rw [hm j k3 cj] at k6;exact hhi (i+m-s) (j+s-mid) x y (by omega) (by omega) (by omega) (by omega) k5 k6
  ·rw [he j (by omega)] at k6;exact h2 (i+m-s) j x y (by omega) (by omega) k4 k5 k6
structure Cut (L:List Bd) (n s0 s r0:Nat):Prop where
 lo:∀ c x y,s0<=c->c<s->L[c]?=some x->L[n-1-c]?=some y->x.v<=y.v
 hi:∀ c x y,s<=c->c<r0->L[c]?=some x->L[n-1-c]?=some y->y.v<x.v
theorem Cut.sides {L:List Bd} {a m b s n s0 r0:Nat} (hb:b<=L.length) (ham:a<m) (hmb:m<b) (hn:n=(a+b) / 2+m) (h0:(m>(a+b) / 2/\s0=n-b/\r0=(a+b) / 2)\/(m<=(a+b) / 2/\s0=a/\r0=m)) (h1:srtB L a m) (h2:srtB L m b) (hs0:s0<=s) (hs:s<=r0) (hc:Cut L n s0 s r0) :
  a<=s/\s<=m/\m<=n-s/\n-s<=b/\s+(n-s-m)=(a+b) / 2/\leB L a s (n-s) b/\leB L m (n-s) s m:=by
 have hmid:a<=(a+b) / 2/\(a+b) / 2<b/\(a+b) / 2+(a+b) / 2<=a+b/\a+b<=(a+b) / 2+(a+b) / 2+1:=by omega
 obtain ⟨mid,hM⟩:∃ mid,mid=(a+b) / 2:=⟨_,rfl⟩
 rw [<-hM] at hmid hn h0 |-;obtain ⟨q1,q2,q3,q4⟩:=hmid;clear hM;refine ⟨by omega,by omega,by omega,by omega,by omega,?_,?_⟩
 ·intro i j x y k1 k2 k3 k4 k5 k6;have hss:s0<s:=by omega
  obtain ⟨x',hx'⟩:=K0 (L:=L) (t:=s-1) (by omega);obtain ⟨y',hy'⟩:=K0 (L:=L) (t:=n-s) (by omega);have e1:=hc.lo (s-1) x' y' (by omega) (by omega) hx' (by rw [show n-1-(s-1)=n-s by omega];exact hy');have e2:x.v<=x'.v:=by
   by_cases c:i=s-1
   ·rw [c,hx'] at k5;cases k5;exact Int.le_refl _
   ·exact h1 i (s-1) x x' k1 (by omega) (by omega) k5 hx'
  have e3:y'.v<=y.v:=by
   by_cases c:j=n-s
   ·rw [c,hy'] at k6;cases k6;exact Int.le_refl _
   ·exact h2 (n-s) j y' y (by omega) (by omega) k4 hy' k6
  omega
 ·intro i j x y k1 k2 k3 k4 k5 k6;have hss:s<r0:=by omega
  obtain ⟨x',hx'⟩:=K0 (L:=L) (t:=s) (by omega);obtain ⟨y',hy'⟩:=K0 (L:=L) (t:=n-1-s) (by omega);have e1:=hc.hi s x' y' (by omega) (by omega) hx' hy';have e2:x'.v<=y.v:=by
   by_cases c:j=s
   ·rw [c,hx'] at k6;cases k6;exact Int.le_refl _
   ·exact h1 s j x' y (by omega) (by omega) k4 hx' k6
  have e3:x.v<=y'.v:=by
   by_cases c:i=n-1-s
   ·rw [c,hy'] at k5;cases k5;exact Int.le_refl _
   ·exact h2 i (n-1-s) x y' k1 (by omega) (by omega) k5 hy'
  omega
section
variable {P:Program} {w0:World} {U0:UX} {nt:Nat} {Q:Exit->AS->Prop} {s:AS}
def c2L (w0:World) (U0:UX) (nt:Nat) {Sg:Type} (R:Sg->Prop) (st:Sg->AS) (Q:Exit->AS->Prop):Exit->AS->Prop
 | .normal,s=>∃ σ,R σ/\Wk w0 U0 nt s (st σ)
 | e,s=>Q e s
theorem a4R {Sg:Type} {x y:Code} (R:Sg->Prop) (st:Sg->AS) (hx:AWp P w0 U0 nt x (c2L w0 U0 nt R st Q) s) (hy:∀ σ,R σ->AWp P w0 U0 nt y Q (st σ)):AWp P w0 U0 nt (.seq x y) Q s:=
 aS fun M a w hs=>H4 (hx M a w hs) fun e a' w' ⟨s',h1,h2⟩=>by
  cases e with
  | normal=>obtain ⟨σ,k1,k2⟩:=h1;exact ⟨st σ,hy σ k1,k2 a' w' h2⟩
  | _=>exact ⟨s',h1,h2⟩
variable {ops:Array Oper} {o:Oper} {gs:List Nat} {S:Nat->Option AV} {d:Nat}
theorem c2s (hg:Gd w0 U0 nt ops o gs S) (hd:o.dst=some d) (hn:Nat.blt d nt=true) (h5:Nat.blt d 100000=true) {x y:Operand} {t1 t2:TypeId} {k:IntKind} {i:Int} {n q p n' q' p'} (ho:o.op = .binOp .shr t1 x y t2) (hx:ev S x=some ⟨0,.sc (.int k i),n,q,p⟩) (hy:ev S y=some ⟨0,.sc (.int k 1),n',q',p'⟩):AOp P w0 U0 nt ops o (gs++(rd x++rd y)) [] S [(d,.val (.sc (.int k (i / 2))))]:=
 D9 hg hd hn h5 ho hx hy (fun w=>by
  have hm:min (1:Int).toNat k.bits=1:=by cases k<;>rfl
  rw [binOp_shr,shift_shr_any k k i 1 (by decide),hm];simp [go_sem]) rfl
theorem zbs {P:Program} {w0:World} {U0:UX} {nt:Nat} {ops:Array Oper} {o:Oper} {gs:List Nat} {S:Nat->Option AV} {d:Nat} {x:Operand} {y:Operand} {t1:TypeId} {t2:TypeId} {k:IntKind} {i:Int} {n} {q} {p} {n'} {q'} {p'} (r:Gd w0 U0 nt ops o gs S:=by exact gN rfl) (t:o.dst=some d:=by exact rfl) (u:Nat.blt d nt=true:=by exact rfl) (v:Nat.blt d 100000=true:=by exact rfl) (z:o.op = .binOp .shr t1 x y t2:=by exact rfl) (A:ev S x=some ⟨0,.sc (.int k i),n,q,p⟩:=by exact rfl) (B:ev S y=some ⟨0,.sc (.int k 1),n',q',p'⟩:=by exact rfl):AOp P w0 U0 nt ops o (gs++(rd x++rd y)) [] S [(d,.val (.sc (.int k (i / 2))))]:=c2s r t u v z A B
end
theorem c2A {L M:List Bd} {a k:Nat} {y z:Bd} (hak:a<=k) (hk:k+1<L.length) (h:IsG M L.length (rtG a (a+1) (k+1) fun t=>L[t]?)) (hz:M[k]?=some z) (hy:M[k+1]?=some y):IsG ((M.set k y).set (k+1) z) L.length (rtG a (a+1) (k+2) fun t=>L[t]?):=by
 have hl:=h.1;have ez:=h.2 k;have ey:=h.2 (k+1);rw [hz] at ez;rw [hy] at ey;refine ⟨by rw [length_set,length_set];exact hl,fun t=>?_⟩;have et:=h.2 t;unfold rtG at ez ey et |-;rw [getElem?_set,getElem?_set];by_cases c1:t=k+1
 ·subst c1;rw [if_pos rfl,if_pos (by rw [length_set];omega),if_neg (by omega),if_pos (by omega),ez];by_cases c:a<=k/\k<a+(k+1-(a+1))
  ·omega
  ·rw [if_neg c,if_pos (by omega)];congr 1;omega
 ·rw [if_neg (by omega)];by_cases c2:t=k
  ·subst c2;rw [if_pos rfl,if_pos (by omega),if_pos (by omega),ey,if_neg (by omega),if_neg (by omega)];congr 1;omega
  ·rw [if_neg (by omega),et];by_cases c3:a<=t/\t<a+(k+1-(a+1))
   ·rw [if_pos c3,if_pos (by omega)]
   ·rw [if_neg c3,if_neg (by omega),if_neg (by omega),if_neg (by omega)]
theorem c0t {L M:List Bd} {k m:Nat} {y z:Bd} (hkm:k+1<=m) (hm:m<L.length) (h:IsG M L.length (rtG (k+1) m (m+1) fun t=>L[t]?)) (hz:M[k+1]?=some z) (hy:M[k]?=some y):IsG ((M.set (k+1) y).set k z) L.length (rtG k m (m+1) fun t=>L[t]?):=by
 have hl:=h.1;have ez:=h.2 (k+1);have ey:=h.2 k;rw [hz] at ez;rw [hy] at ey;refine ⟨by rw [length_set,length_set];exact hl,fun t=>?_⟩;have et:=h.2 t;unfold rtG at ez ey et |-;rw [getElem?_set,getElem?_set];by_cases c1:t=k
 ·subst c1;rw [if_pos rfl,if_pos (by rw [length_set];omega),if_pos (by omega),ez,if_pos (by omega)];congr 1;omega
 ·rw [if_neg (by omega)];by_cases c2:t=k+1
  ·subst c2;rw [if_pos rfl,if_pos (by omega),if_neg (by omega),if_pos (by omega),ey,if_neg (by omega),if_neg (by omega)];congr 1;omega
  ·rw [if_neg (by omega),et];by_cases c3:k+1+(m+1-m)<=t/\t<m+1
   ·rw [if_neg (by omega),if_pos c3,if_neg (by omega),if_pos (by omega)]
   ·rw [if_neg (by omega),if_neg c3,if_neg (by omega),if_neg (by omega)]
theorem a0Y (i j:Nat):((i:Int)+j) / 2=(((i+j) / 2:Nat):Int):=by omega
theorem a0X {i j:Nat} (hi:i<=1000000) (hj:j<=1000000):IntKind.u64.wrap ((i:Int)+j)=(i:Int)+j:=by rw [IntKind.wrap_u64];omega
noncomputable abbrev b2k (a b:Nat) (L σ:List Bd):Prop:=Mg a b L σ/\srtB σ a b
set_option maxHeartbeats 4000000 in
theorem b5g (cmp:Bd->Bd->Int) (fc:CV) (hcm:∀ W x y,N4 Tryz.prog W fc [x.cw,y.cw] (.val (.i (cmp x y)))) (hv:∀ x y,cmp x y<0↔x.v<y.v) (L:List Bd) (a m b:Nat) (ham:m=a+1) (hmb:m<b) (hb:b<=L.length) (hl:L.length<=1000000) (h2:srtB L m b):AFunE (Sg:=List Bd) Tryz.prog 160 (rwB L) [.sl 400000 0 L.length 3,.val (.i a),.val (.i m),.val (.i b),.val fc] (b2k a b L) (fun _ => .tup []) (fun σ=>rwB σ):=by
 refine J0 Tryz.func160 Tryz.ntmps160 rfl rfl rfl rfl rfl (fun σ=>rfl) ?_;intro w U hU;refine aS (aS (aR ?_));refine nc zl (nc zl (nc zj (nc zt ?_)));refine aC rfl (fun _=>?_) (fun hc=>?_)
 case refine_2 =>
  have hc:=of_decide_eq_false hc;omega
 refine aS (aR ?_);refine nc zl (nc ze ?_);refine aS (aR ?_);refine nc zl (nc ze ?_);obtain ⟨z,hz⟩:=K0 (L:=L) (t:=a) (by omega);have hz':=Bd.map_at hz;have hlm:(L.map Bd.cv).length=L.length:=length_map ..;obtain ⟨N,hN⟩:∃ N,N=L.length:=⟨_,rfl⟩
 rw [<-hN] at hb hl |-;obtain ⟨st,hst⟩:∃ st:Nat->Nat->AS,st=fun i j=>(0,AV.sl 400000 0 N 3)::(1,.val (.i a))::(4,.val fc)::(10,.val (.i (i:Nat)))::(11,.val (.i (j:Nat)))::rwB L:=⟨_,rfl⟩
 refine aS (aB (n4 (fun k s=>∃ i j,k=j-i/\m<=i/\i<=j/\j<=b/\(∀ t x,m<=t->t<i->L[t]?=some x->x.v<z.v)/\(∀ t x,j<=t->t<b->L[t]?=some x->z.v<=x.v)/\s=st i j) (n:=b-m) (s':=st m b) (by rw [hst,hN];exact a7 ⟨rfl,rfl,rfl,rfl,rfl,rfl,trivial⟩) ⟨m,b,rfl,Nat.le_refl _,by omega,Nat.le_refl _,fun t x _ _ _=>by omega,fun t x _ _ _=>by omega,rfl⟩ ?_));rintro k s ⟨i,j,rfl,hmi,hij,hjb,hlo,hhi,rfl⟩;rw [hst];refine aS (aS (aR ?_));refine nc zl (nc zl (nc zi ?_));refine aC rfl (fun hc=>aK ?_) (fun hc=>aE ?_)
 ·have hlt:i<j:=by have:=of_decide_eq_true hc;omega
  have hw:=a0X (i:=i) (j:=j) (by omega) (by omega);refine aB (aS (aR ?_));refine nc zl (nc zl (nc zu (nc zbr (nc zbs (nc zbr (nc ze ?_))))));have hh:i<=(i+j) / 2/\(i+j) / 2<j:=by omega
  have hcast:=a0Y i j;obtain ⟨h,hhd⟩:∃ h,h=(i+j) / 2:=⟨_,rfl⟩
  rw [<-hhd] at hh hcast;refine AWp.wk (a7 (s':=(0,AV.sl 400000 0 N 3)::(1,.val (.i a))::(4,.val fc)::(10,.val (.i (i:Nat)))::(11,.val (.i (j:Nat)))::(12,.val (.i (h:Nat)))::rwB L) ⟨rfl,rfl,rfl,rfl,rfl,by rw [<-hcast];rfl,rfl,trivial⟩) ?_;obtain ⟨x,hx⟩:=K0 (L:=L) (t:=h) (by omega);have hx':=Bd.map_at hx;refine aS (aD (by kernel_rfl) (by kernel_rfl) ?_);refine nc zl (nc zl (nc zl (nc (zM (k:=h)) (nc (zN (G:=hx')) (nc zl (nc zl (nc (zM (k:=a)) (nc (zN (G:=hz')) (nc (zO (E:=hcm _ x z)) (nc zi ?_))))))))));refine ⟨by kernel_rfl,?_⟩;refine aC rfl (fun c1=>?_) (fun c1=>?_)
  ·have c2:=(hv x z).1 (of_decide_eq_true c1);refine aR ?_;refine nc zl (nc zu (nc ze ?_));refine ⟨j-(h+1),st (h+1) j,by omega,⟨h+1,j,rfl,by omega,by omega,hjb,fun t y k1 k2 k3=>?_,hhi,by rw [hst]⟩,by rw [hst];exact a7 ⟨rfl,rfl,rfl,rfl,rfl,rfl,trivial⟩⟩;by_cases ct:t=h
   ·rw [ct,hx] at k3;cases k3;exact c2
   ·exact Int.lt_of_le_of_lt (h2 t h y x k1 (by omega) (by omega) k3 hx) c2
  ·have c2:¬ x.v<z.v:=fun c=>of_decide_eq_false c1 ((hv x z).2 c);refine aR ?_;refine nc zl (nc ze ?_);refine ⟨h-i,st i h,by omega,⟨i,h,rfl,hmi,by omega,by omega,hlo,fun t y k1 k2 k3=>?_,by rw [hst]⟩,by rw [hst];exact a7 ⟨rfl,rfl,rfl,rfl,rfl,rfl,trivial⟩⟩;by_cases ct:t=h
   ·rw [ct,hx] at k3;cases k3;omega
   ·have:=h2 h t x y (by omega) (by omega) (by omega) hx k3;omega
 ·have hij':i=j:=by have:=of_decide_eq_false hc;omega
  subst hij';refine aS (aS (aR ?_));refine nc zl (nc ze ?_);obtain ⟨st2,hst2⟩:∃ st:Nat->List Bd->AS,st=fun k M=>(0,AV.sl 400000 0 N 3)::(10,.val (.i (i:Nat)))::(13,.val (.i (k:Nat)))::rwB M:=⟨_,rfl⟩
  refine aB (n4 (fun q s=>∃ k M,q=i-k/\a<=k/\k<i/\IsG M N (rtG a (a+1) (k+1) fun t=>L[t]?)/\s=st2 k M) (n:=i-a) (s':=st2 a L) (by rw [hst2];exact a7 ⟨rfl,rfl,rfl,rfl,trivial⟩) ⟨a,L,rfl,Nat.le_refl _,by omega,by rw [hN];exact b0u (by omega) (by omega) (.inr rfl),rfl⟩ ?_);rintro q s ⟨k,M,rfl,hak,hki,hM,rfl⟩;rw [hst2];refine aS (aS (aR ?_));refine nc zl (nc zl (nc zj (nc zi ?_)));refine aC rfl (fun hc=>aK ?_) (fun hc=>aE ?_)
  ·have hlt:k+1<i:=by have:=of_decide_eq_true hc;omega
   have hMl:=hM.1;obtain ⟨x,hx⟩:=K0 (L:=M) (t:=k) (by omega);obtain ⟨y,hy⟩:=K0 (L:=M) (t:=k+1) (by omega);have hx':=Bd.map_at hx;have hy':=Bd.map_at hy;have hlm:(M.map Bd.cv).length=M.length:=length_map ..;have hy2:((M.map Bd.cv).set k y.cw)[k+1]?=some y.cw:=by rw [List.getElem?_set_ne (by omega)];exact hy'
   refine aS (aB (aD (by kernel_rfl) (by kernel_rfl) ?_));refine nc zl (nc zl (nc zl (nc zl (nc zu (nc zl (nc zl (nc zu (nc (zM (k:=k+1)) (nc (zN (G:=hy')) (nc zl (nc zl (nc (zM (k:=k)) (nc (zN (G:=hx')) (nc (zM (k:=k)) (nc (zQ (F:=hx')) (nc (zM (k:=k+1)) (nc (zQ (F:=hy2)) ?_)))))))))))))))));refine ⟨by kernel_rfl,?_⟩;refine aR ?_;refine nc zl (nc zu (nc ze ?_));refine ⟨i-(k+1),st2 (k+1) ((M.set k y).set (k+1) x),by omega,⟨k+1,(M.set k y).set (k+1) x,rfl,by omega,hlt,?_,by rw [hst2]⟩,?_⟩
   ·rw [hN] at hM |-;exact c2A hak (by omega) hM hx hy
   ·rw [hst2];refine a7 ⟨rfl,rfl,rfl,?_,trivial⟩;rw [<-w8,<-w8];rfl
  ·have hge:k+1=i:=by have:=of_decide_eq_false hc;omega
   rw [hge,hN] at hM;refine aT ⟨.inr rfl,M,⟨(Mg.rt (by omega) (by omega) (by omega) hM).mono (Nat.le_refl _) hjb,?_⟩,_,Wk.refl _,rfl,rfl,trivial⟩;have hf:=a0A (a:=a) (b:=b) (mid:=i-1) (Nat.le_refl a) (by omega) (by omega) hjb (by omega) (by omega) (fun i j x y k1 k2 k3 _ _=>by omega) (by rw [<-ham];exact h2) (fun i j x y k1 k2 _ _ _ _=>by omega) (fun t u x y k1 k2 k3 k4 k5 k6=>by
    rw [show u=a by omega,hz] at k6;cases k6;have:=hlo t x (by omega) (by omega) k5;omega) hM
   refine hf.2.1.glue ((hf.2.2.1).glue hf.2.2.2.1 fun t u x y k1 k2 k3 k4 k5 k6=>?_) hf.2.2.2.2;have e1:M[t]?=some z:=by
    rw [hM.2,<-hz];unfold rtG;rw [if_neg (by omega),if_pos (by omega)];congr 1;omega
   rw [e1] at k5;cases k5;have e2:M[u]?=L[u]?:=by rw [hM.2];unfold rtG;rw [if_neg (by omega),if_neg (by omega)]
   rw [e2] at k6;exact hhi u y k3 k4 k6
set_option maxHeartbeats 4000000 in
theorem b3i (cmp:Bd->Bd->Int) (fc:CV) (hcm:∀ W x y,N4 Tryz.prog W fc [x.cw,y.cw] (.val (.i (cmp x y)))) (hv:∀ x y,cmp x y<0↔x.v<y.v) (L:List Bd) (a m b:Nat) (ham:a+1<m) (hmb:b=m+1) (hb:b<=L.length) (hl:L.length<=1000000) (h1:srtB L a m):AFunE (Sg:=List Bd) Tryz.prog 160 (rwB L) [.sl 400000 0 L.length 3,.val (.i a),.val (.i m),.val (.i b),.val fc] (b2k a b L) (fun _ => .tup []) (fun σ=>rwB σ):=by
 refine J0 Tryz.func160 Tryz.ntmps160 rfl rfl rfl rfl rfl (fun σ=>rfl) ?_;intro w U hU;refine aS (aS (aR ?_));refine nc zl (nc zl (nc zj (nc zt ?_)));refine aC rfl (fun hc=>?_) (fun _=>aK ?_)
 case refine_1 =>
  have hc:=of_decide_eq_true hc;omega
 refine aS (aS (aR ?_));refine nc zl (nc zl (nc zj (nc zt ?_)));refine aC rfl (fun _=>?_) (fun hc=>?_)
 case refine_2 =>
  have hc:=of_decide_eq_false hc;omega
 refine aS (aR ?_);refine nc zl (nc ze ?_);refine aS (aR ?_);refine nc zl (nc ze ?_);obtain ⟨z,hz⟩:=K0 (L:=L) (t:=m) (by omega);have hz':=Bd.map_at hz;have hlm:(L.map Bd.cv).length=L.length:=length_map ..;obtain ⟨N,hN⟩:∃ N,N=L.length:=⟨_,rfl⟩
 rw [<-hN] at hb hl |-;obtain ⟨st,hst⟩:∃ st:Nat->Nat->AS,st=fun i j=>(0,AV.sl 400000 0 N 3)::(2,.val (.i m))::(4,.val fc)::(14,.val (.i (i:Nat)))::(15,.val (.i (j:Nat)))::rwB L:=⟨_,rfl⟩
 refine aS (aB (n4 (fun k s=>∃ i j,k=j-i/\a<=i/\i<=j/\j<=m/\(∀ t x,a<=t->t<i->L[t]?=some x->x.v<=z.v)/\(∀ t x,j<=t->t<m->L[t]?=some x->z.v<x.v)/\s=st i j) (n:=m-a) (s':=st a m) (by rw [hst,hN];exact a7 ⟨rfl,rfl,rfl,rfl,rfl,rfl,trivial⟩) ⟨a,m,rfl,Nat.le_refl _,by omega,Nat.le_refl _,fun t x _ _ _=>by omega,fun t x _ _ _=>by omega,rfl⟩ ?_));rintro k s ⟨i,j,rfl,hmi,hij,hjb,hlo,hhi,rfl⟩;rw [hst];refine aS (aS (aR ?_));refine nc zl (nc zl (nc zi ?_));refine aC rfl (fun hc=>aK ?_) (fun hc=>aE ?_)
 ·have hlt:i<j:=by have:=of_decide_eq_true hc;omega
  have hw:=a0X (i:=i) (j:=j) (by omega) (by omega);refine aB (aS (aR ?_));refine nc zl (nc zl (nc zu (nc zbr (nc zbs (nc zbr (nc ze ?_))))));have hh:i<=(i+j) / 2/\(i+j) / 2<j:=by omega
  have hcast:=a0Y i j;obtain ⟨h,hhd⟩:∃ h,h=(i+j) / 2:=⟨_,rfl⟩
  rw [<-hhd] at hh hcast;refine AWp.wk (a7 (s':=(0,AV.sl 400000 0 N 3)::(2,.val (.i m))::(4,.val fc)::(14,.val (.i (i:Nat)))::(15,.val (.i (j:Nat)))::(16,.val (.i (h:Nat)))::rwB L) ⟨rfl,rfl,rfl,rfl,rfl,by rw [<-hcast];rfl,rfl,trivial⟩) ?_;obtain ⟨x,hx⟩:=K0 (L:=L) (t:=h) (by omega);have hx':=Bd.map_at hx;refine aS (aD (by kernel_rfl) (by kernel_rfl) ?_);refine nc zl (nc zl (nc zl (nc (zM (k:=m)) (nc (zN (G:=hz')) (nc zl (nc zl (nc (zM (k:=h)) (nc (zN (G:=hx')) (nc (zO (E:=hcm _ z x)) (nc zi (nc z0 ?_)))))))))));refine ⟨by kernel_rfl,?_⟩;refine aC rfl (fun c1=>?_) (fun c1=>?_)
  ·have c2:¬ z.v<x.v:=fun c=>by
    have:=(hv z x).2 c;simp [this] at c1
   refine aR ?_;refine nc zl (nc zu (nc ze ?_));refine ⟨j-(h+1),st (h+1) j,by omega,⟨h+1,j,rfl,by omega,by omega,hjb,fun t y k1 k2 k3=>?_,hhi,by rw [hst]⟩,by rw [hst];exact a7 ⟨rfl,rfl,rfl,rfl,rfl,rfl,trivial⟩⟩;by_cases ct:t=h
   ·rw [ct,hx] at k3;cases k3;omega
   ·have:=h1 t h y x k1 (by omega) (by omega) k3 hx;omega
  ·have c2:z.v<x.v:=(hv z x).1 (by simpa using c1);refine aR ?_;refine nc zl (nc ze ?_);refine ⟨h-i,st i h,by omega,⟨i,h,rfl,hmi,by omega,by omega,hlo,fun t y k1 k2 k3=>?_,by rw [hst]⟩,by rw [hst];exact a7 ⟨rfl,rfl,rfl,rfl,rfl,rfl,trivial⟩⟩;by_cases ct:t=h
   ·rw [ct,hx] at k3;cases k3;omega
   ·have:=h1 h t x y (by omega) (by omega) (by omega) hx k3;omega
 ·have hij':i=j:=by have:=of_decide_eq_false hc;omega
  subst hij';refine aS (aS (aR ?_));refine nc zl (nc ze ?_);obtain ⟨st2,hst2⟩:∃ st:Nat->List Bd->AS,st=fun k M=>(0,AV.sl 400000 0 N 3)::(14,.val (.i (i:Nat)))::(17,.val (.i (k:Nat)))::rwB M:=⟨_,rfl⟩
  refine aB (n4 (fun q s=>∃ k M,q=k/\i<=k/\k<=m/\IsG M N (rtG k m (m+1) fun t=>L[t]?)/\s=st2 k M) (n:=m) (s':=st2 m L) (by rw [hst2];exact a7 ⟨rfl,rfl,rfl,rfl,trivial⟩) ⟨m,L,rfl,by omega,Nat.le_refl _,by rw [hN];exact b0u (by omega) (by omega) (.inl rfl),rfl⟩ ?_);rintro q s ⟨k,M,hqk,hik,hkm,hM,rfl⟩;rw [hst2];refine aS (aS (aR ?_));refine nc zl (nc zl (nc zK ?_));refine aC rfl (fun hc=>aK ?_) (fun hc=>aE ?_)
  ·have hlt:i<k:=by have:=of_decide_eq_true hc;omega
   obtain ⟨k,rfl⟩:∃ k',k=k'+1:=⟨k-1,by omega⟩
   have hMl:=hM.1;obtain ⟨x,hx⟩:=K0 (L:=M) (t:=k+1) (by omega);obtain ⟨y,hy⟩:=K0 (L:=M) (t:=k) (by omega);have hx':=Bd.map_at hx;have hy':=Bd.map_at hy;have hlm:(M.map Bd.cv).length=M.length:=length_map ..;have hy2:((M.map Bd.cv).set (k+1) y.cw)[k]?=some y.cw:=by rw [List.getElem?_set_ne (by omega)];exact hy'
   refine aS (aB (aD (by kernel_rfl) (by kernel_rfl) ?_));refine nc zl (nc zl (nc zl (nc zl (nc zj (nc zl (nc zl (nc zj (nc (zM (k:=k)) (nc (zN (G:=hy')) (nc zl (nc zl (nc (zM (k:=k+1)) (nc (zN (G:=hx')) (nc (zM (k:=k+1)) (nc (zQ (F:=hx')) (nc (zM (k:=k)) (nc (zQ (F:=hy2)) ?_)))))))))))))))));refine ⟨by kernel_rfl,?_⟩;refine aR ?_;refine nc zl (nc zj (nc ze ?_));refine ⟨k,st2 k ((M.set (k+1) y).set k x),by omega,⟨k,(M.set (k+1) y).set k x,rfl,by omega,by omega,?_,by rw [hst2]⟩,?_⟩
   ·rw [hN] at hM |-;exact c0t hkm (by omega) hM hx hy
   ·rw [hst2];refine a7 ⟨rfl,rfl,?_,?_,trivial⟩
    ·show some (AV.val (.i _))=some (AV.val (.i _));congr 3;omega
    ·rw [<-w8,<-w8];rfl
  ·have hge:k=i:=by have:=of_decide_eq_false hc;omega
   rw [hge,hN] at hM;refine aT ⟨.inr rfl,M,⟨(Mg.rt (by omega) (by omega) (by omega) hM).mono hmi (by omega),?_⟩,_,Wk.refl _,rfl,rfl,trivial⟩;have hf:=a0A (a:=a) (b:=b) (mid:=i+1) hmi (by omega) (by omega) (by omega) (by omega) (by omega) h1 (fun i j x y k1 k2 k3 _ _=>by omega) (fun i j x y k1 k2 _ _ _ _=>by omega) (fun t u x y k1 k2 k3 k4 k5 k6=>by
    rw [show t=m by omega,hz] at k5;cases k5;have:=hhi u y (by omega) (by omega) k6;omega) hM
   refine srtB.glue (m:=i+1) ((hf.1).glue hf.2.1 fun t u x y k1 k2 k3 k4 k5 k6=>?_) (by rw [hmb];exact hf.2.2.1) hf.2.2.2.2;have e1:M[u]?=some z:=by
    rw [hM.2,<-hz];unfold rtG;rw [if_pos (by omega)];congr 1;omega
   rw [e1] at k6;cases k6;have e2:M[t]?=L[t]?:=by rw [hM.2];unfold rtG;rw [if_neg (by omega),if_neg (by omega)]
   rw [e2] at k5;exact hlo t x k1 k2 k5
set_option maxHeartbeats 4000000 in
theorem a8O (cmp:Bd->Bd->Int) (fc:CV) (hcm:∀ W x y,N4 Tryz.prog W fc [x.cw,y.cw] (.val (.i (cmp x y)))) (hv:∀ x y,cmp x y<0↔x.v<y.v):∀ (d:Nat) (L:List Bd) (a m b:Nat),b-a<=d->a<m->m<b->b<=L.length->L.length<=1000000->srtB L a m->srtB L m b->AFunE (Sg:=List Bd) Tryz.prog 160 (rwB L) [.sl 400000 0 L.length 3,.val (.i a),.val (.i m),.val (.i b),.val fc] (b2k a b L) (fun _ => .tup []) (fun σ=>rwB σ):=by
 intro d
 induction d with
 | zero=>intro L a m b hd ham hmb;omega
 | succ d ih =>
 intro L a m b hd ham hmb hb hl h1 h2;by_cases q1:m=a+1
 ·exact b5g cmp fc hcm hv L a m b q1 hmb hb hl h2
 by_cases q2:b=m+1
 ·exact b3i cmp fc hcm hv L a m b (by omega) q2 hb hl h1
 refine J0 Tryz.func160 Tryz.ntmps160 rfl rfl rfl rfl rfl (fun σ=>rfl) ?_;intro w U hU;refine aS (aS (aR ?_));refine nc zl (nc zl (nc zj (nc zt ?_)));refine aC rfl (fun hc=>?_) (fun _=>aK ?_)
 case refine_1 =>
  have hc:=of_decide_eq_true hc;omega
 refine aS (aS (aR ?_));refine nc zl (nc zl (nc zj (nc zt ?_)));refine aC rfl (fun hc=>?_) (fun _=>aK ?_)
 case refine_1 =>
  have hc:=of_decide_eq_true hc;omega
 have hw:=a0X (i:=a) (j:=b) (by omega) (by omega);refine aS (aR ?_);refine nc zl (nc zl (nc zu (nc zbr (nc zbs (nc zbr (nc ze ?_))))));have hcast:=a0Y a b;obtain ⟨mid,hmid⟩:∃ mid,mid=(a+b) / 2:=⟨_,rfl⟩
 have hm2:mid+mid<=a+b/\a+b<=mid+mid+1:=by omega
 rw [<-hmid] at hcast;obtain ⟨N,hN⟩:∃ N,N=L.length:=⟨_,rfl⟩
 rw [<-hN] at hb hl |-;refine AWp.wk (a7 (s':=(0,AV.sl 400000 0 N 3)::(1,.val (.i a))::(2,.val (.i m))::(3,.val (.i b))::(4,.val fc)::(18,.val (.i (mid:Nat)))::rwB L) ⟨by rw [hN];rfl,rfl,rfl,rfl,rfl,by rw [<-hcast];rfl,rfl,trivial⟩) ?_;refine aS (aR ?_);refine nc zl (nc zl (nc zu (nc ze ?_)));refine aS (aR ?_);refine nc ze (nc ze ?_);obtain ⟨n,hn⟩:∃ n,n=mid+m:=⟨_,rfl⟩
 obtain ⟨s0,r0,h0⟩:∃ s0 r0,(m>mid/\s0=n-b/\r0=mid)\/(m<=mid/\s0=a/\r0=m):=by
  rcases Nat.lt_or_ge mid m with c | c
  ·exact ⟨_,_,.inl ⟨c,rfl,rfl⟩⟩
  ·exact ⟨_,_,.inr ⟨c,rfl,rfl⟩⟩
 refine a3u ((0,AV.sl 400000 0 N 3)::(1,.val (.i a))::(2,.val (.i m))::(3,.val (.i b))::(4,.val fc)::(18,.val (.i (mid:Nat)))::(19,.val (.i (n:Nat)))::(20,.val (.i (s0:Nat)))::(21,.val (.i (r0:Nat)))::rwB L) ?_ ?_
 ·refine aS (aR ?_);refine nc zl (nc zl (nc zK ?_));rcases h0 with ⟨c,e1,e2⟩ | ⟨c,e1,e2⟩
  ·refine aC rfl (fun _=>?_) (fun hc=>?_)
   case refine_2 =>
    have hc:=of_decide_eq_false hc;omega
   refine aS (aR ?_);refine nc zl (nc zl (nc zj (nc ze ?_)));refine aR ?_;refine nc zl (nc ze ?_);refine a7 ⟨rfl,rfl,rfl,rfl,rfl,rfl,?_,?_,?_,rfl,trivial⟩
   ·rw [show ((n:Nat):Int)=(mid:Int)+m by omega];rfl
   ·rw [show ((s0:Nat):Int)=(mid:Int)+m-b by omega];rfl
   ·rw [e2];rfl
  ·refine aC rfl (fun hc=>?_) (fun _=>?_)
   case refine_1 =>
    have hc:=of_decide_eq_true hc;omega
   refine aS (aR ?_);refine nc zl (nc ze ?_);refine aR ?_;refine nc zl (nc ze ?_);refine a7 ⟨rfl,rfl,rfl,rfl,rfl,rfl,?_,?_,?_,rfl,trivial⟩
   ·rw [show ((n:Nat):Int)=(mid:Int)+m by omega];rfl
   ·rw [e1];rfl
   ·rw [e2];rfl
 refine aS (aR ?_);refine nc zl (nc zj (nc ze ?_));have hidx:∀ c,s0<=c->c<r0->a<=c/\c<m/\m<=n-1-c/\n-1-c<b/\c<=n-1:=fun c k1 k2=>by omega
 have hsr:s0<=r0/\r0<=m:=by omega
 have hlm:(L.map Bd.cv).length=L.length:=length_map ..;obtain ⟨st,hst⟩:∃ st:Nat->Nat->AS,st=fun i j=>(0,AV.sl 400000 0 N 3)::(1,.val (.i a))::(2,.val (.i m))::(3,.val (.i b))::(4,.val fc)::(18,.val (.i (mid:Nat)))::(19,.val (.i (n:Nat)))::(20,.val (.i (i:Nat)))::(21,.val (.i (j:Nat)))::(22,.val (.i ((n-1:Nat):Int)))::rwB L:=⟨_,rfl⟩
 refine aS (aB (n4 (fun k s=>∃ i j,k=j-i/\s0<=i/\i<=j/\j<=r0/\(∀ c x y,s0<=c->c<i->L[c]?=some x->L[n-1-c]?=some y->x.v<=y.v)/\(∀ c x y,j<=c->c<r0->L[c]?=some x->L[n-1-c]?=some y->y.v<x.v)/\s=st i j) (n:=r0-s0) (s':=st s0 r0) (by
  rw [hst];refine a7 ⟨rfl,rfl,rfl,rfl,rfl,rfl,rfl,rfl,rfl,?_,rfl,trivial⟩;rw [show ((n-1:Nat):Int)=(n:Int)-1 by omega];rfl) ⟨s0,r0,rfl,Nat.le_refl _,hsr.1,Nat.le_refl _,fun c x y _ _ _=>by omega,fun c x y _ _ _=>by omega,rfl⟩ ?_))
 rintro k s ⟨i,j,rfl,hmi,hij,hjb,hlo,hhi,rfl⟩;rw [hst];refine aS (aS (aR ?_));refine nc zl (nc zl (nc zi ?_));refine aC rfl (fun hc=>aK ?_) (fun hc=>aE ?_)
 ·have hlt:i<j:=by have:=of_decide_eq_true hc;omega
  have hw:=a0X (i:=i) (j:=j) (by omega) (by omega);refine aB (aS (aR ?_));refine nc zl (nc zl (nc zu (nc zbr (nc zbs (nc zbr (nc ze ?_))))));have hh:i<=(i+j) / 2/\(i+j) / 2<j:=by omega
  have hcast:=a0Y i j;obtain ⟨h,hhd⟩:∃ h,h=(i+j) / 2:=⟨_,rfl⟩
  rw [<-hhd] at hh hcast;obtain ⟨k1,k2,k3,k4,k5⟩:=hidx h (by omega) (by omega);refine AWp.wk (a7 (s':=(23,.val (.i (h:Nat)))::(0,AV.sl 400000 0 N 3)::(1,.val (.i a))::(2,.val (.i m))::(3,.val (.i b))::(4,.val fc)::(18,.val (.i (mid:Nat)))::(19,.val (.i (n:Nat)))::(20,.val (.i (i:Nat)))::(21,.val (.i (j:Nat)))::(22,.val (.i ((n-1:Nat):Int)))::rwB L) ⟨by rw [<-hcast];rfl,rfl,rfl,rfl,rfl,rfl,rfl,rfl,rfl,rfl,rfl,rfl,trivial⟩) ?_;obtain ⟨x,hx⟩:=K0 (L:=L) (t:=n-1-h) (by omega);obtain ⟨y,hy⟩:=K0 (L:=L) (t:=h) (by omega);have hx':=Bd.map_at hx;have hy':=Bd.map_at hy;refine aS (aD (by kernel_rfl) (by kernel_rfl) ?_);refine nc zl (nc zl (nc zl (nc zl (nc zj (nc (zM (k:=n-1-h)) (nc (zN (G:=hx')) (nc zl (nc zl (nc (zM (k:=h)) (nc (zN (G:=hy')) (nc (zO (E:=hcm _ x y)) (nc zi (nc z0 ?_)))))))))))));refine ⟨by kernel_rfl,?_⟩;refine aC rfl (fun c1=>?_) (fun c1=>?_)
  ·have c2:¬ x.v<y.v:=fun c=>by
    have:=(hv x y).2 c;simp [this] at c1
   refine aR ?_;refine nc zl (nc zu (nc ze ?_));refine ⟨j-(h+1),st (h+1) j,by omega,⟨h+1,j,rfl,by omega,by omega,hjb,fun c x' y' g1 g2 g3 g4=>?_,hhi,by rw [hst]⟩,by rw [hst];exact a7 ⟨rfl,rfl,rfl,rfl,rfl,rfl,rfl,rfl,rfl,rfl,rfl,trivial⟩⟩;by_cases ct:c=h
   ·rw [ct] at g3 g4;rw [hy] at g3;rw [hx] at g4;cases g3;cases g4;omega
   ·obtain ⟨l1,l2,l3,l4,l5⟩:=hidx c g1 (by omega);have e1:=h1 c h x' y (by omega) (by omega) (by omega) g3 hy;have e2:=h2 (n-1-h) (n-1-c) x y' (by omega) (by omega) (by omega) hx g4;omega
  ·have c2:x.v<y.v:=(hv x y).1 (by simpa using c1);refine aR ?_;refine nc zl (nc ze ?_);refine ⟨h-i,st i h,by omega,⟨i,h,rfl,hmi,by omega,by omega,hlo,fun c x' y' g1 g2 g3 g4=>?_,by rw [hst]⟩,by rw [hst];exact a7 ⟨rfl,rfl,rfl,rfl,rfl,rfl,rfl,rfl,rfl,rfl,rfl,trivial⟩⟩;by_cases ct:c=h
   ·rw [ct] at g3 g4;rw [hy] at g3;rw [hx] at g4;cases g3;cases g4;omega
   ·obtain ⟨l1,l2,l3,l4,l5⟩:=hidx c (by omega) g2;have e1:=h1 h c y x' (by omega) (by omega) (by omega) hy g3;have e2:=h2 (n-1-c) (n-1-h) y' x (by omega) (by omega) (by omega) g4 hx;omega
 have hij':i=j:=by have:=of_decide_eq_false hc;omega
 subst hij';have hcut:Cut L n s0 i r0:=⟨hlo,hhi⟩
 obtain ⟨f1,f2,f3,f4,f5,f6,f7⟩:=hcut.sides (hN▸hb) ham hmb (by rw [hn,hmid]) (by rw [<-hmid];exact h0) h1 h2 hmi hjb;rw [<-hmid] at f5;refine aS (aR ?_);refine nc zl (nc zl (nc zj (nc ze ?_)));have hecast:((n:Nat):Int)-(i:Nat)=((n-i:Nat):Int):=by omega
 obtain ⟨e,he⟩:∃ e,e=n-i:=⟨_,rfl⟩
 rw [<-he] at f3 f4 f5 f6 f7 hecast;obtain ⟨st3,hst3⟩:∃ st:List Bd->AS,st=fun M=>(0,AV.sl 400000 0 N 3)::(1,.val (.i a))::(2,.val (.i m))::(3,.val (.i b))::(4,.val fc)::(18,.val (.i (mid:Nat)))::(20,.val (.i (i:Nat)))::(24,.val (.i (e:Nat)))::rwB M:=⟨_,rfl⟩
 refine AWp.wk (s':=st3 L) (by rw [hst3];exact a7 ⟨rfl,rfl,rfl,rfl,rfl,rfl,rfl,by rw [<-hecast];rfl,rfl,trivial⟩) ?_;refine a4R (fun M=>IsG M N (rtG i m e fun t=>L[t]?)) st3 ?_ ?_
 ·rw [hst3];refine aS (aR ?_);rcases Nat.lt_or_ge i m with c | c
  ·have g:decide (((i:Nat):Int)<(m:Nat))=true:=decide_eq_true (by omega);refine nc zl (nc zl (nc zi (nc zl (nc (zl (p:=gb)) (nc (zl (p:=gb)) (nc (zi (r:=gb)) (nc zP ?_)))))));refine aC rfl (fun hc=>?_) (fun hc=>aK ?_)
   ·have hc:=of_decide_eq_true hc;have hr:=b0L fc L i m e c (by omega) (by omega) (by omega);rw [<-hN] at hr;refine v7 5 rfl rfl rfl rfl rfl rfl hr (by kernel_rfl) (fun σ=>by kernel_rfl) (fun σ=>by kernel_rfl) (fun σ=>rfl) (fun σ=>j5 (by kernel_rfl)) ?_;refine nc zl (nc zl (nc zl (nc zl (nc zl ?_))));refine ⟨rfl,⟨rfl,trivial⟩,fun σ hσ=>⟨by kernel_rfl,?_⟩⟩;exact ⟨σ,hσ,a7 ⟨rfl,rfl,rfl,rfl,rfl,rfl,rfl,rfl,rfl,trivial⟩⟩
   ·have hc:=of_decide_eq_false hc;exact ⟨L,by rw [hN];exact b0u f2 f3 (.inr (by omega)),a7 ⟨rfl,rfl,rfl,rfl,rfl,rfl,rfl,rfl,rfl,trivial⟩⟩
  ·have g:decide (((i:Nat):Int)<(m:Nat))=false:=decide_eq_false (by omega);refine nc zl (nc zl (nc zi (nc zl (nc zR (nc zR (nc zR (nc zS ?_)))))));refine aC rfl (fun hc=>?_) (fun hc=>aK ?_)
   ·cases hc
   ·exact ⟨L,by rw [hN];exact b0u f2 f3 (.inl (by omega)),a7 ⟨rfl,rfl,rfl,rfl,rfl,rfl,rfl,rfl,rfl,trivial⟩⟩
 intro M hM;have hMl:=hM.1;have hM':=hM;rw [hN] at hM';obtain ⟨t1,t2,t3,t4,t5⟩:=a0A f1 f2 f3 f4 (hN▸hb) f5 h1 h2 f6 f7 hM';have hg1:Mg a b L M:=(Mg.rt f2 f3 (by omega) hM').mono f1 f4;refine a4R (fun M2=>Mg a mid M M2/\srtB M2 a mid) st3 ?_ ?_
 ·rw [hst3];refine aS (aR ?_);rcases Nat.lt_or_ge a i with c | c
  ·have g:decide (((a:Nat):Int)<(i:Nat))=true:=decide_eq_true (by omega);refine nc zl (nc zl (nc zi (nc zl (nc (zl (p:=gb)) (nc (zl (p:=gb)) (nc (zi (r:=gb)) (nc zP ?_)))))));refine aC rfl (fun hc=>?_) (fun hc=>aK ?_)
   ·have hc:=of_decide_eq_true hc;have hr:=ih M a i mid (by omega) c (by omega) (by omega) (by omega) t1 t2;rw [hMl] at hr;refine v7 5 rfl rfl rfl rfl rfl rfl hr (by kernel_rfl) (fun σ=>by kernel_rfl) (fun σ=>by kernel_rfl) (fun σ=>rfl) (fun σ=>j5 (by kernel_rfl)) ?_;refine nc zl (nc zl (nc zl (nc zl (nc zl ?_))));refine ⟨rfl,⟨rfl,trivial⟩,fun σ hσ=>⟨by kernel_rfl,?_⟩⟩;exact ⟨σ,hσ,a7 ⟨rfl,rfl,rfl,rfl,rfl,rfl,rfl,rfl,rfl,trivial⟩⟩
   ·have hc:=of_decide_eq_false hc;exact ⟨M,⟨Mg.refl _ _ _,by rw [show mid=i by omega];exact t1⟩,a7 ⟨rfl,rfl,rfl,rfl,rfl,rfl,rfl,rfl,rfl,trivial⟩⟩
  ·have g:decide (((a:Nat):Int)<(i:Nat))=false:=decide_eq_false (by omega);refine nc zl (nc zl (nc zi (nc zl (nc zR (nc zR (nc zR (nc zS ?_)))))));refine aC rfl (fun hc=>?_) (fun hc=>aK ?_)
   ·cases hc
   ·exact ⟨M,⟨Mg.refl _ _ _,by rw [show a=i by omega];exact t2⟩,a7 ⟨rfl,rfl,rfl,rfl,rfl,rfl,rfl,rfl,rfl,trivial⟩⟩
 intro M2 hM2;obtain ⟨hg2,u1⟩:=hM2;have hMl2:M2.length=N:=hg2.len.trans hMl;have u2:srtB M2 mid e:=t3.same fun t k1 k2=>hg2.out t (by omega);have u3:srtB M2 e b:=t4.same fun t k1 k2=>hg2.out t (by omega);have u4:leB M2 a mid mid b:=t5.mg (by omega) (by omega) (.inl hg2);have fin:∀ σ,Mg mid b M2 σ->srtB σ mid b->b2k a b L σ:=fun σ g1 g2 =>
  ⟨(hg1.trans (hg2.mono (Nat.le_refl _) (by omega))).trans (g1.mono (by omega) (Nat.le_refl _)),(u1.same fun t k1 k2=>g1.out t (by omega)).glue g2 (u4.mg (by omega) (by omega) (.inr g1))⟩
 rw [hst3];refine aS (aR ?_);rcases Nat.lt_or_ge mid e with c | c
 ·have g:decide (((mid:Nat):Int)<(e:Nat))=true:=decide_eq_true (by omega);refine nc zl (nc zl (nc zi (nc zl (nc (zl (p:=gb)) (nc (zl (p:=gb)) (nc (zi (r:=gb)) (nc zP ?_)))))));refine aC rfl (fun hc=>?_) (fun hc=>aK ?_)
  ·have hc:=of_decide_eq_true hc;have hr:=ih M2 mid e b (by omega) c (by omega) (by omega) (by omega) u2 u3;rw [hMl2] at hr;refine v7 5 rfl rfl rfl rfl rfl rfl hr (by kernel_rfl) (fun σ=>by kernel_rfl) (fun σ=>by kernel_rfl) (fun σ=>rfl) (fun σ=>j5 (by kernel_rfl)) ?_;refine nc zl (nc zl (nc zl (nc zl (nc zl ?_))));refine ⟨rfl,⟨rfl,trivial⟩,fun σ hσ=>⟨by kernel_rfl,?_⟩⟩;exact ⟨.inl rfl,σ,fin σ hσ.1 hσ.2,_,Wk.refl _,rfl,rfl,trivial⟩
  ·have hc:=of_decide_eq_false hc;exact ⟨.inl rfl,M2,fin M2 (Mg.refl _ _ _) (by rw [show b=e by omega];exact u2),_,Wk.refl _,rfl,rfl,trivial⟩
 ·have g:decide (((mid:Nat):Int)<(e:Nat))=false:=decide_eq_false (by omega);refine nc zl (nc zl (nc zi (nc zl (nc zR (nc zR (nc zR (nc zS ?_)))))));refine aC rfl (fun hc=>?_) (fun hc=>aK ?_)
  ·cases hc
  ·exact ⟨.inl rfl,M2,fin M2 (Mg.refl _ _ _) (by rw [show mid=e by omega];exact u3),_,Wk.refl _,rfl,rfl,trivial⟩
structure SkI (L:List Bd) (a j e:Nat):Prop where
 oth:∀ p q x y,a<=p->p<q->q<e->p≠j->q≠j->L[p]?=some x->L[q]?=some y->x.v<=y.v
 beh:∀ q x y,j<q->q<e->L[j]?=some x->L[q]?=some y->x.v<=y.v
theorem a9v {cmp:Bd->Bd->Int} (hv:∀ x y,cmp x y<0↔x.v<y.v) {a e:Nat}:∀ (j:Nat) (L:List Bd),j<e->e<=L.length->SkI L a j e->Mg a e L (X2 (ltC cmp) a j L)/\srtB (X2 (ltC cmp) a j L) a e
 | 0,L,hj,he,h=>⟨Mg.refl _ _ _,fun p q x y k1 k2 k3 k4 k5=>by
   by_cases c:p=0
   ·subst c;exact h.beh q x y (by omega) k3 k4 k5
   ·exact h.oth p q x y k1 k2 k3 c (by omega) k4 k5⟩
 | j+1,L,hj,he,h=>by
  by_cases ha:a<j+1
  ·obtain ⟨x,hx⟩:=K0 (L:=L) (t:=j+1) (by omega);obtain ⟨y,hy⟩:=K0 (L:=L) (t:=j) (by omega);by_cases hlt:ltC cmp x y=true
   ·rw [a4P _ _ hx hy ha hlt];have hxy:x.v<y.v:=(hv x y).1 (of_decide_eq_true hlt);have hg:IsG ((L.set (j+1) y).set j x) L.length (rtG j (j+1) (j+1+1) fun t=>L[t]?):=c0t (Nat.le_refl _) (by omega) (b0u (Nat.le_refl _) (by omega) (.inl rfl)) hx hy;have hm:=(Mg.rt (by omega) (by omega) (by omega) hg).mono (c:=a) (d:=e) (by omega) (by omega);have e1:((L.set (j+1) y).set j x)[j]?=some x:=by rw [getElem?_set,if_pos rfl,if_pos (by rw [length_set];omega)]
    have e2:((L.set (j+1) y).set j x)[j+1]?=some y:=by rw [getElem?_set,if_neg (by omega),getElem?_set,if_pos rfl,if_pos (by omega)]
    have e3:∀ t,t≠j->t≠j+1->((L.set (j+1) y).set j x)[t]?=L[t]?:=fun t k1 k2=>by rw [getElem?_set,if_neg (by omega),getElem?_set,if_neg (by omega)]
    have hI:SkI ((L.set (j+1) y).set j x) a j e:=by
     refine ⟨fun p q x' y' k1 k2 k3 k4 k5 k6 k7=>?_,fun q x' y' k1 k2 k3 k4=>?_⟩
     ·by_cases c1:p=j+1
      ·subst c1;rw [e2] at k6;cases k6;rw [e3 q (by omega) (by omega)] at k7;exact h.oth j q _ y' (by omega) (by omega) k3 (by omega) (by omega) hy k7
      ·rw [e3 p k4 c1] at k6;by_cases c2:q=j+1
       ·subst c2;rw [e2] at k7;cases k7;exact h.oth p j x' _ k1 (by omega) (by omega) (by omega) (by omega) k6 hy
       ·rw [e3 q k5 c2] at k7;exact h.oth p q x' y' k1 k2 k3 c1 c2 k6 k7
     ·rw [e1] at k3;cases k3;by_cases c2:q=j+1
      ·subst c2;rw [e2] at k4;cases k4;omega
      ·rw [e3 q (by omega) c2] at k4;exact h.beh q _ y' (by omega) k2 hx k4
    obtain ⟨r1,r2⟩:=a9v hv j ((L.set (j+1) y).set j x) (by omega) (by rw [length_set,length_set];exact he) hI;exact ⟨hm.trans r1,r2⟩
   ·have hlt':ltC cmp x y=false:=by simpa using hlt
    rw [a7F _ _ hx hy hlt'];have hxy:¬ x.v<y.v:=fun c=>by
     have:=decide_eq_true ((hv x y).2 c);exact hlt this
    refine ⟨Mg.refl _ _ _,fun p q x' y' k1 k2 k3 k4 k5=>?_⟩;by_cases c1:p=j+1
    ·subst c1;exact h.beh q x' y' k2 k3 k4 k5
    ·by_cases c2:q=j+1
     ·subst c2;rw [hx] at k5;cases k5;by_cases c3:p=j
      ·subst c3;rw [hy] at k4;cases k4;omega
      ·have:=h.oth p j x' y k1 (by omega) (by omega) c1 (by omega) k4 hy;omega
     ·exact h.oth p q x' y' k1 k2 k3 c1 c2 k4 k5
  ·rw [a5Z _ _ ha];refine ⟨Mg.refl _ _ _,fun p q x' y' k1 k2 k3 k4 k5=>?_⟩;by_cases c1:p=j+1
   ·subst c1;exact h.beh q x' y' k2 k3 k4 k5
   ·exact h.oth p q x' y' k1 k2 k3 c1 (by omega) k4 k5
theorem a6v {cmp:Bd->Bd->Int} (hv:∀ x y,cmp x y<0↔x.v<y.v) {a:Nat}:∀ (n i:Nat) (L:List Bd),a<=i->i+n<=L.length->srtB L a i->Mg a (i+n) L (y5 (ltC cmp) a n i L)/\srtB (y5 (ltC cmp) a n i L) a (i+n)
 | 0,i,L,ha,he,h=>⟨Mg.refl _ _ _,h⟩
 | n+1,i,L,ha,he,h=>by
  have hs:=a9v hv (a:=a) (e:=i+1) i L (by omega) (by omega) ⟨fun p q x y k1 k2 k3 k4 k5 k6 k7=>h p q x y k1 k2 (by omega) k6 k7,fun q x y k1 k2 _ _=>by omega⟩;have hr:=a6v hv n (i+1) (X2 (ltC cmp) a i L) (by omega) (by rw [a4z];omega) hs.2;rw [show i+1+n=i+(n+1) by omega] at hr;exact ⟨(hs.1.mono (Nat.le_refl _) (by omega)).trans hr.1,hr.2⟩
theorem a7I {cmp:Bd->Bd->Int} (hv:∀ x y,cmp x y<0↔x.v<y.v) {a b:Nat} (L:List Bd) (hab:a<=b) (hb:b<=L.length):Mg a b L (y5 (ltC cmp) a (b-(a+1)) (a+1) L)/\srtB (y5 (ltC cmp) a (b-(a+1)) (a+1) L) a b:=by
 by_cases c:a+1<=b
 ·have h:=a6v hv (a:=a) (b-(a+1)) (a+1) L (by omega) (by omega) (fun p q x y _ _ _ _ _=>by omega);rw [show a+1+(b-(a+1))=b by omega] at h;exact h
 ·rw [show b-(a+1)=0 by omega];exact ⟨Mg.refl _ _ _,fun p q x y _ _ _ _ _=>by omega⟩
def blk (M:List Bd) (bs n a b:Nat):Prop:=∀ lo,bs∣lo->a<=lo->lo<b->srtB M lo (min (lo+bs) n)
theorem a1x {k x y:Nat} (hx:k∣x) (hy:k∣y) (h:x<y):x+k<=y:=by
 have:=Nat.le_of_dvd (by omega) (Nat.dvd_sub hy hx);omega
theorem blk.mg {M σ:List Bd} {bs n a b c d:Nat} (h:blk M bs n a b) (hm:Mg c d M σ) (hs:(bs∣c/\b<=c)\/d<=a):blk σ bs n a b:=fun lo k1 k2 k3=>by
 refine (h lo k1 k2 k3).same fun t h1 h2=>hm.out t ?_;rcases hs with ⟨s1,s2⟩ | s
 ·have:=a1x k1 s1 (by omega);omega
 ·omega
set_option maxHeartbeats 4000000 in
theorem a8s (cmp:Bd->Bd->Int) (fc:CV) (hcm:∀ W x y,N4 Tryz.prog W fc [x.cw,y.cw] (.val (.i (cmp x y)))) (hv:∀ x y,cmp x y<0↔x.v<y.v) (L:List Bd) (hl:L.length<=1000000):AFunE (Sg:=List Bd) Tryz.prog 153 (rwB L) [.sl 400000 0 L.length 3,.val (.i L.length),.val fc] (b2k 0 L.length L) (fun _ => .tup []) (fun σ=>rwB σ):=by
 refine J0 Tryz.func153 Tryz.ntmps153 rfl rfl rfl rfl rfl (fun σ=>rfl) ?_;intro w U hU;refine aS (aR ?_);refine nc ze ?_;refine aS (aR ?_);refine nc zl (nc ze (nc ze ?_));obtain ⟨N,hN⟩:∃ N,N=L.length:=⟨_,rfl⟩
 rw [<-hN] at hl |-;obtain ⟨st,hst⟩:∃ st:Nat->Nat->Nat->List Bd->AS,st=fun bs a b M=>(0,AV.sl 400000 0 N 3)::(1,.val (.i N))::(2,.val fc)::(6,.val (.i (bs:Nat)))::(7,.val (.i (a:Nat)))::(8,.val (.i (b:Nat)))::rwB M:=⟨_,rfl⟩
 refine aS (aB (n4 (fun k s=>∃ a M,k=N-a/\20∣a/\a<=N/\Mg 0 N L M/\blk M 20 N 0 a/\s=st 20 a (a+20) M) (n:=N-0) (s':=st 20 0 (0+20) L) (by rw [hst,hN];exact a7 ⟨rfl,rfl,rfl,rfl,rfl,rfl,rfl,trivial⟩) ⟨0,L,rfl,⟨0,rfl⟩,Nat.zero_le _,Mg.refl _ _ _,fun lo _ _ h=>by omega,rfl⟩ ?_));rintro k s ⟨a,M,rfl,hda,haN,hMg,hbl,rfl⟩;have hMl:M.length=N:=hMg.len.trans hN.symm;rw [hst];refine aS (aS (aR ?_));refine nc zl (nc zl (nc zA ?_));refine aC rfl (fun hc=>aK ?_) (fun hc=>aE ?_)
 ·have hlt:a+20<=N:=by have:=of_decide_eq_true hc;omega
  have hins:=a2p cmp fc M a (a+20) (by omega) (by omega) (by omega) hcm;rw [hMl] at hins;have hs:=a7I hv (a:=a) (b:=a+20) M (by omega) (by omega);obtain ⟨M',hM'⟩:∃ M',M'=y5 (ltC cmp) a (a+20-(a+1)) (a+1) M:=⟨_,rfl⟩
  rw [<-hM'] at hins hs;refine aB (aS (aR ?_));refine nc zl (nc zl (nc zl (nc zl (nc (z5 (z:=hins) (G:=j5 (by first | rfl | kernel_rfl))) ?_))));refine aS (aR ?_);refine nc zl (nc ze ?_);refine aR ?_;refine nc zl (nc zl (nc zu (nc ze ?_)));refine ⟨N-(a+20),st 20 (a+20) (a+20+20) M',by omega,⟨a+20,M',rfl,Nat.dvd_add hda ⟨1,rfl⟩,hlt,hMg.trans (hs.1.mono (Nat.zero_le _) hlt),fun lo k1 k2 k3=>?_,by rw [hst]⟩,by rw [hst];exact a7 ⟨rfl,rfl,rfl,rfl,rfl,rfl,rfl,trivial⟩⟩;by_cases c:lo<a
  ·exact (hbl.mg hs.1 (.inl ⟨hda,Nat.le_refl _⟩)) lo k1 k2 c
  ·have:lo=a:=by
    rcases Nat.lt_or_ge a lo with c2 | c2
    ·have:=a1x hda k1 c2;omega
    ·omega
   subst this;rw [Nat.min_eq_left hlt];exact hs.2
 ·have hge:N<a+20:=by have:=of_decide_eq_false hc;omega
  have hins:=a2p cmp fc M a N (by omega) (by omega) (by omega) hcm;rw [hMl] at hins;have hs:=a7I hv (a:=a) (b:=N) M haN (by omega);obtain ⟨M',hM'⟩:∃ M',M'=y5 (ltC cmp) a (N-(a+1)) (a+1) M:=⟨_,rfl⟩
  rw [<-hM'] at hins hs;refine aS (aR ?_);refine nc zl (nc zl (nc zl (nc zl (nc (z5 (z:=hins) (G:=j5 (by first | rfl | kernel_rfl))) ?_))));obtain ⟨st2,hst2⟩:∃ st:Nat->List Bd->AS,st=fun bs M=>(0,AV.sl 400000 0 N 3)::(1,.val (.i N))::(2,.val fc)::(6,.val (.i (bs:Nat)))::rwB M:=⟨_,rfl⟩
  have hb0:blk M' 20 N 0 N:=fun lo k1 k2 k3=>by
   by_cases c:lo<a
   ·exact (hbl.mg hs.1 (.inl ⟨hda,Nat.le_refl _⟩)) lo k1 k2 c
   ·have:lo=a:=by
     rcases Nat.lt_or_ge a lo with c2 | c2
     ·have:=a1x hda k1 c2;omega
     ·omega
    subst this;rw [Nat.min_eq_right (by omega)];exact hs.2
  refine aB (n4 (fun k s=>∃ bs M,k=2*N-bs/\0<bs/\(bs<=20\/bs<=2*N)/\Mg 0 N L M/\blk M bs N 0 N/\s=st2 bs M) (n:=2*N-20) (s':=st2 20 M') (by rw [hst2];exact a7 ⟨rfl,rfl,rfl,rfl,rfl,trivial⟩) ⟨20,M',rfl,by omega,.inl (Nat.le_refl _),hMg.trans (hs.1.mono (Nat.zero_le _) (Nat.le_refl _)),hb0,rfl⟩ ?_);clear hs hb0 hins hM' M' hMg hbl hMl M hge hc haN hda a;rintro k s ⟨bs,M,rfl,hbs,hbn,hMg,hbl,rfl⟩;rw [hst2];refine aS (aS (aR ?_));refine nc zl (nc zl (nc zi ?_));refine aC rfl (fun hc=>aK ?_) (fun hc=>aE ?_)
  ·have hlt:bs<N:=by have:=of_decide_eq_true hc;omega
   refine aB (aS (aR ?_));refine nc zl (nc zbt (nc ze (nc ze ?_)));refine aS (aB (n4 (fun k s=>∃ a M,k=N-a/\2*bs∣a/\a<=N/\Mg 0 N L M/\blk M (2*bs) N 0 a/\blk M bs N a N/\s=st bs a (a+2*bs) M) (n:=N-0) (s':=st bs 0 (0+2*bs) M) (by
    rw [hst];refine a7 ⟨rfl,rfl,rfl,rfl,rfl,?_,rfl,trivial⟩;rw [show ((0+2*bs:Nat):Int)=2*(bs:Int) by omega];rfl) ⟨0,M,rfl,⟨0,rfl⟩,Nat.zero_le _,hMg,fun lo _ _ h=>by omega,hbl,rfl⟩ ?_))
   clear hMg hbl M;rintro k s ⟨a,M,rfl,hda,haN,hMg,hbl,hbr,rfl⟩;have hMl:M.length=N:=hMg.len.trans hN.symm;have hda1:bs∣a:=Nat.dvd_trans ⟨2,by omega⟩ hda;rw [hst];refine aS (aS (aR ?_));refine nc zl (nc zl (nc zA ?_));refine aC rfl (fun hc=>aK ?_) (fun hc=>aE ?_)
   ·have hle:a+2*bs<=N:=by have:=of_decide_eq_true hc;omega
    have p1:=hbr a hda1 (Nat.le_refl _) (by omega);have p2:=hbr (a+bs) (Nat.dvd_add hda1 (Nat.dvd_refl _)) (by omega) (by omega);rw [Nat.min_eq_left (by omega)] at p1 p2;have hr:=a8O cmp fc hcm hv (a+2*bs-a) M a (a+bs) (a+2*bs) (Nat.le_refl _) (by omega) (by omega) (by omega) (by omega) p1 (by rw [show a+2*bs=a+bs+bs by omega];exact p2);rw [hMl] at hr;refine aB (aS (v7 7 rfl rfl rfl rfl rfl rfl hr (by kernel_rfl) (fun σ=>by kernel_rfl) (fun σ=>by kernel_rfl) (fun σ=>rfl) (fun σ=>j5 (by kernel_rfl)) ?_));refine nc zl (nc zl (nc zl (nc zl (nc zu (nc zl (nc zl ?_))))));refine ⟨rfl,⟨rfl,trivial⟩,fun σ hσ=>⟨by kernel_rfl,?_⟩⟩;refine aS (aR ?_);refine nc zl (nc ze ?_);refine aR ?_;refine nc zl (nc zl (nc zbt (nc zu (nc ze ?_))));refine ⟨N-(a+2*bs),st bs (a+2*bs) (a+2*bs+2*bs) σ,by omega,⟨a+2*bs,σ,rfl,Nat.dvd_add hda (Nat.dvd_refl _),hle,hMg.trans (hσ.1.mono (Nat.zero_le _) hle),fun lo k1 k2 k3=>?_,?_,by rw [hst]⟩,?_⟩
    ·by_cases c:lo<a
     ·exact (hbl.mg hσ.1 (.inl ⟨hda,Nat.le_refl _⟩)) lo k1 k2 c
     ·have:lo=a:=by
       rcases Nat.lt_or_ge a lo with c2 | c2
       ·have:=a1x hda k1 c2;omega
       ·omega
      subst this;rw [Nat.min_eq_left hle];exact hσ.2
    ·exact fun lo k1 k2 k3=>(hbr lo k1 (by omega) k3).same fun t h1 h2=>hσ.1.out t (by omega)
    ·rw [hst];exact a7 ⟨rfl,rfl,rfl,rfl,rfl,rfl,rfl,trivial⟩
   ·have hge:N<a+2*bs:=by have:=of_decide_eq_false hc;omega
    refine a4R (fun M2=>Mg 0 N L M2/\blk M2 (2*bs) N 0 N) (st2 bs) ?_ ?_
    ·have hfin:∀ σ,Mg a N M σ->srtB σ a N->Mg 0 N L σ/\blk σ (2*bs) N 0 N:=fun σ g1 g2 =>
      ⟨hMg.trans (g1.mono (Nat.zero_le _) (Nat.le_refl _)),fun lo k1 k2 k3=>by
       by_cases c:lo<a
       ·exact (hbl.mg g1 (.inl ⟨hda,Nat.le_refl _⟩)) lo k1 k2 c
       ·have:lo=a:=by
         rcases Nat.lt_or_ge a lo with c2 | c2
         ·have:=a1x hda k1 c2;omega
         ·omega
        subst this;rw [Nat.min_eq_right (by omega)];exact g2⟩
     refine aS (aR ?_);refine nc zl (nc zl (nc zu (nc ze ?_)));refine aS (aR ?_);refine nc zl (nc zl (nc zi ?_));refine aC rfl (fun hc=>?_) (fun hc=>aK ?_)
     ·have hm:a+bs<N:=by have:=of_decide_eq_true hc;omega
      have p1:=hbr a hda1 (Nat.le_refl _) (by omega);have p2:=hbr (a+bs) (Nat.dvd_add hda1 (Nat.dvd_refl _)) (by omega) (by omega);rw [Nat.min_eq_left (by omega)] at p1;rw [Nat.min_eq_right (by omega)] at p2;have hr:=a8O cmp fc hcm hv (N-a) M a (a+bs) N (Nat.le_refl _) (by omega) (by omega) (by omega) (by omega) p1 p2;rw [hMl] at hr;refine v7 5 rfl rfl rfl rfl rfl rfl hr (by kernel_rfl) (fun σ=>by kernel_rfl) (fun σ=>by kernel_rfl) (fun σ=>rfl) (fun σ=>j5 (by kernel_rfl)) ?_;refine nc zl (nc zl (nc zl (nc zl (nc zl ?_))));refine ⟨rfl,⟨rfl,trivial⟩,fun σ hσ=>⟨by kernel_rfl,?_⟩⟩;exact ⟨σ,hfin σ hσ.1 hσ.2,by rw [hst2];exact a7 ⟨rfl,rfl,rfl,rfl,rfl,trivial⟩⟩
     ·have hm:N<=a+bs:=by have:=of_decide_eq_false hc;omega
      refine ⟨M,hfin M (Mg.refl _ _ _) ?_,by rw [hst2];exact a7 ⟨rfl,rfl,rfl,rfl,rfl,trivial⟩⟩;by_cases c:a<N
      ·have p1:=hbr a hda1 (Nat.le_refl _) c;rw [Nat.min_eq_right hm] at p1;exact p1
      ·exact fun p q x y _ _ _ _ _=>by omega
    intro M2 hM2;rw [hst2];refine aR ?_;refine nc zl (nc zbt (nc ze ?_));refine ⟨2*N-bs*2,st2 (bs*2) M2,by omega,⟨bs*2,M2,rfl,by omega,.inr (by omega),hM2.1,by rw [Nat.mul_comm];exact hM2.2,by rw [hst2]⟩,by rw [hst2];exact a7 ⟨rfl,rfl,rfl,rfl,rfl,trivial⟩⟩
  ·have hge:N<=bs:=by have:=of_decide_eq_false hc;omega
   refine ⟨.inl rfl,M,⟨hMg,?_⟩,_,Wk.refl _,rfl,rfl,trivial⟩;by_cases c:0<N
   ·have:=hbl 0 ⟨0,rfl⟩ (Nat.le_refl _) c;rw [Nat.zero_add,Nat.min_eq_right hge] at this;exact this
   ·exact fun p q x y _ _ _ _ _=>by omega
theorem a2E (cmp:Bd->Bd->Int) (fc:CV) (hcm:∀ W x y,N4 Tryz.prog W fc [x.cw,y.cw] (.val (.i (cmp x y)))) (hv:∀ x y,cmp x y<0↔x.v<y.v) (L:List Bd) (hl:L.length<=1000000):AFunE (Sg:=List Bd) Tryz.prog 133 (rwB L) [.sl 400000 0 L.length 3,.val fc] (b2k 0 L.length L) (fun _ => .tup []) (fun σ=>rwB σ):=by
 refine J0 Tryz.func133 Tryz.ntmps133 rfl rfl rfl rfl rfl (fun σ=>rfl) ?_;intro w U hU;have hr:=a8s cmp fc hcm hv L hl;refine v7 4 rfl rfl rfl rfl rfl rfl hr (by kernel_rfl) (fun σ=>by kernel_rfl) (fun σ=>by kernel_rfl) (fun σ=>rfl) (fun σ=>j5 (by kernel_rfl)) ?_;refine nc zl (nc zl (nc zY (nc zl ?_)));refine ⟨rfl,⟨rfl,trivial⟩,fun σ hσ=>⟨by kernel_rfl,?_⟩⟩;exact ⟨.inl rfl,σ,hσ,_,Wk.refl _,rfl,rfl,trivial⟩
theorem AFunE.one {P:Program} {Sg:Type} {R:Sg->Prop} {r:Sg->AV} {post:Sg->AS} {f:FuncId} {pre:AS} {args:List AV} {σ0:Sg} (h:AFunE P f pre args R r post) (hone:∀ σ,R σ->σ=σ0):r7 P f pre args (r σ0) (post σ0):=
 ⟨h.1,fun U w hv a0 vs hU hp ha=>(h.2 U w hv a0 vs hU hp ha).mono fun e w' ⟨σ,k1,k2⟩=>by rw [hone σ k1] at k2;exact k2⟩
theorem c0D:∀ {A B:List Bd},A.Pairwise (fun x y=>x.v<y.v)->B.Pairwise (fun x y=>x.v<y.v)->(∀ x,x∈A↔x∈B)->A=B
 | [],[],_,_,_=>rfl
 | [],b::B,_,_,h=>by have:=(h b).2 mem_cons_self;cases this
 | a::A,[],_,_,h=>by have:=(h a).1 mem_cons_self;cases this
 | a::A,b::B,hA,hB,h=>by
  obtain ⟨a1,a2⟩:=List.pairwise_cons.1 hA;obtain ⟨b1,b2⟩:=List.pairwise_cons.1 hB;have e:a=b:=by
   rcases mem_cons.1 ((h a).1 mem_cons_self) with e | e
   ·exact e
   ·rcases mem_cons.1 ((h b).2 mem_cons_self) with e' | e'
    ·exact e'.symm
    ·have:=a1 b e';have:=b1 a e;omega
  subst e;rw [c0D a2 b2 fun x=>⟨fun hx=>?_,fun hx=>?_⟩]
  ·rcases mem_cons.1 ((h x).1 (List.mem_cons_of_mem _ hx)) with e | e
   ·have:=a1 x hx;rw [e] at this;omega
   ·exact e
  ·rcases mem_cons.1 ((h x).2 (List.mem_cons_of_mem _ hx)) with e | e
   ·have:=b1 x hx;rw [e] at this;omega
   ·exact e
theorem a9j {L σ:List Bd} (hd:(L.map Bd.v).Nodup) (h:b2k 0 L.length L σ):σ.Pairwise (fun x y=>x.v<y.v):=by
 have hp:=h.1.perm;have hn:(σ.map Bd.v).Nodup:=(hp.map Bd.v).nodup_iff.2 hd;rw [List.pairwise_iff_getElem];intro i j hi hj hij;have h1:=h.2 i j σ[i] σ[j] (Nat.zero_le _) hij (by rw [<-h.1.len];exact hj) (List.getElem?_eq_getElem hi) (List.getElem?_eq_getElem hj);have h2:=(List.pairwise_iff_getElem.1 hn) i j (by simpa using hi) (by simpa using hj) hij;simp only [List.getElem_map] at h2;omega
theorem b2R (x y:Bd):a9S x y<0↔x.v<y.v:=by
 unfold a9S J5;split
 ·simp_all
 ·split<;>simp_all<;>omega
theorem b5A {L σ:List Bd} (hd:(L.map Bd.v).Nodup) (h:b2k 0 L.length L σ):σ=N1 L:=by
 have hs:=a7I b2R (a:=0) (b:=L.length) L (Nat.zero_le _) (Nat.le_refl _);rw [Nat.zero_add] at hs;refine c0D (a9j hd h) (a9j hd hs) fun x=>?_;rw [h.1.perm.mem_iff];exact hs.1.perm.mem_iff.symm
theorem b3H (W:World) (L:List Bd) (hl:L.length<=1000000) (hd:(L.map Bd.v).Nodup) (hb:bdsOk L):AFun Tryz.prog W 74 [.lst (L.map Bd.cv)] (.val (.lst ((x7 L).map Bd.cv))):=
 b3N W L hl hb (a8u L hl ((a2E a9S (.sc (.func (.func 134) #[] #[])) (fun W x y => .inr ⟨_,rfl,b6K W x y⟩) b2R L hl).one fun σ hσ=>b5A hd hσ))
theorem c1x {c:Cl} {H r:Nat->Nat} {E} (h:ClsC c H r E) (hv:S9 c.vr):c.vr.length<=c.ns.length:=by
 have hn:(c.vr.map Prod.snd).Nodup:=by
  have h1:c.vr.Pairwise (fun a b=>a.1≠b.1):=List.pairwise_map.1 hv.1;refine List.pairwise_map.2 (List.Pairwise.imp_of_mem (fun {a b} ha hb hab e=>hab ?_) h1);have e1:=(h.vrt a.1 a.2 (P3 hv.1 ha)).2;have e2:=(h.vrt b.1 b.2 (P3 hv.1 hb)).2;rw [e] at e1;omega
 have:=a4m c.ns.length hn (fun x hx=>by
  obtain ⟨p,hp,rfl⟩:=mem_map.1 hx;exact (h.vrt p.1 p.2 (P3 hv.1 hp)).1)
 simpa using this
def ToldU (l:List (Tm×Tm)) (r:List Bd×Bool):Prop:=(r.2=false/\r.1=[]/\∀ τ,¬ uni τ l)\/(r.2=true/\∃ s:List Bd,Mgu (c9 s) l/\(∀ b∈s,0<=b.v)/\(∀ v,0<=v->c9 s v=l9 v\/((c9 s v).rng/\(c9 s v).size<=90000000000))/\r.1=x7 s)
theorem ToldU.no {l:List (Tm×Tm)} {r:List Bd×Bool} (h:ToldU l r) (hn:∀ τ,¬ uni τ l):r=([],false):=by
 rcases h with ⟨h1,h2,_⟩ | ⟨_,s,hs,_⟩
 ·cases r;simp_all
 ·exact absurd hs.uni (hn _)
theorem ToldU.yes {l:List (Tm×Tm)} {r:List Bd×Bool} (h:ToldU l r) {u:List Bd} (hu:Mgu (c9 u) l) (hu0:∀ b∈u,0<=b.v):r=(x7 u,true)/\∀ v,0<=v->c9 u v=l9 v\/((c9 u v).rng/\(c9 u v).size<=90000000000):=by
 rcases h with ⟨_,_,h3⟩ | ⟨h1,s,hs,h0,hb,h2⟩
 ·exact absurd hu.uni (h3 _)
 ·refine ⟨?_,fun v hv=>by rw [hs.one hu hv];exact hb v hv⟩;rw [<-b5O h0 hu0 hs hu,<-h2,<-h1]
theorem b4B {l:List (Tm×Tm)} {r:List Bd×Bool} (h:ToldU l r) {vr vr':List (Int×Nat)} (hv:S9 vr) (hvb:∀ p∈vr,p.1<=9223372036854775807) (hp:vr'.Perm vr) {g:Nat->Tm} {u:List Bd} (hu:u=vr'.map fun p=>(⟨p.1,g p.2⟩:Bd)) (hm:∀ s:List Bd,(∀ v,b7 s v=(o7 vr v).map g)->Mgu (c9 s) l):r=(x7 u,true)/\(u.map Bd.v).Nodup/\bdsOk u:=by
 have hf:∀ v,b7 u v=(o7 vr v).map g:=fun v=>by rw [hu];exact b1r hv.1 hp g v
 have hu0:∀ b∈u,0<=b.v:=fun b hb=>by
  rw [hu] at hb;obtain ⟨p,hp2,rfl⟩:=mem_map.1 hb;exact hv.2 p (hp.mem_iff.1 hp2)
 obtain ⟨h1,h2⟩:=h.yes (hm u hf) hu0;refine ⟨h1,?_,fun b hb=>?_⟩
 ·rw [hu,List.map_map];exact (hp.map Prod.fst).nodup_iff.2 hv.1
 ·have h3:=h2 b.v (hu0 b hb);have e:c9 u b.v=b.t:=by
   unfold c9;rw [hf];rw [hu] at hb;obtain ⟨p,hp2,rfl⟩:=mem_map.1 hb;show ((o7 vr p.1).map g).getD _=_;rw [P3 hv.1 (hp.mem_iff.1 hp2)];rfl
  rw [e] at h3;rcases h3 with h3 | h3
  ·rw [h3];have hb1:b.v<=9223372036854775807:=by
    rw [hu] at hb;obtain ⟨p,hp2,rfl⟩:=mem_map.1 hb;exact hvb p (hp.mem_iff.1 hp2)
   have hb0:=hu0 b hb;exact ⟨a9V (by omega) (by omega),by rw [Tm.size_var (by rw [r8];omega)];decide⟩
  ·exact h3
set_option maxHeartbeats 2000000 in
theorem a3C (W:World) (l:List (Tm×Tm)) (hl:∀ p∈l,(p.1.rng/\p.1.ok)/\(p.2.rng/\p.2.ok)) (hpl:b1p l<=1000) (r:List Bd×Bool) (hT:ToldU l r):AFun Tryz.prog W 49 [.lst (l.map prv)] (.tup [.lst (r.1.map Bd.cv),.b r.2]):=by
 obtain ⟨k,j,e1,f1,f2⟩:=b0p l;have hj:=e1 k (Nat.le_refl _);have hja:=a6M k l j hj hl hpl;refine b9 (rs:=[.lst (r.1.map Bd.cv),.b r.2]) Tryz.func49 Tryz.ntmps49 rfl rfl rfl rfl ?_;intro w U hW;refine aS (aR ?_);refine nc ze (nc ze ?_);refine aS (aR ?_);refine nc (z5 (z:=b6u) (G:=fun k v h=>by first | (rw [hW.1] at h;cases h) | (have h2:=hU k v h;cases h2))) ?_;refine nc ze ?_;refine aS (aS (aR ?_));refine nc zl (nc zl (nc (z5 (z:=hja) (G:=j5 (by first | rfl | kernel_rfl))) (nc z0 ?_)));cases hj2:j.2 with
 | false =>
  rw [hT.no (f1 hj2)];refine aC rfl (fun hc=>?_) (fun hc=>by cases hc);refine aS (aR ?_);refine nc ze (nc ze ?_);exact aT (And.intro (.inr rfl) rfl)
 | true =>
  obtain ⟨cn,od,H,r',e2,g1,g2,g3,ki,hcn,n1,n2⟩:=f2 hj2;obtain ⟨e3,e4⟩:=e2 k (Nat.le_refl _);obtain ⟨E',hI⟩:=a0K l hj (E:=[]) ⟨⟨id,id,Cls.nil,by show 0+i7 _ 0<=_;simp [i7]⟩,(fun x hx=>by cases hx),by show i7 _ 0<=_;simp [i7]⟩ rfl hl (by show i7 _ 0+_<=_;simpa [i7] using hpl) hj2;have hF:=hI.fitU;have hu0:usB j.1.ns 0:=fun m=>by rw [b1v hj];exact ⟨Int.le_refl _,Int.le_refl _⟩
  obtain ⟨hF1,hu1,hh1,hhl⟩:=M9 k 0 e3 hF (by simpa using hu0) (by omega) (fun h hm=>by cases hm) (Nat.le_refl _);have hF2:=a9L k 0 e4 hF1 (fun h hm=>hh1 h (List.mem_filter.1 hm).1) (by decide) hu1;have hnsl:od.1.ns.length<=1000:=Nat.le_trans (D4 _) hF2.big;have hod:∀ x∈od.2,x<od.1.ns.length:=fun x hx=>(ki.hd x hx).1;have hol:od.2.length<=1000:=Nat.le_trans (a4m _ ki.nd hod) hnsl;have hor:=b5z k j.1 cn od e3 e4 hF hu0 hol;have hvr:S9 od.1.vr:=b7m k 0 e4 (a4C k 0 e3 (b7l hj ⟨List.nodup_nil,fun p hp=>by cases hp⟩));have hvl:=c1x g1 hvr;have hvb:∀ p∈od.1.vr,p.1<=9223372036854775807:=fun p hp=>by
   obtain ⟨v1,v2⟩:=g1.vrt p.1 p.2 (P3 hvr.1 hp);have v3:=((Tm.rng_iff _).1 ((Y9 _).1 hF2.trm p.2 v1).1).1;omega
  refine aC rfl (fun hc=>by cases hc) (fun hc=>aK ?_);by_cases h:od.2.length=cn.2.length
  ·have h9:decide ((od.2.length:Int)=cn.2.length)=true:=by rw [h];simp
   rw [h9] at hor;obtain ⟨k1,tm,e5,c1,c5,c2,hm⟩:=n2 h;have hFq:=(TI.all (t:=(od.1,List.replicate od.1.ns.length tm0)) (N:=od.1.ns.length) ⟨hF2,by simp,Nat.le_refl _⟩ (fun n hn=>hod n (List.mem_reverse.1 hn)) (e5 k1 (Nat.le_refl _))).1.fit;have hbi:=b3T k1 od.1 od.2 tm (e5 k1 (Nat.le_refl _)) hF2 c2 hod hol c1 hFq (by rw [c5];exact hvr) (by rw [c5];omega);refine aS (aR ?_);refine nc zl (nc (z5 (z:=hor) (G:=j5 (by first | rfl | kernel_rfl))) (nc zl (nc zx (nc zx (nc ze (nc ze ?_))))));refine aS (aS (aR ?_));refine nc zl (nc z0 ?_);refine aC rfl (fun hc=>by cases hc) (fun hc=>aK ?_);refine aS (v7 2 rfl rfl rfl rfl rfl rfl hbi (by kernel_rfl) (fun σ=>by kernel_rfl) (fun σ=>by kernel_rfl) (fun σ=>rfl) (fun σ=>j5 (by kernel_rfl)) ?_);refine nc zl (nc zl ?_);refine ⟨rfl,⟨rfl,rfl,rfl,rfl,rfl,rfl,rfl,trivial⟩,fun σ hσ=>⟨by kernel_rfl,?_⟩⟩;obtain ⟨vr',hp,hσ1⟩:=hσ;rw [c5] at hp;obtain ⟨t1,t2,t3⟩:=b4B hT hvr hvb hp hσ1 hm;have hsl:σ.1.length<=1000000:=by rw [hσ1,length_map,hp.length_eq];omega
   refine nc (zw (z:=b3H _ σ.1 hsl t2 t3)) (nc ze (nc ze ?_));rw [t1];exact aT (And.intro (.inr rfl) rfl)
  ·have h9:decide ((od.2.length:Int)=cn.2.length)=false:=by
    rw [decide_eq_false_iff_not];omega
   rw [h9] at hor;rw [hT.no (n1 h)];refine aS (aR ?_);refine nc zl (nc (z5 (z:=hor) (G:=j5 (by first | rfl | kernel_rfl))) (nc zl (nc zx (nc zx (nc ze (nc ze ?_))))));refine aS (aS (aR ?_));refine nc zl (nc z0 ?_);refine aC rfl (fun hc=>?_) (fun hc=>by cases hc);refine aS (aR ?_);refine nc ze (nc ze ?_);exact aT (And.intro (.inr rfl) rfl)
set_option maxHeartbeats 2000000 in
theorem b0U (W:World) (a b:Tm) (ha:a.rng) (hao:a.ok) (hb:b.rng) (hbo:b.ok) (hs:a.size+b.size<=1000) (r:List Bd×Bool) (hT:ToldU [(a,b)] r):AFun Tryz.prog W 27 [a.cw,b.cw] (.tup [.lst (r.1.map Bd.cv),.b r.2]):=by
 have hl:∀ p∈[(a,b)],(p.1.rng/\p.1.ok)/\(p.2.rng/\p.2.ok):=fun p hp=>by
  rw [List.mem_singleton] at hp;rw [hp];exact ⟨⟨ha,hao⟩,hb,hbo⟩
 have hpl:b1p [(a,b)]<=1000:=by unfold b1p;simpa using hs
 have hpa:=a3C W [(a,b)] hl hpl r hT;refine b9 (rs:=[.lst (r.1.map Bd.cv),.b r.2]) Tryz.func27 Tryz.ntmps27 rfl rfl rfl rfl ?_;intro w U hW;refine aS (aR ?_);refine nc zd (nc zd (nc ze (nc ze ?_)));refine aS (aR ?_);refine nc zy (nc zy (nc (zbb [2,2]) (nc zD (nc (zw (z:=a3C _ [(a,b)] hl hpl r hT)) (nc zx (nc zx (nc ze (nc ze ?_))))))));exact aT (And.intro (.inr rfl) rfl)
theorem a2e:∀ E:Nat,2 ^ E<=3 ^ E
 | 0=>Nat.le_refl _
 | E+1=>by
  have:=a2e E;rw [Nat.pow_succ,Nat.pow_succ];omega
theorem a2r:∀ k:Nat,k*2 ^ k<=3 ^ k
 | 0=>by decide
 | 1=>by decide
 | 2=>by decide
 | k+3=>by
  have h:=a2r (k+2);have e1:(k+3)*2 ^ (k+3)=(2*(k+3))*2 ^ (k+2):=by
   rw [Nat.pow_succ 2 (k+2),Nat.mul_comm (2 ^ (k+2)) 2,<-Nat.mul_assoc,Nat.mul_comm (k+3) 2]
  have e2:3 ^ (k+3)=3*3 ^ (k+2):=by rw [Nat.pow_succ 3 (k+2),Nat.mul_comm]
  rw [e1,e2];have h2:(2*(k+3))*2 ^ (k+2)<=(3*(k+2))*2 ^ (k+2):=Nat.mul_le_mul_right _ (by omega);rw [Nat.mul_assoc 3] at h2;omega
def Big (E s:Nat):Prop:=2 ^ E*(s+1)<=2*3 ^ E
theorem Big.succ {E s:Nat} (h:Big E s):Big (E+1) s:=by
 unfold Big at *;rw [Nat.pow_succ,Nat.pow_succ,Nat.mul_assoc,Nat.mul_left_comm];omega
theorem Big.up {E F s:Nat} (h:Big E s) (hf:E<=F):Big F s:=by
 induction hf with
 | refl=>exact h
 | step _ ih=>exact ih.succ
theorem Big.sum {E:Nat}:∀ (l:List Nat),(∀ s∈l,Big E s)->2 ^ E*(l.sum+l.length)<=2*l.length*3 ^ E
 | [],_=>by simp
 | s::l,h=>by
  have h1:2 ^ E*(s+1)<=2*3 ^ E:=h s (by simp);have h2:=Big.sum l fun x hx=>h x (List.mem_cons_of_mem _ hx);rw [List.sum_cons,List.length_cons,show s+l.sum+(l.length+1)=(s+1)+(l.sum+l.length) by omega,Nat.mul_add,show 2*(l.length+1)*3 ^ E=2*3 ^ E+2*l.length*3 ^ E by rw [Nat.mul_add,Nat.add_mul,Nat.add_comm]];omega
theorem Big.node {E:Nat} (l:List Nat) (h:∀ s∈l,Big E s):Big (E+l.length) (1+l.sum):=by
 have h1:=Big.sum l h;have h23:=a2e E;have hk:=a2r l.length;unfold Big;rw [Nat.pow_add,Nat.pow_add];obtain ⟨A,hA⟩:∃ A,A=2 ^ E:=⟨_,rfl⟩
 obtain ⟨B,hB⟩:∃ B,B=3 ^ E:=⟨_,rfl⟩
 rw [<-hA,<-hB] at h1 h23 |-
 match l,h1,hk with
 | [],h1,hk=>simp;omega
 | [s],h1,hk =>
  simp only [List.sum_cons,List.sum_nil,List.length_cons,List.length_nil,Nat.add_zero,Nat.zero_add,Nat.pow_one,Nat.mul_one] at h1 |-;rw [Nat.mul_comm A 2,Nat.mul_assoc,show A*(1+s+1)=A*(s+1)+A by rw [show 1+s+1=(s+1)+1 by omega,Nat.mul_add,Nat.mul_one]];omega
 | s::t::l,h1,hk =>
  obtain ⟨m,hm⟩:∃ m,m=s::t::l:=⟨_,rfl⟩
  have hlen:2<=m.length:=by rw [hm];simp
  rw [<-hm] at h1 hk |-;obtain ⟨P,hP⟩:∃ P,P=2 ^ m.length:=⟨_,rfl⟩
  obtain ⟨Q,hQ⟩:∃ Q,Q=3 ^ m.length:=⟨_,rfl⟩
  rw [<-hP,<-hQ] at hk;rw [<-hP,<-hQ];have h2:A*(1+m.sum+1)<=A*(m.sum+m.length):=Nat.mul_le_mul_left _ (by omega);have h3:A*(1+m.sum+1)<=2*m.length*B:=Nat.le_trans h2 h1;have h4:P*(A*(1+m.sum+1))<=P*(2*m.length*B):=Nat.mul_le_mul_left _ h3;have h5:P*(2*m.length*B)=2*(m.length*P*B):=by
   rw [Nat.mul_assoc 2,Nat.mul_left_comm P 2,<-Nat.mul_assoc P,Nat.mul_comm P m.length]
  have h6:m.length*P*B<=Q*B:=Nat.mul_le_mul_right _ hk;rw [show A*P*(1+m.sum+1)=P*(A*(1+m.sum+1)) by rw [Nat.mul_comm A P,Nat.mul_assoc],Nat.mul_comm B Q];omega
theorem b4U {g:Int->Int} {t:Tm} (hg:∀ v∈t.vs,0<=g v):(a8 (fun v=>l9 (g v)) t).size=t.size:=by
 induction t using Tm.ind with
 | h f l ih =>
  by_cases hf:f<0
  ·have h1:=hg (-1-f) (by rw [Tm.vs_var (t:=⟨f,l⟩) hf];simp);rw [i8 (t:=⟨f,l⟩) hf,r9,Tm.size_var (t:=⟨f,l⟩) hf];exact Tm.size_var (by rw [r8];show -1-g (-1-f)<0;omega)
  ·rw [Tm.vs_sym (t:=⟨f,l⟩) hf] at hg;rw [b8 (t:=⟨f,l⟩) hf,Tm.size_sym (t:=⟨f,l⟩) hf,Tm.size_sym (t:=⟨f,_⟩) hf,List.map_map];congr 2;exact List.map_congr_left fun t ht=>ih t ht fun v hv=>hg v (List.mem_flatMap.2 ⟨t,ht,hv⟩)
def c4I (k v:Int):Tm:=l9 (if v<k then v else v-k)
theorem b3a {s:List Bd} {E:List (Tm×Tm)} (h:Mgu (c9 s) E) {t:Tm} {u:Int} (hu:u∈(a8 (c9 s) t).vs):b7 (x7 s) u=none:=by
 have hu0:=n9 _ u hu;rw [b4L s hu0,h.rep_vs hu,if_pos];show (decide ((l9 u).f<0)&&decide (-1-(l9 u).f=u))=true;rw [r8,decide_eq_true (by omega),decide_eq_true (by omega)];rfl
end Go.Proofs.YtglmoficcjphaaaGreat
