/-
 SbNorm SbNorm2 SbSortM SbLaw3 SbThen UnMath UnCls UnInv UnMod UnJoin UnRun UnKahn UnUse UnCount UnOrd UnEnd
-/
import Derived.Test.YteegmcfobgpemaaGreatMg4
namespace Go.Proofs.YteegmcfobgpemaaGreat
open List (append_assoc append_nil cons_append count_append filter_append filter_cons flatMap_cons flatMap_nil getD_eq_getElem?_getD getElem?_append_left getElem?_append_right getElem?_eq_getElem getElem?_eq_none getElem?_of_mem getElem?_set_ne getElem?_take length_append length_cons length_map length_nil length_set length_singleton map_append map_congr_left map_cons map_map map_nil map_take mem_append mem_append_left mem_cons mem_cons_of_mem mem_filter mem_flatMap mem_map mem_of_getElem? mem_range mem_reverse mem_singleton nodup_cons sum_cons take_length)
open Go.RowKit
set_option linter.unusedVariables false
set_option linter.unusedSimpArgs false
set_option maxRecDepth 100000
def Bd.zero:Bd:=⟨0,⟨0,[]⟩⟩
def G6 (q:Bd->Bd->Bool) (L:List Bd):Nat->List Bd
 | 0=>[]
 | m+1=>match L[m]?,(match m with | 0=>none | k+1=>L[k]?) with
  | some x,some y=>if q x y then G6 q L m else G6 q L m++[x]
  | some x,none=>G6 q L m++[x]
  | none,_=>G6 q L m
theorem a0Z {q:Bd->Bd->Bool} {L:List Bd} {m:Nat} {x y:Bd} (hx:L[m+1]?=some x) (hy:L[m]?=some y) (h:q x y=true):G6 q L (m+2)=G6 q L (m+1):=by
 rw [G6];simp only [hx,hy,h,if_true]
theorem a3n {q:Bd->Bd->Bool} {L:List Bd} {m:Nat} {x y:Bd} (hx:L[m+1]?=some x) (hy:L[m]?=some y) (h:q x y=false):G6 q L (m+2)=G6 q L (m+1)++[x]:=by
 rw [G6];simp [hx,hy,h]
theorem a9o {q:Bd->Bd->Bool} {L:List Bd}:G6 q L 1=L.take 1:=by
 rw [G6];cases L with
 | nil=>rfl
 | cons x l=>simp [G6]
theorem J1 {α:Type} {l:List α} {k:Nat} {x:α} (h:l[k]?=some x):l.take (k+1)=l.take k++[x]:=by
 rw [List.take_add_one,h];rfl
theorem b0p {α:Type} {l:List α} {k:Nat} {x:α} (h:k<l.length):(l.set k x).take (k+1)=l.take k++[x]:=by
 rw [J1 (x:=x) (by simp [h]),List.take_set_of_le (Nat.le_refl _)]
theorem a8x (q:Bd->Bd->Bool) (fc:CV) (L:List Bd) (hn:L.length<=1000000000) (hc:∀ W x y,P7 Tryz.prog W fc [x.cw,y.cw] (.val (.b (q x y)))) :
  r5 Tryz.prog 179 [(400000,.mrow 112 3 (L.map Bd.cv))] [.sl 400000 0 L.length 3,.val fc] (.sl 400000 0 (G6 q L L.length).length 3) [(400000,.mrow 112 3 ((G6 q L L.length++List.replicate (L.length-(G6 q L L.length).length) Bd.zero).map Bd.cv))]:=by
 refine l6 Tryz.func179 Tryz.ntmps179 rfl rfl rfl rfl rfl rfl ?_;intro w U hU;have oG:G6 q L L.length=L->(G6 q L L.length).length=L.length/\(G6 q L L.length++List.replicate (L.length-(G6 q L L.length).length) Bd.zero)=L:=fun h=>by rw [h];simp
 refine aS (aR ?_);refine nc ze ?_;refine aS (aS (aR ?_));refine nc zl (nc zX (nc zi ?_));refine aC rfl (fun h2=>?_) (fun h2=>?_)
 ·have h2:L.length<2:=by have h2:decide ((L.length:Int)<2)=true:=h2;simp at h2;omega
  have hw:=oG (by
   match L,h2 with
   | [],_=>rfl
   | [x],_=>rfl)
  refine aS (aR ?_);refine nc zl (nc ze ?_);refine aT ⟨.inr rfl,_,Wk.refl _,?_,?_,trivial⟩
  ·rw [hw.1];rfl
  ·rw [hw.2];rfl
 ·have h2:2<=L.length:=by have h2:decide ((L.length:Int)<2)=false:=h2;simp at h2;omega
  refine aK ?_;refine aS (aS (aR ?_));refine nc ze ?_
  let st:Nat->AS:=fun k=>[(0,.sl 400000 0 L.length 3),(1,.val fc),(5,.val (.i ((k+1:Nat):Int))),(400000,.mrow 112 3 (L.map Bd.cv))]
  refine aB (C0 L.length (fun k=>k+1<=L.length/\G6 q L (k+1)=L.take (k+1)) st (a7 ⟨rfl,rfl,rfl,rfl,trivial⟩) ⟨by omega,a9o⟩ ?_);rintro k hk ⟨fE,hI⟩;refine aS (aS (aR ?_));refine nc zl (nc zl (nc zX (nc zi ?_)));refine aC rfl (fun kA=>?_) (fun kA=>?_)
  ·have kF:k+1<L.length:=by have h3:decide ((((k+1:Nat):Int))<(L.length:Int))=true:=kA;simp at h3;omega
   obtain ⟨x,hx⟩:∃ x,L[k+1]?=some x:=⟨L[k+1],getElem?_eq_getElem kF⟩
   obtain ⟨y,hy⟩:∃ y,L[k]?=some y:=⟨L[k]'(by omega),getElem?_eq_getElem (by omega)⟩
   have kS:=Bd.map_at hx;have eM:=Bd.map_at hy;refine aK ?_;refine aS (aB (aS (aD (by kernel_rfl) (by kernel_rfl) ?_)));refine nc zl (nc zl (nc zl (nc (zO (k:=k+1)) (nc (zP (G:=kS)) (nc zl (nc zl (nc zB (nc (zO (k:=k)) (nc (zP (G:=eM)) (nc (zQ (E:=hc _ x y)) ?_))))))))));refine ⟨by kernel_rfl,?_⟩;refine aC rfl (fun hq=>?_) (fun hq=>?_)
   ·have hq:q x y=true:=hq;refine AWp.wk (a7 (s':=st k) ⟨rfl,rfl,rfl,rfl,trivial⟩) ?_;refine aS (aR ?_);refine nc zl (nc zl (nc (zY (j:=k+1)) (nc ze ?_)));refine aS (aS (aR ?_));refine nc ze ?_
    let st2:Nat->Nat->List Bd->AS:=fun j kk C=>[(0,.sl 400000 0 L.length 3),(1,.val fc),(5,.val (.i kk)),(6,.sl 400000 (0+(k+1)) (L.length-(k+1)) 3),(7,.val (.i ((j+1:Nat):Int))),(400000,.mrow 112 3 (C.map Bd.cv))]
    have h0:G6 q L (k+2)=L.take (k+1):=by rw [a0Z hx hy hq,hI]
    refine aB (t9 (fun m s=>∃ j kk C,m=L.length-j/\k+1+(j+1)<=L.length/\kk<=k+1+j/\C.length=L.length/\C.take kk=G6 q L (k+1+(j+1))/\(∀ i,k+1+j<=i->C[i]?=L[i]?)/\s=st2 j kk C) (s':=st2 0 (k+1) L) (a7 ⟨rfl,rfl,rfl,rfl,rfl,rfl,trivial⟩) ⟨0,k+1,L,rfl,by omega,by omega,rfl,h0.symm,fun _ _=>rfl,rfl⟩ ?_);rintro m s ⟨j,kk,C,hm,hj1,iF,hC,iD,fG,rfl⟩;refine aS (aS (aR ?_));refine nc zl (nc zl (nc zX (nc zi ?_)));refine aC rfl (fun fT=>?_) (fun fT=>?_)
    ·have gJ:k+1+(j+1)<L.length:=by have h3:decide ((((j+1:Nat):Int))<((L.length-(k+1):Nat):Int))=true:=fT;simp at h3;omega
     obtain ⟨x2,jA⟩:∃ x,L[k+1+(j+1)]?=some x:=⟨L[k+1+(j+1)],getElem?_eq_getElem gJ⟩
     obtain ⟨y2,iE⟩:∃ y,L[k+1+j]?=some y:=⟨L[k+1+j]'(by omega),getElem?_eq_getElem (by omega)⟩
     have oH:=Bd.map_at ((fG _ (by omega)).trans jA);have sJ:=Bd.map_at ((fG _ (by omega)).trans iE);refine aK ?_;refine aS (aB (aS (aD (by kernel_rfl) (by kernel_rfl) ?_)));refine nc zl (nc zl (nc zl (nc (zO (k:=k+1+(j+1))) (nc (zP (G:=oH)) (nc zl (nc zl (nc zB (nc (zO (k:=k+1+j)) (nc (zP (G:=sJ)) (nc (zQ (E:=hc _ x2 y2)) (nc zZ ?_)))))))))));refine ⟨by kernel_rfl,?_⟩;refine aC rfl (fun fH=>?_) (fun fH=>?_)
     ·have fH:q x2 y2=false:=by simpa using fH
      refine AWp.wk (a7 (s':=st2 j kk C) ⟨rfl,rfl,rfl,rfl,rfl,rfl,trivial⟩) ?_;obtain ⟨z2,dY⟩:∃ z,C[kk]?=some z:=⟨C[kk]'(by omega),getElem?_eq_getElem (by omega)⟩
      have hz2':=Bd.map_at dY;refine aS (aR ?_);refine nc zl (nc zl (nc zl (nc zl (nc (zO (k:=k+1+(j+1))) (nc (zP (G:=oH)) (nc (zO (k:=kk)) (nc (zR (F:=hz2')) ?_)))))));refine aR ?_;refine nc zl (nc zA (nc ze ?_));refine aR ?_;refine nc zl (nc zA (nc ze ?_));refine ⟨L.length-(j+1),st2 (j+1) (kk+1) (C.set kk x2),by omega,⟨j+1,kk+1,C.set kk x2,rfl,by omega,by omega,by simp [hC],?_,fun i hi=>?_,rfl⟩,a7 ⟨rfl,rfl,rfl,rfl,rfl,?_,trivial⟩⟩
      ·rw [b0p (by omega),iD,show k+1+(j+1+1)=(k+1+j)+2 by omega,a3n (m:=k+1+j) jA iE fH];rfl
      ·rw [getElem?_set_ne (by omega)];exact fG i (by omega)
      ·show some (AV.mrow _ _ _)=some (AV.mrow _ _ _);rw [M1]
     ·have fH:q x2 y2=true:=by simpa using fH
      refine aK ?_;refine AWp.wk (a7 (s':=st2 j kk C) ⟨rfl,rfl,rfl,rfl,rfl,rfl,trivial⟩) ?_;refine aR ?_;refine nc zl (nc zA (nc ze ?_));refine ⟨L.length-(j+1),st2 (j+1) kk C,by omega,⟨j+1,kk,C,rfl,by omega,by omega,hC,?_,fun i hi=>fG i (by omega),rfl⟩,a7 ⟨rfl,rfl,rfl,rfl,rfl,rfl,trivial⟩⟩;rw [iD,show k+1+(j+1+1)=(k+1+j)+2 by omega,a0Z (m:=k+1+j) jA iE fH];rfl
    ·have gJ:k+1+(j+1)=L.length:=by have h3:decide ((((j+1:Nat):Int))<((L.length-(k+1):Nat):Int))=false:=fT;simp at h3;omega
     refine aE ?_;refine AWp.wk (a7 (s':=st2 j kk C) ⟨rfl,rfl,rfl,rfl,rfl,rfl,trivial⟩) ?_;refine aS (aR ?_);refine nc zl (nc zl (nc (zY (j:=kk)) (nc z0 ?_)));refine aS (aR ?_);refine nc zl (nc zl (nc (z4 (j:=kk)) (nc ze ?_)));rw [gJ] at iD;have gF:kk=(G6 q L L.length).length:=by rw [<-iD];simp;omega
     refine aT ⟨.inr rfl,_,Wk.refl _,?_,?_,trivial⟩
     ·rw [<-gF];rfl
     ·show some (AV.mrow _ _ _)=some (AV.mrow _ _ _);rw [<-gF,<-iD,map_append,<-map_take,List.map_replicate];simp only [Nat.zero_add];rw [show kk+(L.length-kk)=(C.map Bd.cv).length by simp;omega,List.drop_length,append_nil];rfl
   ·have hq:q x y=false:=hq;refine aK ?_;refine AWp.wk (a7 (s':=st k) ⟨rfl,rfl,rfl,rfl,trivial⟩) ?_;refine aR ?_;refine nc zl (nc zA (nc ze ?_));refine ⟨by omega,⟨by omega,?_⟩,a7 ⟨rfl,rfl,rfl,rfl,trivial⟩⟩;rw [a3n hx hy hq,hI,J1 hx]
  ·have kF:k+1=L.length:=by have h3:decide ((((k+1:Nat):Int))<(L.length:Int))=false:=kA;simp at h3;omega
   refine aE ?_;rw [kF,take_length] at hI;have hw:=oG hI;refine aS (aR ?_);refine nc zl (nc ze ?_);refine aT ⟨.inr rfl,_,Wk.refl _,?_,?_,trivial⟩
   ·rw [hw.1];rfl
   ·rw [hw.2];rfl
theorem b1C (q:Bd->Bool) (L:List Bd):(a7P q L 0 = -1/\L.filter (fun b=>!q b)=L)\/∃ (i:Nat) (b:Bd),a7P q L 0=(i:Int)/\L[i]?=some b/\q b=true/\(L.take (i+1)).filter (fun b=>!q b)=L.take i:=by
 by_cases h:∃ b∈L,q b=true
 ·right;obtain ⟨k,hk,hmin⟩:=b7X (fun k=>∃ b,L[k]?=some b/\q b=true) (by
   obtain ⟨b,hb,hq⟩:=h;obtain ⟨j,hj⟩:=getElem?_of_mem hb;exact ⟨j,b,hj,hq⟩)
  obtain ⟨b,hb,hq⟩:=hk;have hf:∀ j c,j<k->L[j]?=some c->q c=false:=fun j c hj hc=>by
   cases hqc:q c with
   | false=>rfl
   | true=>have:=hmin j ⟨c,hc,hqc⟩;omega
  refine ⟨k,b,by rw [a7k hb hq hf,Nat.zero_add],hb,hq,?_⟩;rw [J1 hb,filter_append];have e1:(L.take k).filter (fun b=>!q b)=L.take k:=by
   rw [List.filter_eq_self];intro c hc;obtain ⟨j,hj⟩:=getElem?_of_mem hc;rw [getElem?_take] at hj;split at hj
   ·rename_i hjk;rw [hf j c hjk hj];rfl
   ·cases hj
  rw [e1];simp [hq]
 ·left;have hf:∀ b∈L,q b=false:=fun b hb=>by
   cases hqc:q b with
   | false=>rfl
   | true=>exact absurd ⟨b,hb,hqc⟩ h
  refine ⟨a2e hf,?_⟩;rw [List.filter_eq_self];intro c hc;rw [hf c hc];rfl
theorem b1s (q:Bd->Bool) (fc:CV) (L:List Bd) (n:Nat) (sD:n<=L.length) (hn:L.length<=1000000000) (hc:∀ W x,x∈L.take n->P7 Tryz.prog W fc [x.cw] (.val (.b (q x)))) :
  r5 Tryz.prog 158 [(400000,.mrow 112 3 (L.map Bd.cv))] [.sl 400000 0 n 3,.val fc] (.sl 400000 0 ((L.take n).filter (fun b=>!q b)).length 3) [(400000,.mrow 112 3 (((L.take n).filter (fun b=>!q b)++(List.replicate (n-((L.take n).filter (fun b=>!q b)).length) Bd.zero++L.drop n)).map Bd.cv))]:=by
 refine l6 Tryz.func158 Tryz.ntmps158 rfl rfl rfl rfl rfl rfl ?_;intro w U hU;obtain ⟨R,hR⟩:∃ R,R=(L.take n).filter (fun b=>!q b):=⟨_,rfl⟩
 rw [<-hR];have hidx:=b1w q fc L n sD hn hc;refine aS (aR ?_);refine nc ze ?_;refine aS (aR ?_);refine nc zl (nc zl (nc (zW (z:=hidx) (G:=i0 (by first | rfl | kernel_rfl))) (nc ze ?_)));refine aS (aS (aR ?_));refine nc zl (nc zD ?_);rcases b1C q (L.take n) with ⟨hi,hf⟩ | ⟨i,b,hi,hb,hqb,hf⟩
 ·rw [<-hR] at hf;have hl:R.length=n:=by rw [hf];simp;omega
  refine aC rfl (fun _=>?_) (fun h=>?_)
  ·refine aS (aR ?_);refine nc zl (nc ze ?_);refine aT ⟨.inr rfl,_,Wk.refl _,?_,?_,trivial⟩
   ·rw [hl];rfl
   ·rw [hl,Nat.sub_self,List.replicate_zero,List.nil_append,hf,List.take_append_drop];rfl
  ·have h:decide (a7P q (L.take n) 0 = -1)=false:=h;rw [hi] at h;cases h
 ·have fY:i<n:=by
   rw [getElem?_take] at hb;split at hb
   ·assumption
   ·cases hb
  rw [List.take_take,Nat.min_eq_left (by omega),List.take_take,Nat.min_eq_left (by omega)] at hf;refine aC rfl (fun h=>?_) (fun _=>?_)
  ·have h:decide (a7P q (L.take n) 0 = -1)=true:=h;rw [hi] at h;simp at h
  refine aK ?_;refine AWp.wk (a7 (s':=[(0,.sl 400000 0 n 3),(1,.val fc),(5,.val (.i i)),(400000,.mrow 112 3 (L.map Bd.cv))]) ⟨rfl,rfl,by rw [<-hi];rfl,rfl,trivial⟩) ?_;refine aS (aS (aR ?_));refine nc zl (nc zA (nc ze ?_))
  let st:Nat->Nat->List Bd->AS:=fun j ii C=>[(0,.sl 400000 0 n 3),(1,.val fc),(5,.val (.i ii)),(6,.val (.i ((j+1:Nat):Int))),(400000,.mrow 112 3 (C.map Bd.cv))]
  refine aB (t9 (fun m s=>∃ j ii C,m=n-j/\j+1<=n/\ii<=j/\C.length=L.length/\C.take ii=(L.take (j+1)).filter (fun b=>!q b)/\(∀ p,j+1<=p->C[p]?=L[p]?)/\s=st j ii C) (s':=st i i L) (a7 ⟨rfl,rfl,rfl,rfl,rfl,trivial⟩) ⟨i,i,L,rfl,by omega,Nat.le_refl _,rfl,hf.symm,fun _ _=>rfl,rfl⟩ ?_);rintro m s ⟨j,ii,C,hm,hj1,iF,hC,iD,fG,rfl⟩;refine aS (aS (aR ?_));refine nc zl (nc zl (nc zX (nc zi ?_)));refine aC rfl (fun kA=>?_) (fun kA=>?_)
  ·have gJ:j+1<n:=by have h3:decide ((((j+1:Nat):Int))<(n:Int))=true:=kA;simp at h3;omega
   obtain ⟨x,hx⟩:∃ x,L[j+1]?=some x:=⟨L[j+1]'(by omega),getElem?_eq_getElem (by omega)⟩
   have kS:=Bd.map_at ((fG _ (by omega)).trans hx);have cH:x∈L.take n:=mem_of_getElem? (i:=j+1) (by rw [getElem?_take,if_pos gJ];exact hx);refine aK ?_;refine aS (aB (aS (aR ?_)));refine nc zl (nc zl (nc (zO (k:=j+1)) (nc (zP (G:=kS)) (nc zw (nc zx ?_)))));refine aS (aR ?_);refine nc zl (nc zj (nc (zQ (E:=hc _ x cH)) (nc zZ ?_)));refine aC rfl (fun hq=>?_) (fun hq=>?_)
   ·have hq:q x=false:=by simpa using hq
    obtain ⟨z,hz⟩:∃ z,C[ii]?=some z:=⟨C[ii]'(by omega),getElem?_eq_getElem (by omega)⟩
    have jC:=Bd.map_at hz;refine aS (aR ?_);refine nc zl (nc zl (nc zj (nc (zO (k:=ii)) (nc (zR (F:=jC)) ?_))));refine aR ?_;refine nc zl (nc zA (nc ze ?_));refine aR ?_;refine nc zl (nc zA (nc ze ?_));refine ⟨n-(j+1),st (j+1) (ii+1) (C.set ii x),by omega,⟨j+1,ii+1,C.set ii x,rfl,by omega,by omega,by simp [hC],?_,fun p hp=>?_,rfl⟩,a7 ⟨rfl,rfl,rfl,rfl,?_,trivial⟩⟩
    ·rw [b0p (by omega),iD,J1 (k:=j+1) hx,filter_append];simp [hq]
    ·rw [getElem?_set_ne (by omega)];exact fG p (by omega)
    ·show some (AV.mrow _ _ _)=some (AV.mrow _ _ _);rw [M1]
   ·have hq:q x=true:=by simpa using hq
    refine aK ?_;refine AWp.wk (a7 (s':=st j ii C) ⟨rfl,rfl,rfl,rfl,rfl,trivial⟩) ?_;refine aR ?_;refine nc zl (nc zA (nc ze ?_));refine ⟨n-(j+1),st (j+1) ii C,by omega,⟨j+1,ii,C,rfl,by omega,by omega,hC,?_,fun p hp=>fG p (by omega),rfl⟩,a7 ⟨rfl,rfl,rfl,rfl,rfl,trivial⟩⟩;rw [iD,J1 (k:=j+1) hx,filter_append];simp [hq]
  ·have gJ:j+1=n:=by have h3:decide ((((j+1:Nat):Int))<(n:Int))=false:=kA;simp at h3;omega
   refine aE ?_;refine AWp.wk (a7 (s':=st j ii C) ⟨rfl,rfl,rfl,rfl,rfl,trivial⟩) ?_;refine aS (aR ?_);refine nc zl (nc zl (nc (zY (j:=ii)) (nc z0 ?_)));refine aS (aR ?_);refine nc zl (nc zl (nc (z4 (j:=ii)) (nc ze ?_)));rw [gJ,<-hR] at iD;have gF:ii=R.length:=by rw [<-iD];simp;omega
   have vP:C.drop n=L.drop n:=by apply List.ext_getElem?;intro p;rw [List.getElem?_drop,List.getElem?_drop];exact fG _ (by omega)
   refine aT ⟨.inr rfl,_,Wk.refl _,?_,?_,trivial⟩
   ·rw [<-gF];rfl
   ·show some (AV.mrow _ _ _)=some (AV.mrow _ _ _);rw [<-gF,<-iD,<-vP,map_append,<-map_take,map_append,List.map_replicate];simp only [Nat.zero_add];rw [show ii+(n-ii)=n by omega,List.map_drop];rfl
def a2G (x y:Bd):Bool:=decide (x.v=y.v)
def P8 (L:List Bd):List Bd:=E2 (ltC b3t) 0 (L.length-1) 1 L
def s5 (L:List Bd):List Bd:=G6 a2G (P8 L) (P8 L).length
def Bd.strip (b:Bd):Bd:=⟨b.v,b.t.strip⟩
def y9 (L:List Bd):List Bd:=((s5 L).filter fun b=>!Y7 b).map Bd.strip
theorem K8 (L:List Bd):(P8 L).length=L.length:=a4o _ _ _ _ _
theorem a6M {q:Bd->Bd->Bool} {L:List Bd} (n:Nat):G6 q L (n+1)=G6 q L n\/∃ x,L[n]?=some x/\G6 q L (n+1)=G6 q L n++[x]:=by
 cases n with
 | zero =>
  cases L with
  | nil=>left;rfl
  | cons x l=>right;exact ⟨x,rfl,rfl⟩
 | succ m =>
  cases hx:L[m+1]? with
  | none=>left;rw [G6];simp only [hx]
  | some x =>
   cases hy:L[m]? with
   | none=>right;exact ⟨x,rfl,by rw [G6];simp only [hx,hy]⟩
   | some y =>
    cases hq:q x y with
    | true=>left;exact a0Z hx hy hq
    | false=>right;exact ⟨x,rfl,a3n hx hy hq⟩
theorem a5a {q:Bd->Bd->Bool} {L:List Bd}:∀ {n:Nat} {x:Bd},x∈G6 q L n->x∈L
 | 0,x,h=>by simp [G6] at h
 | n+1,x,h=>by
  rcases a6M (q:=q) (L:=L) n with e | ⟨y,h1,e⟩
  ·rw [e] at h;exact a5a h
  ·rw [e] at h;rcases mem_append.1 h with h | h
   ·exact a5a h
   ·rw [mem_singleton.1 h];exact mem_of_getElem? h1
theorem a9q {q:Bd->Bd->Bool} {L:List Bd}:∀ {n:Nat},(G6 q L n).length<=n
 | 0=>Nat.le_refl _
 | n+1=>by
  have ih:=a9q (q:=q) (L:=L) (n:=n);rcases a6M (q:=q) (L:=L) n with e | ⟨y,h1,e⟩
  ·rw [e];omega
  ·rw [e];simp;omega
theorem a9w {lt:Bd->Bd->Bool} {a:Nat}:∀ {j:Nat} {L:List Bd} {z:Bd},z∈a0S lt a j L↔z∈L
 | 0,L,z=>Iff.rfl
 | j+1,L,z=>by
  rw [a0S];split
  ·rename_i x y hx hy;split
   ·rw [a9w];have hj:j+1<L.length:=by
     rcases Nat.lt_or_ge (j+1) L.length with h | h
     ·exact h
     ·rw [getElem?_eq_none h] at hx;cases hx
    have hxe:L[j+1]=x:=by rw [getElem?_eq_getElem hj] at hx;exact Option.some.inj hx
    have hye:L[j]'(by omega)=y:=by rw [getElem?_eq_getElem (by omega)] at hy;exact Option.some.inj hy
    constructor
    ·intro h;rcases a0t h with h | rfl
     ·rcases a0t h with h | rfl
      ·exact h
      ·exact mem_of_getElem? hy
     ·exact mem_of_getElem? hx
    ·intro h;obtain ⟨i,hi⟩:=getElem?_of_mem h;by_cases e1:i=j
     ·subst e1;rw [hy] at hi;cases hi;exact mem_of_getElem? (i:=i+1) (by rw [getElem?_set_ne (by omega),List.getElem?_set_self hj])
     ·by_cases e2:i=j+1
      ·subst e2;rw [hx] at hi;cases hi;exact mem_of_getElem? (i:=j) (by rw [List.getElem?_set_self (by simp;omega)])
      ·exact mem_of_getElem? (i:=i) (by rw [getElem?_set_ne (Ne.symm e1),getElem?_set_ne (Ne.symm e2)];exact hi)
   ·exact Iff.rfl
  ·exact Iff.rfl
theorem a3Q {lt:Bd->Bd->Bool} {a:Nat}:∀ {n i:Nat} {L:List Bd} {z:Bd},z∈E2 lt a n i L↔z∈L
 | 0,_,_,_=>Iff.rfl
 | n+1,i,L,z=>by rw [E2,a3Q,a9w]
theorem W9 {L:List Bd} {x:Bd} (h:x∈s5 L):x∈L:=a3Q.1 (a5a h)
theorem O1 (L:List Bd):(s5 L).length<=L.length:=by
 have:=a9q (q:=a2G) (L:=P8 L) (n:=(P8 L).length);rw [K8] at this;unfold s5;rw [K8];exact this
theorem a8y (L:List Bd) (hn:L.length<=1000000) (nV:r5 Tryz.prog 177 [(400000,.mrow 112 3 (L.map Bd.cv))] [.sl 400000 0 L.length 3,.val (.sc (.func (.func 178) #[] #[]))] (.tup []) [(400000,.mrow 112 3 ((P8 L).map Bd.cv))]) :
  r5 Tryz.prog 159 [] [.val (.lst (L.map Bd.cv))] (.sl 400000 0 (s5 L).length 3) [(400000,.mrow 112 3 ((s5 L++List.replicate (L.length-(s5 L).length) Bd.zero).map Bd.cv))]:=by
 refine l6 Tryz.func159 Tryz.ntmps159 rfl rfl rfl rfl rfl rfl ?_;intro w U hU;have sK:U.f 400000=none:=by
  cases h:U.f 400000 with
  | none=>rfl
  | some v=>have:=hU _ _ h;cases this
 have eF:=b0W L (by omega);have hco:=a8x a2G (.sc (.func (.func 180) #[] #[])) (P8 L) (by rw [K8];omega) (fun W x y => .inr ⟨_,rfl,b4U W x y⟩);refine aS (aR ?_);refine nc ze ?_;refine aS (aR ?_);refine nc zl (nc (zW (z:=eF) (G:=i0 (by first | rfl | kernel_rfl))) (nc ze ?_));refine AWp.wk ((a7 (s':=[(3,.sl 250007 0 L.length 3),(250007,.mrow 112 3 (L.map Bd.cv))]) ⟨rfl,rfl,trivial⟩).trans (x7 250007 400000 rfl rfl sK rfl rfl rfl)) ?_;refine aS (aR ?_);refine nc zl (nc (zW (z:=nV) (G:=i0 (by first | rfl | kernel_rfl))) ?_);refine AWp.wk (a7 (s':=[(3,.sl 400000 0 (P8 L).length 3),(400000,.mrow 112 3 ((P8 L).map Bd.cv))]) ⟨by rw [K8];rfl,rfl,trivial⟩) ?_;refine aS (aR ?_);refine nc zl (nc (zW (z:=hco) (G:=i0 (by first | rfl | kernel_rfl))) (nc ze ?_));refine aT ⟨.inr rfl,_,Wk.refl _,rfl,?_,trivial⟩;show some (AV.mrow _ _ _)=some (AV.mrow _ _ _);rw [K8];unfold s5;rw [K8]
theorem b1o (L:List Bd) (hn:L.length<20) :
  r5 Tryz.prog 159 [] [.val (.lst (L.map Bd.cv))] (.sl 400000 0 (s5 L).length 3) [(400000,.mrow 112 3 ((s5 L++List.replicate (L.length-(s5 L).length) Bd.zero).map Bd.cv))]:=a8y L (by omega) (a3a b3t (.sc (.func (.func 178) #[] #[])) L hn (fun W x y => .inr ⟨_,rfl,b5z W x y⟩))
theorem b3C (W:World) (L:List Bd) (hn:L.length<=1000000) (hb:bdsOk L) (mF:r5 Tryz.prog 159 [] [.val (.lst (L.map Bd.cv))] (.sl 400000 0 (s5 L).length 3) [(400000,.mrow 112 3 ((s5 L++List.replicate (L.length-(s5 L).length) Bd.zero).map Bd.cv))]):AFun Tryz.prog W 125 [.lst (L.map Bd.cv)] (.val (.lst ((y9 L).map Bd.cv))):=by
 refine c9 (rs:=[.lst ((y9 L).map Bd.cv)]) Tryz.func125 Tryz.ntmps125 rfl rfl rfl rfl ?_;intro w U hW;obtain ⟨F,hF⟩:∃ F,F=s5 L++List.replicate (L.length-(s5 L).length) Bd.zero:=⟨_,rfl⟩
 rw [<-hF] at mF;have sL:F.length=L.length:=by rw [hF];have:=O1 L;simp;omega
 have hFt:F.take (s5 L).length=s5 L:=by rw [hF];simp
 have xY:=b1s Y7 (.sc (.func (.func 160) #[] #[])) F (s5 L).length (by rw [sL];exact O1 L) (by omega) (fun W x hx => .inr ⟨_,rfl,b5u W x (by rw [hFt] at hx;exact ((Tm.rng_iff _).1 (hb x (W9 hx)).1).1.1)⟩);rw [hFt] at xY;obtain ⟨R,hR⟩:∃ R,R=(s5 L).filter fun b=>!Y7 b:=⟨_,rfl⟩
 rw [<-hR] at xY;obtain ⟨Z,hZ⟩:∃ Z,Z=List.replicate ((s5 L).length-R.length) Bd.zero++F.drop (s5 L).length:=⟨_,rfl⟩
 rw [<-hZ] at xY;have hRm:∀ x∈R,x∈L:=fun x hx=>by rw [hR] at hx;exact W9 (mem_filter.1 hx).1
 have oW:R.length<=L.length:=by rw [hR];exact Nat.le_trans (List.length_filter_le _ _) (O1 L)
 refine aS (aR ?_);refine nc ze ?_;refine aS (aR ?_);refine nc zl ?_;refine nc (zW (z:=mF) (G:=fun k v h=>by first | (rw [hW.1] at h;cases h) | (have h2:=hU k v h;cases h2))) ?_;refine nc (zW (z:=xY) (G:=i0 (by first | rfl | kernel_rfl))) (nc ze ?_);refine aS (aS (aR ?_));refine nc zl (nc zX (nc zl ?_))
 let C:Nat->List Bd:=fun k=>(R.take k).map Bd.strip++(R.drop k++Z)
 refine aB (n5 R.length (fun k=>[(3,.sl 400000 0 R.length 3),(9,.sl 400000 0 R.length 3),(10,.val (.i R.length)),(11,.val (.i k)),(400000,.mrow 112 3 ((C k).map Bd.cv))]) (a7 ⟨rfl,rfl,rfl,rfl,rfl,trivial⟩) ?_);intro k hk;have hCl:(C k).length=R.length+Z.length:=by simp [C];omega
 refine aS (aR ?_);refine nc zi ?_;refine aS (aC rfl (fun kA=>?_) (fun kA=>?_))
 ·have kF:k<R.length:=by simpa using kA
  obtain ⟨x,hx⟩:∃ x,R[k]?=some x:=⟨R[k],getElem?_eq_getElem kF⟩
  have hxC:(C k)[k]?=some x:=by show ((R.take k).map Bd.strip++(R.drop k++Z))[k]?=some x;rw [getElem?_append_right (by simp;omega),getElem?_append_left (by simp;omega),List.getElem?_drop];simp only [length_map,List.length_take,Nat.min_eq_left (Nat.le_of_lt kF),Nat.sub_self,Nat.add_zero];exact hx
  have kS:=Bd.map_at hxC;have iQ:=hb x (hRm x (mem_of_getElem? hx));refine aK ?_;refine aS (aB (aS (aR ?_)));refine nc zl (nc (zO (k:=k)) (nc (zP (G:=kS)) (nc zw (nc ze (nc zx ?_)))));refine aR ?_;refine nc zl (nc zl (nc zg (nc zh (nc (zk (z:=L5 _ iQ.1 iQ.2)) (nc (zO (k:=k)) (nc z5 (nc (zR (F:=kS)) ?_)))))));refine aR ?_;refine nc zA (nc zl ?_);refine ⟨kF,a7 ⟨rfl,rfl,rfl,rfl,?_,trivial⟩⟩;show some (AV.mrow _ _ _)=some (AV.mrow _ _ _);have e1:((C k).map Bd.cv).set k (Bd.strip x).cw=(C (k+1)).map Bd.cv:=by
   rw [M1];congr 1;show ((R.take k).map Bd.strip++(R.drop k++Z)).set k (Bd.strip x)=(R.take (k+1)).map Bd.strip++(R.drop (k+1)++Z);rw [List.set_append_right _ _ (by simp;omega)];simp only [length_map,List.length_take,Nat.min_eq_left (Nat.le_of_lt kF),Nat.sub_self];have e2:R.drop k=x::R.drop (k+1):=by rw [getElem?_eq_getElem kF] at hx;rw [<-Option.some.inj hx,List.getElem_cons_drop]
   rw [e2,J1 hx,map_append];simp
  rw [<-e1];rfl
 ·have kF:k=R.length:=by
   have:¬ k<R.length:=by simpa using kA
   omega
  subst kF;refine aE ?_;refine aS (aR ?_);refine nc zl (nc ze ?_);refine AWp.wk (a8s 2 400000 rfl rfl rfl (.inl hW.2) (by rw [length_map,hCl];omega) (s':=[]) trivial rfl) ?_;refine aT ⟨.inr rfl,?_⟩;show some [CV.lst _]=some [CV.lst _];congr 3;show (((C R.length).map Bd.cv).drop 0).take R.length=(y9 L).map Bd.cv;rw [List.drop_zero,<-map_take];congr 1;show (((R.take R.length).map Bd.strip++(R.drop R.length++Z))).take R.length=y9 L;rw [take_length,List.take_append_of_le_length (by simp),List.take_of_length_le (by simp),hR];rfl
theorem b6N (W:World) (L:List Bd) (hn:L.length<20) (hb:bdsOk L):AFun Tryz.prog W 125 [.lst (L.map Bd.cv)] (.val (.lst ((y9 L).map Bd.cv))):=b3C W L (by omega) hb (b1o L hn)
theorem ltB (x y:Bd):ltC b3t x y=decide (x.v<y.v):=by
 unfold ltC b3t N7;by_cases h:x.v<y.v
 ·simp [h]
 ·by_cases h2:x.v>y.v
  ·simp [h,h2]
  ·simp [h,h2]
theorem b2N {α:Type} (A:List α) (x:α) (B:List α):(A++x::B)[A.length]?=some x:=by simp
theorem b3P (lt:Bd->Bd->Bool) (x:Bd) (B:List Bd):∀ (n:Nat) (A:List Bd),A.length=n->∃ A1 A2,A=A1++A2/\a0S lt 0 A.length (A++x::B)=A1++x::(A2++B)/\(∀ y∈A2,lt x y=true)/\∀ y,A1.getLast?=some y->lt x y=false:=by
 intro n
 induction n generalizing x B with
 | zero =>
  intro A hA;have:A=[]:=List.eq_nil_of_length_eq_zero hA;subst this;exact ⟨[],[],rfl,rfl,by simp,by simp⟩
 | succ n ih =>
  intro A hA;obtain ⟨A',y,rfl⟩:∃ A' y,A=A'++[y]:=⟨A.dropLast,A.getLast (by intro h;rw [h] at hA;simp at hA),(List.dropLast_concat_getLast _).symm⟩
  have hl:A'.length=n:=by simp at hA;omega
  have hx:(A'++[y]++x::B)[A'.length+1]?=some x:=by
   have:=b2N (A'++[y]) x B
   rwa [length_append,length_singleton] at this
  have hy:(A'++[y]++x::B)[A'.length]?=some y:=by rw [append_assoc];exact b2N A' y (x::B)
  rw [length_append,length_singleton];cases h:lt x y with
  | false =>
   refine ⟨A'++[y],[],by simp,?_,by simp,fun z hz=>?_⟩
   ·rw [b2t lt 0 hx hy h];simp
   ·rw [List.getLast?_append] at hz;simp at hz;subst hz;exact h
  | true =>
   rw [b0k lt 0 hx hy (by omega) h];have xZ:((A'++[y]++x::B).set (A'.length+1) y).set A'.length x=A'++x::(y::B):=by rw [append_assoc,List.set_append_right _ _ (by omega),show A'.length+1-A'.length=1 by omega,List.set_append_right _ _ (by simp)];simp
   rw [xZ];obtain ⟨A1,A2,e1,e2,e3,e4⟩:=ih x (y::B) A' hl;refine ⟨A1,A2++[y],by rw [e1];simp,by rw [e2];simp,fun z hz=>?_,e4⟩;rcases mem_append.1 hz with hz | hz
   ·exact e3 z hz
   ·rw [mem_singleton.1 hz];exact h
def b2O (l:List Bd):Prop:=l.Pairwise fun x y=>x.v<=y.v
theorem b8c {A1 A2:List Bd} {x:Bd} (h:b2O (A1++A2)) (h2:∀ y∈A2,x.v<y.v) (h1:∀ y,A1.getLast?=some y->¬ x.v<y.v):b2O (A1++x::A2):=by
 unfold b2O at h |-;rw [List.pairwise_append] at h |-;refine ⟨h.1,List.pairwise_cons.2 ⟨fun y hy=>Int.le_of_lt (h2 y hy),h.2.1⟩,fun a ha b hb=>?_⟩;rcases mem_cons.1 hb with rfl | hb
 ·
  obtain ⟨A',z,rfl⟩:∃ A' z,A1=A'++[z]:=⟨A1.dropLast,A1.getLast (List.ne_nil_of_mem ha),(List.dropLast_concat_getLast _).symm⟩
  have hz:=h1 z (by simp);rcases mem_append.1 ha with ha | ha
  ·have:=(List.pairwise_append.1 h.1).2.2 a ha z (by simp);omega
  ·rw [mem_singleton.1 ha];omega
 ·exact h.2.2 a ha b hb
theorem b5T {A1 A2:List Bd} {x:Bd} (h2:∀ y∈A2,x.v<y.v) (v:Int):(A1++x::A2).filter (fun b=>decide (b.v=v))=(A1++A2++[x]).filter (fun b=>decide (b.v=v)):=by
 simp only [filter_append,filter_cons,List.filter_nil,append_assoc];by_cases h:x.v=v
 ·have:A2.filter (fun b=>decide (b.v=v))=[]:=by rw [List.filter_eq_nil_iff];intro y hy hv;have:=h2 y hy;simp at hv;omega
  rw [this];simp [h]
 ·simp [h]
theorem a2k:∀ (n:Nat) (A B:List Bd),b2O A->n<=B.length->∃ A',E2 (ltC b3t) 0 n A.length (A++B)=A'++B.drop n/\b2O A'/\A'.length=A.length+n/\∀ v,A'.filter (fun b=>decide (b.v=v))=(A++B.take n).filter (fun b=>decide (b.v=v))
 | 0,A,B,hA,_=>⟨A,by simp [E2],hA,rfl,fun v=>by simp⟩
 | n+1,A,[],hA,hn=>by simp at hn
 | n+1,A,x::B,hA,hn=>by
  obtain ⟨A1,A2,e1,e2,e3,e4⟩:=b3P (ltC b3t) x B A.length A rfl;have h2:∀ y∈A2,x.v<y.v:=fun y hy=>by have:=e3 y hy;rw [ltB] at this;simpa using this
  have h1:∀ y,A1.getLast?=some y->¬ x.v<y.v:=fun y hy=>by have:=e4 y hy;rw [ltB] at this;simpa using this
  have hs:b2O (A1++x::A2):=b8c (by rw [<-e1];exact hA) h2 h1;obtain ⟨A',f1,f2,f3,f4⟩:=a2k n (A1++x::A2) B hs (by simpa using hn);have hl:(A1++x::A2).length=A.length+1:=by rw [e1];simp;omega
  refine ⟨A',?_,f2,by rw [f3,hl];omega,fun v=>?_⟩
  ·rw [E2,e2,show A1++x::(A2++B)=(A1++x::A2)++B by simp,<-hl,f1];rfl
  ·rw [f4 v,filter_append,b5T h2 v,<-e1,List.take_succ_cons,<-filter_append,append_assoc];rfl
theorem a4r (L:List Bd):b2O (P8 L)/\∀ v,(P8 L).filter (fun b=>decide (b.v=v))=L.filter (fun b=>decide (b.v=v)):=by
 cases L with
 | nil=>exact ⟨List.Pairwise.nil,fun v=>rfl⟩
 | cons x l =>
  obtain ⟨A',f1,f2,f3,f4⟩:=a2k l.length [x] l (List.pairwise_singleton _ _) (Nat.le_refl _);have e:P8 (x::l)=A':=by unfold P8;rw [length_cons,Nat.add_sub_cancel];have:=f1;rw [List.drop_length,append_nil] at this;exact this
  rw [e];exact ⟨f2,fun v=>by rw [f4 v,take_length];rfl⟩
theorem R9:∀ (L:List Bd) (v:Int),d9 L v=(L.filter (fun b=>decide (b.v=v))).head?.map Bd.t
 | [],_=>rfl
 | b::L,v=>by
  rw [d9];by_cases h:b.v=v
  ·simp [h]
  ·rw [if_neg h,R9 L v];simp [h]
theorem b1e (L:List Bd) (v:Int):d9 (P8 L) v=d9 L v:=by rw [R9,R9,(a4r L).2]
theorem a0D (L:List Bd) (x:Bd) (v:Int):d9 (L++[x]) v=(d9 L v).or (if x.v=v then some x.t else none):=by
 induction L with
 | nil=>simp only [List.nil_append,d9];split<;>rfl
 | cons b L ih =>
  rw [cons_append,d9,d9];split
  ·rfl
  ·exact ih
theorem a0I {L:List Bd} {x:Bd} (h:x∈L):∃ t,d9 L x.v=some t:=by
 induction L with
 | nil=>cases h
 | cons b L ih =>
  rw [d9];split
  ·exact ⟨_,rfl⟩
  ·rename_i kE;rcases mem_cons.1 h with rfl | h
   ·exact absurd rfl kE
   ·exact ih h
theorem b0g {S:List Bd} (hS:b2O S):∀ (m:Nat),m<=S.length->(∀ v,d9 (G6 a2G S m) v=d9 (S.take m) v)/\(G6 a2G S m).Pairwise (fun x y=>x.v<y.v)/\∀ (k:Nat) (y:Bd),m=k+1->S[k]?=some y->∀ x∈G6 a2G S m,x.v<=y.v
 | 0,_=>⟨fun v=>rfl,List.Pairwise.nil,fun k y h=>by omega⟩
 | 1,h=>by
  cases S with
  | nil=>simp at h
  | cons x l =>
   rw [a9o];exact ⟨fun v=>rfl,List.pairwise_singleton _ _,fun k y hk hy z hz=>by
    have:k=0:=by omega
    subst this;simp at hy hz;subst hy;subst hz;exact Int.le_refl _⟩
 | m+2,h=>by
  obtain ⟨ih1,ih2,ih3⟩:=b0g hS (m+1) (by omega);obtain ⟨x,hx⟩:∃ x,S[m+1]?=some x:=⟨S[m+1],getElem?_eq_getElem (by omega)⟩
  obtain ⟨y,hy⟩:∃ y,S[m]?=some y:=⟨S[m]'(by omega),getElem?_eq_getElem (by omega)⟩
  have cY:y.v<=x.v:=by have:=List.pairwise_iff_getElem.1 hS m (m+1) (by omega) (by omega) (by omega);rw [getElem?_eq_getElem (by omega)] at hx hy;rw [<-Option.some.inj hx,<-Option.some.inj hy];exact this
  have dK:=J1 hx;cases hq:a2G x y with
  | true =>
   have hv:x.v=y.v:=by simpa [a2G] using hq
   rw [a0Z hx hy hq];refine ⟨fun v=>?_,ih2,fun k z hk hz w hw=>?_⟩
   ·rw [ih1 v,dK,a0D];by_cases e:x.v=v
    ·obtain ⟨t,ht⟩:=a0I (L:=S.take (m+1)) (x:=y) (mem_of_getElem? (i:=m) (by rw [getElem?_take,if_pos (by omega)];exact hy));rw [<-e,hv,ht];rfl
    ·rw [if_neg e];simp
   ·have:k=m+1:=by omega
    subst this;rw [hx] at hz;cases hz;rw [hv];exact ih3 m y rfl hy w hw
  | false =>
   have hv:x.v≠y.v:=by simpa [a2G] using hq
   rw [a3n hx hy hq];refine ⟨fun v=>by rw [a0D,ih1 v,dK,a0D],?_,fun k z hk hz w hw=>?_⟩
   ·rw [List.pairwise_append];refine ⟨ih2,List.pairwise_singleton _ _,fun a ha b hb=>?_⟩;rw [mem_singleton.1 hb];have:=ih3 m y rfl hy a ha;omega
   ·have:k=m+1:=by omega
    subst this;rw [hx] at hz;cases hz;rcases mem_append.1 hw with hw | hw
    ·have:=ih3 m y rfl hy w hw;omega
    ·rw [mem_singleton.1 hw];exact Int.le_refl _
theorem S0 (L:List Bd):(∀ v,d9 (s5 L) v=d9 L v)/\(s5 L).Pairwise (fun x y=>x.v<y.v):=by
 obtain ⟨h1,h2,_⟩:=b0g (a4r L).1 (P8 L).length (Nat.le_refl _);refine ⟨fun v=>?_,h2⟩;have:=h1 v;rw [take_length,b1e] at this;exact this
theorem b4Q {L:List Bd} (v:Int):d9 (L.map Bd.strip) v=(d9 L v).map Tm.strip:=by
 induction L with
 | nil=>rfl
 | cons b L ih =>
  rw [map_cons,d9,d9];show (if b.v=v then _ else _)=_;split
  ·rfl
  ·exact ih
theorem b1m {L:List Bd} (h:L.Pairwise (fun x y=>x.v<y.v)) (v:Int):d9 (L.filter fun b=>!Y7 b) v=match d9 L v with | some t=>if Y7 ⟨v,t⟩ then none else some t | none=>none:=by
 induction L with
 | nil=>rfl
 | cons b L ih =>
  rw [List.pairwise_cons] at h;rw [filter_cons];by_cases hv:b.v=v
  ·have gA:∀ c∈L,c.v≠v:=fun c hc=>by have:=h.1 c hc;omega
   have hb:(⟨v,b.t⟩:Bd)=b:=by rw [<-hv]
   rw [d9,if_pos hv];simp only;rw [hb];cases hi:Y7 b with
   | true =>
    simp only [Bool.not_true,Bool.false_eq_true,if_false,if_true];exact B6 fun c hc=>gA c (mem_filter.1 hc).1
   | false =>
    simp only [Bool.not_false,if_true,Bool.false_eq_true,if_false];rw [d9,if_pos hv]
  ·rw [d9,if_neg hv];split
   ·rw [d9,if_neg hv];exact ih h.2
   ·exact ih h.2
theorem a0z (L:List Bd) (v:Int):d9 (y9 L) v=match d9 L v with | some t=>if Y7 ⟨v,t⟩ then none else some t.strip | none=>none:=by
 unfold y9;rw [b4Q,b1m (S0 L).2,(S0 L).1];cases d9 L v with
 | none=>rfl
 | some t=>simp only;split<;>rfl
theorem Z3 (L:List Bd):(y9 L).Pairwise (fun x y=>x.v<y.v):=by
 unfold y9;rw [List.pairwise_map];exact ((S0 L).2.filter _).imp (fun h=>h)
theorem a0U {t:Tm} (h:t.f<0):t.strip=⟨t.f,[]⟩:=by
 rw [Tm.strip_eq];have:t.ps=[]:=by unfold Tm.ps;rw [if_pos h]
 rw [this];rfl
theorem b0T (A M:List Bd) (v:Int):d9 (A++M) v=(d9 A v).or (d9 M v):=by
 induction A with
 | nil=>rfl
 | cons b A ih =>
  rw [cons_append,d9,d9];split
  ·rfl
  ·exact ih
theorem a3X (f g:Int->Tm) (t:Tm):a8 g (a8 f t)=a8 (fun v=>a8 g (f v)) t:=by
 induction t using Tm.indp with
 | h t ih =>
  by_cases hf:t.f<0
  ·rw [l4 hf,l4 hf,L4,A6]
  ·rw [Tm.ps_of_sym (by omega)] at ih;rw [d8 hf,d8 (t:=⟨t.f,_⟩) hf,d8 hf];simp only [map_map];congr 1;exact map_congr_left fun s hs=>ih s hs
theorem b4o (L:List Bd):(y9 L).length<=L.length:=by
 unfold y9;rw [length_map];exact Nat.le_trans (List.length_filter_le _ _) (O1 L)
def uni (τ:Int->Tm) (E:List (Tm×Tm)):Prop:=∀ p∈E,a8 τ p.1=a8 τ p.2
theorem B9 {τ:Int->Tm} {E F:List (Tm×Tm)}:uni τ (E++F)↔uni τ E/\uni τ F:=by
 unfold uni;constructor
 ·intro h;exact ⟨fun p hp=>h p (mem_append_left _ hp),fun p hp=>h p (List.mem_append_right _ hp)⟩
 ·rintro ⟨h1,h2⟩ p hp;rcases mem_append.1 hp with hp | hp
  ·exact h1 p hp
  ·exact h2 p hp
theorem B4 {τ:Int->Tm} {a b:Tm}:uni τ [(a,b)]↔a8 τ a=a8 τ b:=by
 unfold uni;constructor
 ·intro h;exact h (a,b) (by simp)
 ·intro h p hp;simp only [mem_singleton] at hp;rw [hp];exact h
structure Mgu (σ:Int->Tm) (E:List (Tm×Tm)):Prop where
 uni:uni σ E
 bare:∀ v,0<=v->(σ v).strip=σ v
 idem:∀ v,0<=v->∀ u∈(σ v).vs,σ u=q7 u
 most:∀ τ,Go.Proofs.YteegmcfobgpemaaGreat.uni τ E->∀ v,0<=v->a8 τ (σ v)=(τ v).strip
 low:∀ v,0<=v->(σ v).f<0 -> -1-(σ v).f<=v
theorem s7 (v:Int):(q7 v).f = -1-v:=rfl
theorem F3 {τ:Int->Tm} {v:Int} (hv:0<=v):a8 τ (q7 v)=(τ v).strip:=by
 rw [l4 (by rw [s7];omega),s7,show -1-(-1-v)=v by omega]
theorem c2n {τ:Int->Tm} {t:Tm} (h:¬ t.f<0):(a8 τ t).f=t.f:=by rw [d8 h]
theorem a0x {τ:Int->Tm} {t:Tm} (h:(a8 τ t).f<0):t.f<0:=by
 rcases Decidable.em (t.f<0) with h1 | h1
 ·exact h1
 ·rw [c2n h1] at h;exact h
theorem a1k {t:Tm} (hb:t.strip=t) (h:t.f<0):t=q7 (-1-t.f):=by
 rw [<-hb,a0U h];unfold q7;rw [show -1-(-1-t.f)=t.f by omega]
theorem a4Q {σ:Int->Tm} {t:Tm} (h:∀ u∈t.vs,σ u=q7 u):a8 σ t=t.strip:=by
 rw [D7 (g:=q7) h,a2R]
theorem Mgu.stays {σ σ':Int->Tm} {E:List (Tm×Tm)} (h:Mgu σ E) (h':Mgu σ' E) {v:Int} (hv:0<=v) (e:σ v=q7 v):σ' v=q7 v:=by
 have h1:=h'.most σ h.uni v hv;rw [h.bare v hv,e] at h1;have h2:(σ' v).f<0:=a0x (τ:=σ) (by rw [h1,s7];omega);obtain ⟨u,hu⟩:∃ u,u = -1-(σ' v).f:=⟨_,rfl⟩
 have eS:0<=u:=by omega
 have h3:σ' v=q7 u:=by rw [hu];exact a1k (h'.bare v hv) h2
 have h4:u<=v:=by rw [hu];exact h'.low v hv h2
 rw [h3,F3 eS,h.bare u eS] at h1;have h5:=h.low u eS (by rw [h1,s7];omega);rw [h1,s7] at h5;have:u=v:=by omega
 rw [h3,this]
theorem Mgu.one {σ σ':Int->Tm} {E:List (Tm×Tm)} (h:Mgu σ E) (h':Mgu σ' E) {v:Int} (hv:0<=v):σ' v=σ v:=by
 have h1:=h.most σ' h'.uni v hv;rw [h'.bare v hv,a4Q (fun u hu=>h.stays h' (o5 _ u hu) (h.idem v hv u hu)),h.bare v hv] at h1;exact h1.symm
theorem Mgu.eqv {σ:Int->Tm} {E F:List (Tm×Tm)} (h:Mgu σ E) (he:∀ τ,Go.Proofs.YteegmcfobgpemaaGreat.uni τ E↔Go.Proofs.YteegmcfobgpemaaGreat.uni τ F):Mgu σ F:=
 ⟨(he σ).1 h.uni,h.bare,h.idem,fun τ ht=>h.most τ ((he τ).2 ht),h.low⟩
theorem Mgu.rep {σ τ:Int->Tm} {E:List (Tm×Tm)} (h:Mgu σ E) (ht:Go.Proofs.YteegmcfobgpemaaGreat.uni τ E) (t:Tm):a8 τ (a8 σ t)=a8 τ t:=by
 rw [a3X];revert t;refine Tm.ind fun f l ih=>?_;rcases Decidable.em (f<0) with hf | hf
 ·rw [l4 (t:=⟨f,l⟩) hf,l4 (t:=⟨f,l⟩) hf,h.most τ ht _ (by show 0 <= -1-f;omega),Tm.strip_strip]
 ·rw [d8 (t:=⟨f,l⟩) (by show ¬ f<0;omega),d8 (t:=⟨f,l⟩) (by show ¬ f<0;omega)];show (⟨f,l.map _⟩:Tm)=⟨f,l.map _⟩;congr 1;exact map_congr_left ih
theorem Mgu.rep_vs {σ:Int->Tm} {E:List (Tm×Tm)} (h:Mgu σ E) {t:Tm} {u:Int} (hu:u∈(a8 σ t).vs):σ u=q7 u:=by
 rw [a1C,mem_flatMap] at hu;obtain ⟨v,hv,hu⟩:=hu;exact h.idem v (o5 _ v hv) u hu
theorem Mgu.nil:Mgu q7 []:=
 ⟨fun p hp=>(by cases hp),fun v hv=>w9 v,fun v hv u hu=>rfl,fun τ ht v hv=>F3 hv,fun v hv hf=>by rw [s7];omega⟩
theorem Mgu.same {σ:Int->Tm} {E:List (Tm×Tm)} (h:Mgu σ E) {a b:Tm} (e:a8 σ a=a8 σ b):Mgu σ (E++[(a,b)]):=
 h.eqv fun τ=>by
  rw [B9,B4];constructor
  ·intro ht;refine ⟨ht,?_⟩;rw [<-h.rep ht a,e,h.rep ht b]
  ·exact fun ht=>ht.1
def W5 (x:Int) (b:Tm) (v:Int):Tm:=if v=x then b else q7 v
theorem b2j {x:Int} {b t:Tm} (h:x∉t.vs):a8 (W5 x b) t=t.strip:=
 a4Q fun u hu=>if_neg fun (e:u=x)=>h (e▸hu)
theorem Mgu.bind {σ:Int->Tm} {E:List (Tm×Tm)} (h:Mgu σ E) {a b:Tm} {x:Int} (hx:0<=x) (ha:a8 σ a=q7 x) (hb:x∉(a8 σ b).vs) (kV:(a8 σ b).f<0 -> -1-(a8 σ b).f<=x) {σ2:Int->Tm} (h2:∀ v,0<=v->σ2 v=a8 (W5 x (a8 σ b)) (σ v)):Mgu σ2 (E++[(a,b)]):=by
 obtain ⟨B,hB⟩:∃ B,B=a8 σ b:=⟨_,rfl⟩
 rw [<-hB] at hb kV h2;have vQ:B.strip=B:=by rw [hB,A6]
 have hr:∀ t,a8 σ2 t=a8 (W5 x B) (a8 σ t):=fun t=>by rw [a3X];exact D7 fun v hv=>h2 v (o5 _ v hv)
 have mQ:W5 x B x=B:=if_pos rfl;refine ⟨?_,fun v hv=>by rw [h2 v hv,A6],fun v hv u hu=>?_,fun τ ht v hv=>?_,fun v hv hf=>?_⟩
 ·rw [B9,B4];refine ⟨fun p hp=>by rw [hr,hr,h.uni p hp],?_⟩;rw [hr,hr,ha,F3 hx,mQ,<-hB,b2j hb]
 ·rw [h2 v hv,a1C,mem_flatMap] at hu;obtain ⟨w,hw,hu⟩:=hu;have eT:=o5 _ w hw;have:σ u=q7 u/\u≠x:=by
   by_cases e:w=x
   ·rw [e,mQ] at hu;refine ⟨h.rep_vs (t:=b) (by rw [<-hB];exact hu),fun e=>hb (e▸hu)⟩
   ·unfold W5 at hu;rw [if_neg e,Tm.vs_var (by rw [s7];omega),s7,mem_singleton] at hu;have:u=w:=by omega
    rw [this];exact ⟨h.idem v hv w hw,e⟩
  have eS:0<=u:=o5 _ u hu;rw [h2 u eS,this.1,F3 eS];unfold W5;rw [if_neg this.2,w9]
 ·rw [B9,B4] at ht;rw [h2 v hv,a3X,<-h.most τ ht.1 v hv];have:∀ w∈(σ v).vs,a8 τ (W5 x B w)=(τ w).strip:=fun w hw=>by
   have eT:=o5 _ w hw;by_cases e:w=x
   ·rw [e,mQ,hB,h.rep ht.1,<-ht.2,<-h.rep ht.1,ha,F3 hx]
   ·unfold W5;rw [if_neg e,F3 eT]
  have h3:∀ t:Tm,(∀ w∈t.vs,a8 τ (W5 x B w)=(τ w).strip)->a8 (fun v=>a8 τ (W5 x B v)) t=a8 τ t:=by
   refine Tm.ind fun f l ih hw=>?_;rcases Decidable.em (f<0) with hf | hf
   ·rw [l4 (t:=⟨f,l⟩) hf,l4 (t:=⟨f,l⟩) hf,hw _ (by rw [Tm.vs_var (t:=⟨f,l⟩) hf];simp),Tm.strip_strip]
   ·have tQ:¬ (⟨f,l⟩:Tm).f<0:=by show ¬ f<0;omega
    rw [d8 tQ,d8 tQ];rw [Tm.vs_sym tQ] at hw;congr 1;exact map_congr_left fun t ht=>ih t ht fun w eP=>hw w (mem_flatMap.2 ⟨t,ht,eP⟩)
  exact h3 _ this
 ·rw [h2 v hv] at hf |-;have h4:=a0x hf;have h5:=h.low v hv h4;rw [l4 h4] at hf |-;obtain ⟨w,hw⟩:∃ w,w = -1-(σ v).f:=⟨_,rfl⟩
  rw [<-hw] at hf h5 |-;by_cases e:w=x
  ·rw [e,mQ,vQ] at hf |-;have:=kV hf;omega
  ·unfold W5;rw [if_neg e,w9,s7];omega
theorem b3w {τ:Int->Tm} {x:Int} {t:Tm} (hx:x∈t.vs) (ht:¬ t.f<0):a8 τ (q7 x)≠a8 τ t:=by
 have jQ:=o5 _ x hx;have key:∀ t:Tm,x∈t.vs->(a8 τ (q7 x)).size<=(a8 τ t).size/\(¬ t.f<0->(a8 τ (q7 x)).size<(a8 τ t).size):=by
  refine Tm.ind fun f l ih hx=>?_;rcases Decidable.em (f<0) with hf | hf
  ·rw [Tm.vs_var (t:=⟨f,l⟩) hf,mem_singleton] at hx;refine ⟨?_,fun h=>absurd hf h⟩;rw [F3 jQ,l4 (t:=⟨f,l⟩) hf,<-hx];exact Nat.le_refl _
  ·have tQ:¬ (⟨f,l⟩:Tm).f<0:=by show ¬ f<0;omega
   rw [Tm.vs_sym tQ,mem_flatMap] at hx;obtain ⟨s,hs,eV⟩:=hx;have h1:=(ih s hs eV).1;have h2:(a8 τ s).size<(a8 τ ⟨f,l⟩).size:=by refine Tm.size_part ?_;rw [d8 tQ,Tm.ps_of_sym (by show 0<=f;omega)];exact mem_map.2 ⟨s,hs,rfl⟩
   exact ⟨by omega,fun _=>by omega⟩
 intro e;have:=(key t hx).2 ht;rw [e] at this;exact Nat.lt_irrefl _ this
structure Joined (N:Nat) (T:Nat->Tm) (H K:Nat->Nat) (E:List (Tm×Tm)):Prop where
 hd:∀ n,n<N->H n<N/\H (H n)=H n
 low:∀ n,n<N->(T n).f<=(T (H n)).f
 kid:∀ n,n<N->¬ (T n).f<0->∀ i p,(T n).l[i]?=some p->K n+i<N/\T (K n+i)=p
 cls:∀ n,n<N->¬ (T n).f<0->(T (H n)).f=(T n).f/\(T (H n)).l.length=(T n).l.length/\∀ i,i<(T n).l.length->H (K n+i)=H (K (H n)+i)
 var:∀ n m,n<N->m<N->(T n).f<0->(T n).f=(T m).f->H n=H m
 pair:∀ p∈E,∃ n m,n<N/\m<N/\T n=p.1/\T m=p.2/\H n=H m
 sound:∀ τ,uni τ E->∀ n,n<N->a8 τ (T n)=a8 τ (T (H n))
section
variable {N:Nat} {T:Nat->Tm} {H K:Nat->Nat} {E:List (Tm×Tm)}
def a3W (N:Nat) (T:Nat->Tm) (H K:Nat->Nat) (out:Nat->Tm):Prop:=∀ h,h<N->H h=h->out h=⟨(T h).f,if (T h).f<0 then [] else (List.range (T h).l.length).map fun i=>out (H (K h+i))⟩
def a2S (N:Nat) (T:Nat->Tm) (H K:Nat->Nat) (ρ:Nat->Nat):Prop:=∀ h,h<N->H h=h->¬ (T h).f<0->∀ i,i<(T h).l.length->ρ (H (K h+i))<ρ h
theorem Joined.part (j:Joined N T H K E) {h:Nat} (hN:h<N) (hf:¬ (T h).f<0) {i:Nat} (hi:i<(T h).l.length):K h+i<N/\T (K h+i)=(T h).l[i]/\H (K h+i)<N/\H (H (K h+i))=H (K h+i):=by
 obtain ⟨h1,h2⟩:=j.kid h hN hf i _ (getElem?_eq_getElem hi);exact ⟨h1,h2,j.hd _ h1⟩
theorem Joined.ind (j:Joined N T H K E) {ρ:Nat->Nat} (hr:a2S N T H K ρ) {Q:Nat->Prop} (hQ:∀ h,h<N->H h=h->(¬ (T h).f<0->∀ i,i<(T h).l.length->Q (H (K h+i)))->Q h):∀ h,h<N->H h=h->Q h:=by
 intro h
 induction e:ρ h using Nat.strongRecOn generalizing h with
 | ind k ih =>
  intro hN hh;refine hQ h hN hh fun hf i hi=>?_;obtain ⟨_,_,h3,h4⟩:=j.part hN hf hi;exact ih _ (by rw [<-e];exact hr h hN hh hf i hi) _ rfl h3 h4
theorem a7Q {out:Nat->Tm} (ho:a3W N T H K out) {h:Nat} (hN:h<N) (hh:H h=h) (hf:(T h).f<0):out h=⟨(T h).f,[]⟩:=by rw [ho h hN hh,if_pos hf]
theorem a3I {out:Nat->Tm} (ho:a3W N T H K out) {h:Nat} (hN:h<N) (hh:H h=h) (hf:¬ (T h).f<0):out h=⟨(T h).f,(List.range (T h).l.length).map fun i=>out (H (K h+i))⟩:=by rw [ho h hN hh,if_neg hf]
theorem c2W {out:Nat->Tm} (ho:a3W N T H K out) {h:Nat} (hN:h<N) (hh:H h=h):(out h).f=(T h).f:=by rw [ho h hN hh]
theorem a5Q {l:List Tm} {g g':Tm->Tm} {q:Nat->Tm} (h:∀ i (hi:i<l.length),g l[i]=g' (q i)):l.map g=((List.range l.length).map q).map g':=by
 apply List.ext_getElem
 ·simp
 ·intro i h1 h2;simp only [List.getElem_map,List.getElem_range];exact h i (by simpa using h1)
theorem Joined.out_bare (j:Joined N T H K E) {ρ:Nat->Nat} (hr:a2S N T H K ρ) {out:Nat->Tm} (ho:a3W N T H K out):∀ h,h<N->H h=h->(out h).strip=out h:=
 j.ind hr fun h hN hh ih=>by
  by_cases hf:(T h).f<0
  ·rw [a7Q ho hN hh hf,a0U (t:=⟨(T h).f,[]⟩) hf]
  ·rw [a3I ho hN hh hf,Tm.strip_eq,Tm.ps_of_sym (t:=⟨(T h).f,_⟩) (by show 0<=(T h).f;omega)];congr 1;rw [map_map];exact map_congr_left fun i hi=>ih hf i (mem_range.1 hi)
structure c2a (N:Nat) (T:Nat->Tm) (H:Nat->Nat) (out:Nat->Tm) (σ:Int->Tm):Prop where
 at_:∀ n,n<N->(T n).f<0->σ (-1-(T n).f)=out (H n)
 off:∀ v,0<=v->(∀ n,n<N->(T n).f ≠ -1-v)->σ v=q7 v
theorem Joined.rep (j:Joined N T H K E) {ρ:Nat->Nat} (hr:a2S N T H K ρ) {out:Nat->Tm} (ho:a3W N T H K out) {σ:Int->Tm} (hs:c2a N T H out σ):∀ (t:Tm) (n:Nat),n<N->T n=t->a8 σ t=out (H n):=by
 refine Tm.ind fun f l ih n hN e=>?_;obtain ⟨hH,hHH⟩:=j.hd n hN;by_cases hf:f<0
 ·have:=hs.at_ n hN (by rw [e];exact hf);rw [e] at this;rw [l4 (t:=⟨f,l⟩) hf,this,j.out_bare hr ho _ hH hHH]
 ·have dM:¬ (T n).f<0:=by rw [e];exact hf
  obtain ⟨c1,c2,c3⟩:=j.cls n hN dM;rw [d8 (t:=⟨f,l⟩) hf,a3I ho hH hHH (by rw [c1];exact dM),c1,c2,e];congr 1;have:=a5Q (l:=l) (g:=a8 σ) (g':=id) (q:=fun i=>out (H (K (H n)+i))) fun i hi=>by
   have gH:i<(T n).l.length:=by rw [e];exact hi
   obtain ⟨p1,p2,_⟩:=j.part hN dM gH;have p3:(T n).l[i]=l[i]:=by simp only [e]
   rw [ih l[i] (List.getElem_mem hi) (K n+i) p1 (by rw [p2,p3]),c3 i gH];rfl
  rw [this,List.map_id]
theorem Joined.most (j:Joined N T H K E) {ρ:Nat->Nat} (hr:a2S N T H K ρ) {out:Nat->Tm} (ho:a3W N T H K out) {τ:Int->Tm} (ht:uni τ E):∀ h,h<N->H h=h->a8 τ (out h)=a8 τ (T h):=
 j.ind hr fun h hN hh ih=>by
  by_cases hf:(T h).f<0
  ·rw [a7Q ho hN hh hf,l4 (t:=⟨(T h).f,[]⟩) hf,l4 hf]
  ·rw [a3I ho hN hh hf,d8 (t:=⟨(T h).f,_⟩) hf,d8 hf];congr 1;refine (a5Q fun i hi=>?_).symm;obtain ⟨p1,p2,_⟩:=j.part hN hf hi;rw [ih hf i hi,<-j.sound τ ht _ p1,p2]
theorem Joined.idem (j:Joined N T H K E) {ρ:Nat->Nat} (hr:a2S N T H K ρ) {out:Nat->Tm} (ho:a3W N T H K out) {σ:Int->Tm} (hs:c2a N T H out σ):∀ h,h<N->H h=h->∀ u∈(out h).vs,σ u=q7 u:=
 j.ind hr fun h hN hh ih u hu=>by
  by_cases hf:(T h).f<0
  ·have h1:=a7Q ho hN hh hf;rw [h1,Tm.vs_var (t:=⟨(T h).f,[]⟩) hf,mem_singleton] at hu;have h2:=hs.at_ h hN hf;rw [hh,h1] at h2;have hu:u = -1-(T h).f:=hu;rw [hu,h2];unfold q7;rw [show -1-(-1-(T h).f)=(T h).f by omega]
  ·rw [a3I ho hN hh hf,Tm.vs_sym (t:=⟨(T h).f,_⟩) hf,mem_flatMap] at hu;obtain ⟨t,ht,hu⟩:=hu;obtain ⟨i,hi,rfl⟩:=mem_map.1 ht;exact ih hf i (mem_range.1 hi) u hu
theorem Joined.mgu (j:Joined N T H K E) {ρ:Nat->Nat} (hr:a2S N T H K ρ) {out:Nat->Tm} (ho:a3W N T H K out) {σ:Int->Tm} (hs:c2a N T H out σ):Mgu σ E:=by
 have two:∀ v,0<=v->(∃ n,n<N/\(T n).f = -1-v/\σ v=out (H n))\/σ v=q7 v:=fun v hv=>by
  by_cases h:∃ n,n<N/\(T n).f = -1-v
  ·obtain ⟨n,h1,h2⟩:=h;have:=hs.at_ n h1 (by omega);rw [h2,show -1-(-1-v)=v by omega] at this;exact .inl ⟨n,h1,h2,this⟩
  ·exact .inr (hs.off v hv fun n h1 h2=>h ⟨n,h1,h2⟩)
 refine ⟨fun p hp=>?_,fun v hv=>?_,fun v hv u hu=>?_,fun τ ht v hv=>?_,fun v hv hf=>?_⟩
 ·obtain ⟨n,m,h1,h2,h3,h4,h5⟩:=j.pair p hp;rw [j.rep hr ho hs p.1 n h1 h3,j.rep hr ho hs p.2 m h2 h4,h5]
 ·rcases two v hv with ⟨n,h1,h2,h3⟩ | h3
  ·rw [h3,j.out_bare hr ho _ (j.hd n h1).1 (j.hd n h1).2]
  ·rw [h3,w9]
 ·rcases two v hv with ⟨n,h1,h2,h3⟩ | h3
  ·rw [h3] at hu;exact j.idem hr ho hs _ (j.hd n h1).1 (j.hd n h1).2 u hu
  ·rw [h3,Tm.vs_var (by rw [s7];omega),s7,mem_singleton] at hu;rw [show u=v by omega];exact h3
 ·rcases two v hv with ⟨n,h1,h2,h3⟩ | h3
  ·rw [h3,j.most hr ho ht _ (j.hd n h1).1 (j.hd n h1).2,<-j.sound τ ht n h1,l4 (by omega),h2,show -1-(-1-v)=v by omega]
  ·rw [h3,F3 hv]
 ·rcases two v hv with ⟨n,h1,h2,h3⟩ | h3
  ·have:=j.low n h1;rw [h3,c2W ho (j.hd n h1).1 (j.hd n h1).2];omega
  ·rw [h3,s7];omega
theorem Joined.no (j:Joined N T H K E) {O:Nat->Prop} (hO:∀ h,h<N->H h=h->¬ O h->∃ g,g<N/\H g=g/\¬ O g/\¬ (T g).f<0/\∃ i,i<(T g).l.length/\H (K g+i)=h) {h0:Nat} (hN0:h0<N) (hh0:H h0=h0) (tO:¬ O h0) (τ:Int->Tm):¬ uni τ E:=by
 intro ht;have up:∀ k:Nat,∃ h,h<N/\H h=h/\¬ O h/\k<=(a8 τ (T h)).size:=fun k=>by
  induction k with
  | zero=>exact ⟨h0,hN0,hh0,tO,Nat.zero_le _⟩
  | succ k ih =>
   obtain ⟨h,h1,h2,h3,h4⟩:=ih;obtain ⟨g,g1,g2,g3,g4,i,g5,g6⟩:=hO h h1 h2 h3;refine ⟨g,g1,g2,g3,?_⟩;obtain ⟨p1,p2,_⟩:=j.part g1 g4 g5;have h5:a8 τ (T h)=a8 τ (T g).l[i]:=by rw [<-g6,<-j.sound τ ht _ p1,p2]
   have h6:(a8 τ (T g).l[i]).size<(a8 τ (T g)).size:=by refine Tm.size_part ?_;rw [d8 g4,Tm.ps_of_sym (t:=⟨(T g).f,_⟩) (by show 0<=(T g).f;omega)];exact mem_map.2 ⟨_,List.getElem_mem g5,rfl⟩
   rw [h5] at h4;omega
 have top:∀ M:Nat,∃ B,∀ n,n<M->(a8 τ (T n)).size<=B:=fun M=>by
  induction M with
  | zero=>exact ⟨0,fun n hn=>by omega⟩
  | succ M ih =>
   obtain ⟨B,hB⟩:=ih;refine ⟨max B (a8 τ (T M)).size,fun n hn=>?_⟩;rcases Nat.lt_or_ge n M with h | h
   ·exact Nat.le_trans (hB n h) (Nat.le_max_left _ _)
   ·rw [show n=M by omega];exact Nat.le_max_right _ _
 obtain ⟨B,hB⟩:=top N;obtain ⟨h,h1,_,_,h4⟩:=up (B+1);have:=hB h h1;omega
end
def o7:List (Int×Nat)->Int->Option Nat
 | [],_=>none
 | p::l,v=>if p.1=v then some p.2 else o7 l v
theorem T3 (l:List (Int×Nat)) (u:Int) (n:Nat) (v:Int):o7 (l++[(u,n)]) v=(o7 l v).or (if u=v then some n else none):=by
 induction l with
 | nil=>rfl
 | cons p l ih =>
  rw [cons_append,o7,o7];split
  ·rfl
  ·exact ih
def Con (N:Nat) (H:Nat->Nat) (ps:List (Nat×Nat)) (x y:Nat):Prop:=∀ G:Nat->Nat,(∀ m,m<N->G m=G (H m))->(∀ p∈ps,G p.1=G p.2)->G x=G y
structure Cls (N:Nat) (T:Nat->Tm) (K U H r:Nat->Nat) (vr:List (Int×Nat)) (ps:List (Nat×Nat)) (E:List (Tm×Tm)):Prop where
 hd:∀ n,n<N->H n<N/\H (H n)=H n
 up:∀ n,n<N->U n<N/\H (U n)=H n/\(H n=n->U n=n)
 rank:∀ n,n<N->H n≠n->r (U n)<r n
 low:∀ n,n<N->(T n).f<=(T (H n)).f
 kid:∀ n,n<N->K n≠0->¬ (T n).f<0/\∀ i,i<(T n).l.length->K n+i<N/\(T n).l[i]?=some (T (K n+i))
 vrs:∀ n,n<N->(T n).f<0->∃ m,o7 vr (-1-(T n).f)=some m/\H n=H m
 vrt:∀ v m,o7 vr v=some m->m<N/\(T m).f = -1-v
 cls:∀ n,n<N->¬ (T n).f<0->H n≠n->(T (H n)).f=(T n).f/\(T (H n)).l.length=(T n).l.length/\((T n).l.length≠0->K n≠0/\K (H n)≠0)/\∀ i,i<(T n).l.length->Con N H ps (K n+i) (K (H n)+i)
 pss:∀ p∈ps,p.1<N/\p.2<N
 pair:∀ p∈E,∃ n m,n<N/\m<N/\T n=p.1/\T m=p.2/\Con N H ps n m
 sound:∀ τ,uni τ E->(∀ n,n<N->a8 τ (T n)=a8 τ (T (H n)))/\∀ p∈ps,a8 τ (T p.1)=a8 τ (T p.2)
section
variable {N:Nat} {T:Nat->Tm} {K U H r:Nat->Nat} {vr:List (Int×Nat)} {ps:List (Nat×Nat)} {E:List (Tm×Tm)}
def upd {α:Type} (f:Nat->α) (n:Nat) (x:α) (m:Nat):α:=if m=n then x else f m
theorem j5 {α:Type} {f:Nat->α} {n:Nat} {x:α}:upd f n x n=x:=if_pos rfl
theorem p5 {α:Type} {f:Nat->α} {n m:Nat} {x:α} (h:m≠n):upd f n x m=f m:=if_neg h
theorem Cls.nil:Cls 0 T K U H r [] [] []:=
 ⟨fun n h=>by omega,fun n h=>by omega,fun n h=>by omega,fun n h=>by omega,fun n h=>by omega,fun n h=>by omega,fun v m h=>(by cases h),fun n h=>by omega,fun p h=>(by cases h),fun p h=>(by cases h),fun τ _=>⟨fun n h=>by omega,fun p h=>(by cases h)⟩⟩
theorem Cls.add (h:Cls N T K U H r vr ps E) {t:Tm} {u:Nat} {vr':List (Int×Nat)} (hu:u<=N) (hb:u<N->t.f<0/\(T u).f=t.f) (gB:∀ v m,o7 vr v=some m->o7 vr' v=some m) (gI:∀ v m,o7 vr' v=some m->o7 vr v=some m\/(m=N/\t.f = -1-v)) (mO:t.f<0->o7 vr' (-1-t.f)=some u) :
  Cls (N+1) (upd T N t) (upd K N 0) (upd U N u) (upd H N (if u=N then N else H u)) (upd r N (if u=N then 0 else r u+1)) vr' ps E:=by
 have hH:∀ {n},n<N->upd H N (if u=N then N else H u) n=H n:=fun hn=>p5 (by omega);have hT:∀ {n},n<N->upd T N t n=T n:=fun hn=>p5 (by omega);have hK:∀ {n},n<N->upd K N 0 n=K n:=fun hn=>p5 (by omega);have hU:∀ {n},n<N->upd U N u n=U n:=fun hn=>p5 (by omega);have hr:∀ {n},n<N->upd r N (if u=N then 0 else r u+1) n=r n:=fun hn=>p5 (by omega);have con:∀ {x y},Con N H ps x y->Con (N+1) (upd H N (if u=N then N else H u)) ps x y:=fun hc G g1 g2=>hc G (fun m hm=>by have:=g1 m (by omega);rw [hH hm] at this;exact this) g2;have two:∀ {n},n<N+1->n<N\/n=N:=fun hn=>by omega
 refine ⟨fun n hn=>?_,fun n hn=>?_,fun n hn kE=>?_,fun n hn=>?_,fun n hn hk=>?_,fun n hn hf=>?_,fun v m hl=>?_,fun n hn hf kE=>?_,fun p hp=>?_,fun p hp=>?_,fun τ ht=>?_⟩
 ·rcases two hn with hn | rfl
  ·have:=h.hd n hn;rw [hH hn,hH this.1];exact ⟨by omega,this.2⟩
  ·rw [j5];split
   ·exact ⟨by omega,by rw [j5]⟩
   ·have:=h.hd u (by omega);rw [p5 (by omega)];exact ⟨by omega,this.2⟩
 ·rcases two hn with hn | rfl
  ·have:=h.up n hn;rw [hU hn,hH hn,hH this.1];exact ⟨by omega,this.2⟩
  ·rw [j5,j5];by_cases e:u=n
   ·rw [if_pos e,e,j5];exact ⟨by omega,by simp,fun _=>rfl⟩
   ·rw [if_neg e,p5 e];refine ⟨by omega,rfl,fun e2=>?_⟩;have:=(h.hd u (by omega)).1;omega
 ·rcases two hn with hn | rfl
  ·rw [hH hn] at kE;rw [hU hn,hr hn,hr (h.up n hn).1];exact h.rank n hn kE
  ·rw [j5] at kE;rw [j5,j5];by_cases e:u=n
   ·rw [if_pos e] at kE;exact absurd rfl kE
   ·rw [if_neg e,p5 e];omega
 ·rcases two hn with hn | rfl
  ·rw [hH hn,hT hn,hT (h.hd n hn).1];exact h.low n hn
  ·rw [j5,j5];by_cases e:u=n
   ·rw [if_pos e,j5];exact Int.le_refl _
   ·rw [if_neg e];have h1:=h.hd u (by omega);have h2:=h.low u (by omega);rw [hT h1.1,<-(hb (by omega)).2];exact h2
 ·rcases two hn with hn | rfl
  ·rw [hK hn] at hk |-;rw [hT hn];obtain ⟨h1,h2⟩:=h.kid n hn hk;refine ⟨h1,fun i hi=>?_⟩;have:=h2 i hi;rw [hT this.1];exact ⟨by omega,this.2⟩
  ·rw [j5] at hk;exact absurd rfl hk
 ·rcases two hn with hn | rfl
  ·rw [hT hn] at hf |-;obtain ⟨m,h1,h2⟩:=h.vrs n hn hf;have:=(h.vrt _ m h1).1;exact ⟨m,gB _ _ h1,by rw [hH hn,hH this,h2]⟩
  ·rw [j5] at hf |-;refine ⟨u,mO hf,?_⟩;rw [j5];by_cases e:u=n
   ·rw [if_pos e,e,j5]
   ·rw [if_neg e,p5 e]
 ·rcases gI v m hl with h1 | ⟨rfl,h1⟩
  ·have:=h.vrt v m h1;rw [hT this.1];exact ⟨by omega,this.2⟩
  ·rw [j5];exact ⟨by omega,h1⟩
 ·rcases two hn with hn | rfl
  ·have h1:=(h.hd n hn).1;rw [hT hn] at hf |-;rw [hH hn] at kE |-;rw [hT h1,hK hn,hK h1];obtain ⟨c1,c2,c3,c4⟩:=h.cls n hn hf kE;exact ⟨c1,c2,c3,fun i hi=>con (c4 i hi)⟩
  ·rw [j5] at hf kE;by_cases e:u=n
   ·rw [if_pos e] at kE;exact absurd rfl kE
   ·exact absurd (hb (by omega)).1 hf
 ·have:=h.pss p hp;exact ⟨by omega,by omega⟩
 ·obtain ⟨n,m,h1,h2,h3,h4,h5⟩:=h.pair p hp;exact ⟨n,m,by omega,by omega,by rw [hT h1];exact h3,by rw [hT h2];exact h4,con h5⟩
 ·obtain ⟨s1,s2⟩:=h.sound τ ht;refine ⟨fun n hn=>?_,fun p hp=>?_⟩
  ·rcases two hn with hn | rfl
   ·rw [hH hn,hT hn,hT (h.hd n hn).1];exact s1 n hn
   ·rw [j5,j5];by_cases e:u=n
    ·rw [if_pos e,j5]
    ·have hu':u<n:=by omega
     rw [if_neg e,hT (h.hd u hu').1,<-s1 u hu'];obtain ⟨f1,f2⟩:=hb hu';rw [l4 f1,l4 (by rw [f2];exact f1),f2]
  ·have:=h.pss p hp;rw [hT this.1,hT this.2];exact s2 p hp
theorem Cls.setK (h:Cls N T K U H r vr ps E) {n k:Nat} (hn:n<N) (hk:K n=0) (hf:¬ (T n).f<0) (hp:∀ i,i<(T n).l.length->k+i<N/\(T n).l[i]?=some (T (k+i))):Cls N T (upd K n k) U H r vr ps E:=by
 refine ⟨h.hd,h.up,h.rank,h.low,fun m hm h1=>?_,h.vrs,h.vrt,fun m hm h1 h2=>?_,h.pss,h.pair,h.sound⟩
 ·by_cases e:m=n
  ·subst e;rw [j5];exact ⟨hf,hp⟩
  ·rw [p5 e] at h1 |-;exact h.kid m hm h1
 ·obtain ⟨c1,c2,c3,c4⟩:=h.cls m hm h1 h2;refine ⟨c1,c2,fun h3=>?_,fun i hi=>?_⟩
  ·obtain ⟨d1,d2⟩:=c3 h3;rw [p5 (m:=m) (fun e=>d1 (by rw [e];exact hk)),p5 (m:=H m) (fun e=>d2 (by rw [e];exact hk))];exact ⟨d1,d2⟩
  ·obtain ⟨d1,d2⟩:=c3 (by omega);rw [p5 (m:=m) (fun e=>d1 (by rw [e];exact hk)),p5 (m:=H m) (fun e=>d2 (by rw [e];exact hk))];exact c4 i hi
theorem Cls.halve (h:Cls N T K U H r vr ps E) {n:Nat} (hn:n<N):Cls N T K (upd U n (U (U n))) H r vr ps E:=by
 obtain ⟨u1,u2,u3⟩:=h.up n hn;obtain ⟨v1,v2,v3⟩:=h.up (U n) u1;refine ⟨h.hd,fun m hm=>?_,fun m hm h1=>?_,h.low,h.kid,h.vrs,h.vrt,h.cls,h.pss,h.pair,h.sound⟩
 ·by_cases e:m=n
  ·subst e;rw [j5];exact ⟨v1,by rw [v2,u2],fun e=>by rw [u3 e];exact u3 e⟩
  ·rw [p5 e];exact h.up m hm
 ·by_cases e:m=n
  ·subst e;rw [j5];have h2:=h.rank m hm h1;by_cases e2:H (U m)=U m
   ·rw [v3 e2];exact h2
   ·have:=h.rank (U m) u1 e2;omega
  ·rw [p5 e];exact h.rank m hm h1
theorem Cls.drop {x y:Nat} (h:Cls N T K U H r vr (ps++[(x,y)]) E) (e:H x=H y):Cls N T K U H r vr ps E:=by
 have lG:=h.pss (x,y) (by simp);have con:∀ {p q},Con N H (ps++[(x,y)]) p q->Con N H ps p q:=fun hc G g1 g2=>hc G g1 fun p hp=>by
  rcases mem_append.1 hp with hp | hp
  ·exact g2 p hp
  ·rw [mem_singleton] at hp;rw [hp];show G x=G y;rw [g1 x lG.1,g1 y lG.2,e]
 refine ⟨h.hd,h.up,h.rank,h.low,h.kid,h.vrs,h.vrt,fun n hn h1 h2=>?_,fun p hp=>h.pss p (mem_append_left _ hp),fun p hp=>?_,fun τ ht=>⟨(h.sound τ ht).1,fun p hp=>(h.sound τ ht).2 p (mem_append_left _ hp)⟩⟩
 ·obtain ⟨c1,c2,c3,c4⟩:=h.cls n hn h1 h2;exact ⟨c1,c2,c3,fun i hi=>con (c4 i hi)⟩
 ·obtain ⟨n,m,h1,h2,h3,h4,h5⟩:=h.pair p hp;exact ⟨n,m,h1,h2,h3,h4,con h5⟩
theorem Cls.push (h:Cls N T K U H r vr ps E) {n m:Nat} (hn:n<N) (hm:m<N):Cls N T K U H r vr (ps++[(n,m)]) (E++[(T n,T m)]):=by
 have con:∀ {p q},Con N H ps p q->Con N H (ps++[(n,m)]) p q:=fun hc G g1 g2=>hc G g1 fun p hp=>g2 p (mem_append_left _ hp);refine ⟨h.hd,h.up,h.rank,h.low,h.kid,h.vrs,h.vrt,fun a ha h1 h2=>?_,fun p hp=>?_,fun p hp=>?_,fun τ ht=>?_⟩
 ·obtain ⟨c1,c2,c3,c4⟩:=h.cls a ha h1 h2;exact ⟨c1,c2,c3,fun i hi=>con (c4 i hi)⟩
 ·rcases mem_append.1 hp with hp | hp
  ·exact h.pss p hp
  ·rw [mem_singleton] at hp;rw [hp];exact ⟨hn,hm⟩
 ·rcases mem_append.1 hp with hp | hp
  ·obtain ⟨a,b,h1,h2,h3,h4,h5⟩:=h.pair p hp;exact ⟨a,b,h1,h2,h3,h4,con h5⟩
  ·rw [mem_singleton] at hp;rw [hp];exact ⟨n,m,hn,hm,rfl,rfl,fun G _ g2=>g2 (n,m) (by simp)⟩
 ·rw [B9,B4] at ht;obtain ⟨s1,s2⟩:=h.sound τ ht.1;refine ⟨s1,fun p hp=>?_⟩;rcases mem_append.1 hp with hp | hp
  ·exact s2 p hp
  ·rw [mem_singleton] at hp;rw [hp];exact ht.2
theorem Cls.union {x y:Nat} (h:Cls N T K U H r vr (ps++[(x,y)]) E) {a b:Nat} (ha:a<N) (hb:b<N) (pE:H a=a) (pF:H b=b) (oI:a≠b) (lG:(H x=a/\H y=b)\/(H x=b/\H y=a)) (kV:(T a).f<=(T b).f) {qs:List (Nat×Nat)}
  (hs:¬ (T a).f<0->(T b).f=(T a).f/\(T b).l.length=(T a).l.length/\((T a).l.length≠0->K a≠0/\K b≠0)/\∀ i,i<(T a).l.length->(K a+i,K b+i)∈qs)
  (hq:∀ q∈qs,¬ (T a).f<0/\∃ i,i<(T a).l.length/\q=(K a+i,K b+i)) :
  Cls N T K (upd U a b) (fun m=>if H m=a then b else H m) (fun m=>if H m=a then r m+r b+1 else r m) vr (ps++qs) E:=by
 have fC:=h.pss (x,y) (by simp);obtain ⟨H',hH'⟩:∃ H':Nat->Nat,H'=fun m=>if H m=a then b else H m:=⟨_,rfl⟩
 have e1:∀ {m},H m=a->H' m=b:=fun e=>by rw [hH'];exact if_pos e
 have e2:∀ {m},H m≠a->H' m=H m:=fun e=>by rw [hH'];exact if_neg e
 rw [<-hH'];have qW:¬ (T a).f<0->∀ i,i<(T a).l.length->K a+i<N/\K b+i<N/\(T a).l[i]?=some (T (K a+i))/\(T b).l[i]?=some (T (K b+i)):=fun hf i hi=>by obtain ⟨_,s2,s3,_⟩:=hs hf;obtain ⟨k1,k2⟩:=s3 (by omega);have p1:=(h.kid a ha k1).2 i hi;have p2:=(h.kid b hb k2).2 i (by omega);exact ⟨p1.1,p2.1,p1.2,p2.2⟩
 have resp:∀ G:Nat->Nat,(∀ m,m<N->G m=G (H' m))->(∀ p∈ps++qs,G p.1=G p.2)->(∀ m,m<N->G m=G (H m))/\∀ p∈ps++[(x,y)],G p.1=G p.2:=fun G g1 g2=>by
  have g3:∀ m,m<N->G m=G (H m):=fun m hm=>by
   by_cases e:H m=a
   ·rw [g1 m hm,e1 e,e,g1 a ha,e1 pE]
   ·rw [g1 m hm,e2 e]
  refine ⟨g3,fun p hp=>?_⟩;rcases mem_append.1 hp with hp | hp
  ·exact g2 p (mem_append_left _ hp)
  ·rw [mem_singleton] at hp;rw [hp];show G x=G y;have g4:G a=G b:=by rw [g1 a ha,e1 pE]
   rw [g3 x fC.1,g3 y fC.2];rcases lG with ⟨c1,c2⟩ | ⟨c1,c2⟩
   ·rw [c1,c2,g4]
   ·rw [c1,c2,g4]
 have con:∀ {p q},Con N H (ps++[(x,y)]) p q->Con N H' (ps++qs) p q:=fun hc G g1 g2=>hc G (resp G g1 g2).1 (resp G g1 g2).2;have hba:H b≠a:=by rw [pF];exact Ne.symm oI
 refine ⟨fun n hn=>?_,fun n hn=>?_,fun n hn kE=>?_,fun n hn=>?_,h.kid,fun n hn hf=>?_,h.vrt,fun n hn hf kE=>?_,fun p hp=>?_,fun p hp=>?_,fun τ ht=>?_⟩
 ·by_cases e:H n=a
  ·rw [e1 e,e2 hba];exact ⟨hb,pF⟩
  ·have:=h.hd n hn;rw [e2 e,e2 (by rw [this.2];exact e)];exact this
 ·obtain ⟨u1,u2,u3⟩:=h.up n hn;by_cases e:n=a
  ·subst e;rw [j5,e1 pE,e2 hba];exact ⟨hb,pF,fun e=>e⟩
  ·rw [p5 e];by_cases e3:H n=a
   ·rw [e1 e3,e1 (by rw [u2];exact e3)];exact ⟨u1,rfl,fun e4=>by rw [<-e4,pF] at e3;exact absurd e3.symm oI⟩
   ·rw [e2 e3,e2 (by rw [u2];exact e3)];exact ⟨u1,u2,u3⟩
 ·obtain ⟨u1,u2,u3⟩:=h.up n hn;by_cases e:n=a
  ·subst e;rw [j5,if_neg hba,if_pos pE];omega
  ·rw [p5 e];by_cases e3:H n=a
   ·have:=h.rank n hn (by rw [e3];exact Ne.symm e);rw [if_pos e3,if_pos (by rw [u2];exact e3)];omega
   ·rw [e2 e3] at kE;rw [if_neg e3,if_neg (by rw [u2];exact e3)];exact h.rank n hn kE
 ·have:=h.low n hn;by_cases e:H n=a
  ·rw [e1 e];rw [e] at this;omega
  ·rw [e2 e];exact this
 ·obtain ⟨m,h1,h2⟩:=h.vrs n hn hf;refine ⟨m,h1,?_⟩;by_cases e:H n=a
  ·rw [e1 e,e1 (by rw [<-h2];exact e)]
  ·rw [e2 e,e2 (by rw [<-h2];exact e),h2]
 ·by_cases e:H n=a
  ·rw [e1 e];by_cases e3:n=a
   ·subst e3;obtain ⟨s1,s2,s3,s4⟩:=hs hf;exact ⟨s1,s2,s3,fun i hi G g1 g2=>g2 _ (List.mem_append_right _ (s4 i hi))⟩
   ·obtain ⟨c1,c2,c3,c4⟩:=h.cls n hn hf (by rw [e];exact Ne.symm e3);rw [e] at c1 c2 c3 c4;obtain ⟨s1,s2,s3,s4⟩:=hs (by rw [c1];exact hf);refine ⟨by rw [s1,c1],by rw [s2,c2],fun h5=>⟨(c3 h5).1,(s3 (by rw [c2];exact h5)).2⟩,fun i hi G g1 g2=>?_⟩;rw [con (c4 i hi) G g1 g2];exact g2 _ (List.mem_append_right _ (s4 i (by rw [c2];exact hi)))
  ·rw [e2 e] at kE |-;obtain ⟨c1,c2,c3,c4⟩:=h.cls n hn hf kE;exact ⟨c1,c2,c3,fun i hi=>con (c4 i hi)⟩
 ·rcases mem_append.1 hp with hp | hp
  ·exact h.pss p (mem_append_left _ hp)
  ·obtain ⟨hf,i,hi,e⟩:=hq p hp;have:=qW hf i hi;rw [e];exact ⟨this.1,this.2.1⟩
 ·obtain ⟨n,m,h1,h2,h3,h4,h5⟩:=h.pair p hp;exact ⟨n,m,h1,h2,h3,h4,con h5⟩
 ·obtain ⟨s1,s2⟩:=h.sound τ ht;have eN:a8 τ (T x)=a8 τ (T y):=s2 (x,y) (by simp);have jS:a8 τ (T a)=a8 τ (T b):=by
   rw [s1 x fC.1,s1 y fC.2] at eN;rcases lG with ⟨c1,c2⟩ | ⟨c1,c2⟩
   ·rw [c1,c2] at eN;exact eN
   ·rw [c1,c2] at eN;exact eN.symm
  refine ⟨fun n hn=>?_,fun p hp=>?_⟩
  ·by_cases e:H n=a
   ·rw [e1 e,s1 n hn,e,jS]
   ·rw [e2 e];exact s1 n hn
  ·rcases mem_append.1 hp with hp | hp
   ·exact s2 p (mem_append_left _ hp)
   ·obtain ⟨hf,i,hi,e⟩:=hq p hp;obtain ⟨_,_,k3,k4⟩:=qW hf i hi;rw [e];obtain ⟨s3,s4,_⟩:=hs hf;rw [d8 hf,d8 (by rw [s3];exact hf)] at jS;have:=congrArg (fun t:Tm=>t.l[i]?) jS;simp only [List.getElem?_map,k3,k4,Option.map_some,Option.some.injEq] at this;exact this
theorem Cls.clash {x y:Nat} (h:Cls N T K U H r vr (ps++[(x,y)]) E) {a b:Nat} (lG:(H x=a/\H y=b)\/(H x=b/\H y=a)) (hfa:¬ (T a).f<0) (qB:¬ (T b).f<0) (hc:(T a).f≠(T b).f\/(T a).l.length≠(T b).l.length) (τ:Int->Tm):¬ uni τ E:=by
 intro ht;have fC:=h.pss (x,y) (by simp);obtain ⟨s1,s2⟩:=h.sound τ ht;have eN:a8 τ (T x)=a8 τ (T y):=s2 (x,y) (by simp);have jS:a8 τ (T a)=a8 τ (T b):=by
  rw [s1 x fC.1,s1 y fC.2] at eN;rcases lG with ⟨c1,c2⟩ | ⟨c1,c2⟩
  ·rw [c1,c2] at eN;exact eN
  ·rw [c1,c2] at eN;exact eN.symm
 rw [d8 hfa,d8 qB] at jS;have h4:=congrArg Tm.f jS;have h5:=congrArg (fun t:Tm=>t.l.length) jS;simp only [length_map] at h4 h5;rcases hc with hc | hc
 ·exact hc h4
 ·exact hc h5
theorem Cls.joined (h:Cls N T K U H r vr [] E) (hk:∀ n,n<N->¬ (T n).f<0->(T n).l.length≠0->K n≠0):Joined N T H K E:=by
 have con:∀ {p q},Con N H [] p q->H p=H q:=fun hc=>hc H (fun m hm=>(h.hd m hm).2.symm) (fun p hp=>by cases hp);refine ⟨h.hd,h.low,fun n hn hf i p hp=>?_,fun n hn hf=>?_,fun n m hn hm hf e=>?_,fun p hp=>?_,fun τ ht=>(h.sound τ ht).1⟩
 ·have hi:i<(T n).l.length:=by
   rcases Nat.lt_or_ge i (T n).l.length with h1 | h1
   ·exact h1
   ·rw [getElem?_eq_none h1] at hp;cases hp
  obtain ⟨k1,k2⟩:=(h.kid n hn (hk n hn hf (by omega))).2 i hi;rw [k2] at hp;exact ⟨k1,Option.some.inj hp⟩
 ·by_cases e:H n=n
  ·rw [e];exact ⟨rfl,rfl,fun _ _=>rfl⟩
  ·obtain ⟨c1,c2,c3,c4⟩:=h.cls n hn hf e;exact ⟨c1,c2,fun i hi=>con (c4 i hi)⟩
 ·obtain ⟨a,a1,a2⟩:=h.vrs n hn hf;obtain ⟨b,b1,b2⟩:=h.vrs m hm (by rw [<-e];exact hf);rw [<-e,a1] at b1;rw [a2,b2,Option.some.inj b1]
 ·obtain ⟨n,m,h1,h2,h3,h4,h5⟩:=h.pair p hp;exact ⟨n,m,h1,h2,h3,h4,con h5⟩
end
theorem Cls.congr {N:Nat} {T T':Nat->Tm} {K K' U U' H H' r:Nat->Nat} {vr ps E} (h:Cls N T K U H r vr ps E) (hT:∀ n,n<N->T' n=T n) (hK:∀ n,n<N->K' n=K n) (hU:∀ n,n<N->U' n=U n) (hH:∀ n,n<N->H' n=H n):Cls N T' K' U' H' r vr ps E:=by
 have con:∀ {x y},Con N H ps x y->Con N H' ps x y:=fun hc G g1 g2=>hc G (fun m hm=>by rw [g1 m hm,hH m hm]) g2;refine ⟨fun n hn=>?_,fun n hn=>?_,fun n hn kE=>?_,fun n hn=>?_,fun n hn hk=>?_,fun n hn hf=>?_,fun v m hl=>?_,fun n hn hf kE=>?_,h.pss,fun p hp=>?_,fun τ ht=>?_⟩
 ·have:=h.hd n hn;rw [hH n hn,hH _ this.1];exact this
 ·have:=h.up n hn;rw [hU n hn,hH n hn,hH _ this.1];exact this
 ·rw [hH n hn] at kE;rw [hU n hn];exact h.rank n hn kE
 ·rw [hH n hn,hT n hn,hT _ (h.hd n hn).1];exact h.low n hn
 ·rw [hK n hn] at hk |-;rw [hT n hn];obtain ⟨h1,h2⟩:=h.kid n hn hk;refine ⟨h1,fun i hi=>?_⟩;have:=h2 i hi;rw [hT _ this.1];exact this
 ·rw [hT n hn] at hf |-;obtain ⟨m,h1,h2⟩:=h.vrs n hn hf;exact ⟨m,h1,by rw [hH n hn,hH m (h.vrt _ m h1).1];exact h2⟩
 ·have:=h.vrt v m hl;rw [hT m this.1];exact this
 ·have h1:=(h.hd n hn).1;rw [hT n hn] at hf |-;rw [hH n hn] at kE |-;rw [hT _ h1,hK n hn,hK _ h1];obtain ⟨c1,c2,c3,c4⟩:=h.cls n hn hf kE;exact ⟨c1,c2,c3,fun i hi=>con (c4 i hi)⟩
 ·obtain ⟨n,m,h1,h2,h3,h4,h5⟩:=h.pair p hp;exact ⟨n,m,h1,h2,by rw [hT n h1];exact h3,by rw [hT m h2];exact h4,con h5⟩
 ·obtain ⟨s1,s2⟩:=h.sound τ ht;refine ⟨fun n hn=>?_,fun p hp=>?_⟩
  ·rw [hH n hn,hT n hn,hT _ (h.hd n hn).1];exact s1 n hn
  ·have:=h.pss p hp;rw [hT _ this.1,hT _ this.2];exact s2 p hp
structure Nd where
 t:Tm
 fi:Nat
 up:Nat
 us:Int
def ndD:Nd:=⟨⟨0,[]⟩,0,0,0⟩
def nT (ns:List Nd) (n:Nat):Tm:=(ns.getD n ndD).t
def nK (ns:List Nd) (n:Nat):Nat:=(ns.getD n ndD).fi
def nU (ns:List Nd) (n:Nat):Nat:=(ns.getD n ndD).up
def nS (ns:List Nd) (n:Nat):Int:=(ns.getD n ndD).us
def setFi (ns:List Nd) (n k:Nat):List Nd:=ns.set n { ns.getD n ndD with fi:=k }
def setUp (ns:List Nd) (n k:Nat):List Nd:=ns.set n { ns.getD n ndD with up:=k }
structure Cl where
 ns:List Nd
 vr:List (Int×Nat)
 ps:List (Nat×Nat)
def ClsC (c:Cl) (H r:Nat->Nat) (E:List (Tm×Tm)):Prop:=Cls c.ns.length (nT c.ns) (nK c.ns) (nU c.ns) H r c.vr c.ps E
theorem a3U {ns:List Nd} {x:Nd} {n:Nat} (h:n<ns.length):(ns++[x]).getD n ndD=ns.getD n ndD:=by
 rw [getD_eq_getElem?_getD,getD_eq_getElem?_getD,getElem?_append_left h]
theorem G9 {ns:List Nd} {x:Nd}:(ns++[x]).getD ns.length ndD=x:=by
 rw [getD_eq_getElem?_getD,getElem?_append_right (Nat.le_refl _),Nat.sub_self];rfl
theorem Z7 {ns:List Nd} {x:Nd} {n m:Nat} (h:n<ns.length):(ns.set n x).getD m ndD=if m=n then x else ns.getD m ndD:=by
 rw [getD_eq_getElem?_getD,List.getElem?_set];by_cases e:m=n
 ·subst e;rw [if_pos rfl,if_pos h,if_pos rfl];rfl
 ·rw [if_neg (Ne.symm e),if_neg e,getD_eq_getElem?_getD]
theorem a4C {α:Type} (g:Nd->α) {ns:List Nd} {x:Nd} {n:Nat} (hn:n<ns.length+1):g ((ns++[x]).getD n ndD)=upd (fun m=>g (ns.getD m ndD)) ns.length (g x) n:=by
 rcases Nat.lt_or_ge n ns.length with h | h
 ·rw [a3U h,p5 (by omega)]
 ·have:n=ns.length:=by omega
  rw [this,G9,j5]
def W6 (c:Cl) (t:Tm):Nat:=if t.f<0 then (o7 c.vr (-1-t.f)).getD c.ns.length else c.ns.length
def addV (c:Cl) (t:Tm):List (Int×Nat):=if t.f<0 then (match o7 c.vr (-1-t.f) with | some _=>c.vr | none=>c.vr++[(-1-t.f,c.ns.length)]) else c.vr
def q9 (c:Cl) (t:Tm):Cl:=⟨c.ns++[⟨t,0,W6 c t,0⟩],addV c t,c.ps⟩
theorem y5 (c:Cl) (t:Tm):(q9 c t).ns.length=c.ns.length+1:=by simp [q9]
theorem a1w (c:Cl) (t:Tm) {n:Nat} (h:n<c.ns.length):(q9 c t).ns.getD n ndD=c.ns.getD n ndD:=a3U h
theorem ClsC.add {c:Cl} {H r:Nat->Nat} {E} (h:ClsC c H r E) (t:Tm):∃ H' r',ClsC (q9 c t) H' r' E/\(∀ n,n<c.ns.length->H' n=H n)/\(¬ t.f<0->H' c.ns.length=c.ns.length):=by
 have hx:W6 c t<=c.ns.length/\(W6 c t<c.ns.length->t.f<0/\(nT c.ns (W6 c t)).f=t.f)/\(t.f<0->o7 (addV c t) (-1-t.f)=some (W6 c t))/\(∀ v m,o7 c.vr v=some m->o7 (addV c t) v=some m)/\(∀ v m,o7 (addV c t) v=some m->o7 c.vr v=some m\/(m=c.ns.length/\t.f = -1-v)):=by
  unfold W6 addV;by_cases hf:t.f<0
  ·rw [if_pos hf,if_pos hf];cases hl:o7 c.vr (-1-t.f) with
   | some m =>
    have:=h.vrt _ m hl;refine ⟨by simpa using Nat.le_of_lt this.1,fun _=>⟨hf,?_⟩,fun _=>hl,fun v m h=>h,fun v m h => .inl h⟩;show (nT c.ns m).f=t.f;rw [this.2];omega
   | none =>
    refine ⟨Nat.le_refl _,fun h=>absurd h (Nat.lt_irrefl _),fun _=>?_,fun v m h=>?_,fun v m h=>?_⟩
    ·show o7 (c.vr++_) _=_;rw [T3,hl,if_pos rfl];rfl
    ·show o7 (c.vr++_) _=_;rw [T3,h];rfl
    ·have h:o7 (c.vr++_) _=_:=h;rw [T3] at h;cases hv:o7 c.vr v with
     | some q=>rw [hv] at h;exact .inl h
     | none =>
      rw [hv] at h;have h:(if -1-t.f=v then some c.ns.length else none)=some m:=h;split at h
      ·rename_i e;cases h;exact .inr ⟨rfl,by omega⟩
      ·cases h
  ·rw [if_neg hf,if_neg hf];exact ⟨Nat.le_refl _,fun h=>absurd h (Nat.lt_irrefl _),fun h=>absurd h hf,fun v m h=>h,fun v m h => .inl h⟩
 obtain ⟨x1,x2,x3,x4,x5⟩:=hx;have h1:=Cls.add h x1 x2 x4 x5 x3;refine ⟨upd H c.ns.length (if W6 c t=c.ns.length then c.ns.length else H (W6 c t)),upd r c.ns.length (if W6 c t=c.ns.length then 0 else r (W6 c t)+1),?_,fun n hn=>p5 (by omega),fun hf=>?_⟩
 ·unfold ClsC;rw [y5];exact h1.congr (fun n hn=>a4C Nd.t hn) (fun n hn=>a4C Nd.fi hn) (fun n hn=>a4C Nd.up hn) fun n hn=>rfl
 ·rw [j5,if_pos];unfold W6;rw [if_neg hf]
def addAll (c:Cl) (l:List Tm):Cl:=l.foldl q9 c
theorem T4 (l:List Tm):∀ c:Cl,(addAll c l).ns.length=c.ns.length+l.length:=by
 induction l with
 | nil=>exact fun c=>rfl
 | cons t l ih=>intro c;rw [show addAll c (t::l)=addAll (q9 c t) l from rfl,ih,y5,length_cons];omega
theorem D4 (l:List Tm):∀ (c:Cl) {n:Nat},n<c.ns.length->(addAll c l).ns.getD n ndD=c.ns.getD n ndD:=by
 induction l with
 | nil=>exact fun c n _=>rfl
 | cons t l ih =>
  intro c n hn;rw [show addAll c (t::l)=addAll (q9 c t) l from rfl,ih _ (by rw [y5];omega),a1w c t hn]
theorem b4r (l:List Tm):∀ (c:Cl),(addAll c l).ps=c.ps:=by
 induction l with
 | nil=>exact fun c=>rfl
 | cons t l ih=>intro c;exact ih _
theorem a3M (l:List Tm):∀ (c:Cl) {i:Nat},i<l.length->l[i]?=some (nT (addAll c l).ns (c.ns.length+i))/\nK (addAll c l).ns (c.ns.length+i)=0:=by
 induction l with
 | nil=>intro c i hi;simp at hi
 | cons t l ih =>
  intro c i hi;rw [show addAll c (t::l)=addAll (q9 c t) l from rfl];cases i with
  | zero =>
   unfold nT nK;rw [Nat.add_zero,D4 l _ (by rw [y5];omega)];unfold q9;rw [G9];exact ⟨rfl,rfl⟩
  | succ i =>
   have:=ih (q9 c t) (i:=i) (by simpa using hi);rw [y5] at this;rw [show c.ns.length+(i+1)=c.ns.length+1+i by omega];exact ⟨by rw [List.getElem?_cons_succ];exact this.1,this.2⟩
theorem ClsC.addAll (l:List Tm):∀ {c:Cl} {H r:Nat->Nat} {E},ClsC c H r E->∃ H' r',ClsC (addAll c l) H' r' E/\(∀ n,n<c.ns.length->H' n=H n):=by
 induction l with
 | nil=>exact fun {c H r E} h=>⟨H,r,h,fun n _=>rfl⟩
 | cons t l ih =>
  intro c H r E h;obtain ⟨H1,r1,g1,g2,_⟩:=h.add t;obtain ⟨H2,r2,k1,k2⟩:=ih g1;exact ⟨H2,r2,k1,fun n hn=>by rw [k2 n (by rw [y5];omega),g2 n hn]⟩
def Cl.setFi (c:Cl) (n k:Nat):Cl:=⟨Go.Proofs.YteegmcfobgpemaaGreat.setFi c.ns n k,c.vr,c.ps⟩
theorem b1a (c:Cl) (t:Tm) {n k:Nat} (hn:n<c.ns.length):q9 (c.setFi n k) t=(q9 c t).setFi n k:=by
 unfold q9 Cl.setFi W6 addV setFi;simp only [length_set];congr 1;rw [List.set_append_left _ _ hn,a3U hn]
theorem K1 (l:List Tm):∀ (c:Cl) {n k:Nat},n<c.ns.length->Go.Proofs.YteegmcfobgpemaaGreat.addAll (c.setFi n k) l=(Go.Proofs.YteegmcfobgpemaaGreat.addAll c l).setFi n k:=by
 induction l with
 | nil=>exact fun c n k _=>rfl
 | cons t l ih =>
  intro c n k hn;show Go.Proofs.YteegmcfobgpemaaGreat.addAll (q9 (c.setFi n k) t) l=_;rw [b1a c t hn,ih _ (by rw [y5];omega)];rfl
theorem T1 {ns:List Nd} {n k m:Nat} (h:n<ns.length):(setFi ns n k).getD m ndD=if m=n then { ns.getD n ndD with fi:=k } else ns.getD m ndD:=Z7 h
theorem S8 {ns:List Nd} {n k m:Nat} (h:n<ns.length):(setUp ns n k).getD m ndD=if m=n then { ns.getD n ndD with up:=k } else ns.getD m ndD:=Z7 h
theorem N4 {ns:List Nd} {n k m:Nat} (h:n<ns.length):nT (setFi ns n k) m=nT ns m:=by
 unfold nT;rw [T1 h];split
 ·rename_i e;rw [e]
 ·rfl
theorem b6J {ns:List Nd} {n k m:Nat} (h:n<ns.length):nU (setFi ns n k) m=nU ns m:=by
 unfold nU;rw [T1 h];split
 ·rename_i e;rw [e]
 ·rfl
theorem H7 {ns:List Nd} {n k m:Nat} (h:n<ns.length):nK (setFi ns n k) m=upd (nK ns) n k m:=by
 unfold nK upd;rw [T1 h];split<;>rfl
theorem R4 {ns:List Nd} {n k m:Nat} (h:n<ns.length):nT (setUp ns n k) m=nT ns m:=by
 unfold nT;rw [S8 h];split
 ·rename_i e;rw [e]
 ·rfl
theorem R3 {ns:List Nd} {n k m:Nat} (h:n<ns.length):nK (setUp ns n k) m=nK ns m:=by
 unfold nK;rw [S8 h];split
 ·rename_i e;rw [e]
 ·rfl
theorem b5l {ns:List Nd} {n k m:Nat} (h:n<ns.length):nS (setUp ns n k) m=nS ns m:=by
 unfold nS;rw [S8 h];split
 ·rename_i e;rw [e]
 ·rfl
theorem a1d {ns:List Nd} {n k m:Nat} (h:n<ns.length):nU (setUp ns n k) m=upd (nU ns) n k m:=by
 unfold nU upd;rw [S8 h];split<;>rfl
theorem G4 {ns:List Nd} {n k:Nat}:(setUp ns n k).length=ns.length:=length_set
theorem P9 {ns:List Nd} {n k:Nat}:(setFi ns n k).length=ns.length:=length_set
def pC (c:Cl) (n:Nat):Cl×Nat×Nat:=
 if (nT c.ns n).f<0\/(nT c.ns n).l.length=0 then (c,0,0)
 else if nK c.ns n=0 then (Go.Proofs.YteegmcfobgpemaaGreat.addAll (c.setFi n c.ns.length) (nT c.ns n).l,c.ns.length,c.ns.length+(nT c.ns n).l.length)
 else (c,nK c.ns n,nK c.ns n+(nT c.ns n).l.length)
structure Grew (c c':Cl) (H H':Nat->Nat):Prop where
 len:c.ns.length<=c'.ns.length
 tm:∀ m,m<c.ns.length->nT c'.ns m=nT c.ns m
 kd:∀ m,m<c.ns.length->nK c.ns m≠0->nK c'.ns m=nK c.ns m
 us:∀ m,m<c.ns.length->nS c'.ns m=nS c.ns m
 hd:∀ m,m<c.ns.length->H' m=H m
 ps:c'.ps=c.ps
theorem Grew.refl (c:Cl) (H:Nat->Nat):Grew c c H H:=⟨Nat.le_refl _,fun _ _=>rfl,fun _ _ _=>rfl,fun _ _=>rfl,fun _ _=>rfl,rfl⟩
theorem ClsC.parts {c:Cl} {H r:Nat->Nat} {E} (h:ClsC c H r E) {n:Nat} (hn:n<c.ns.length):∃ H' r',ClsC (pC c n).1 H' r' E/\Grew c (pC c n).1 H H'/\((nT c.ns n).f<0\/(nT c.ns n).l.length=0->(pC c n).2=(0,0))/\(¬ ((nT c.ns n).f<0\/(nT c.ns n).l.length=0)->nK (pC c n).1.ns n≠0/\(pC c n).2=(nK (pC c n).1.ns n,nK (pC c n).1.ns n+(nT c.ns n).l.length)):=by
 unfold pC;split
 ·rename_i hv;exact ⟨H,r,h,Grew.refl c H,fun _=>rfl,fun hc=>absurd hv hc⟩
 ·rename_i hv;split
  ·rename_i hk;obtain ⟨H1,r1,g1,g2⟩:=ClsC.addAll (nT c.ns n).l h;rw [K1 _ c hn];obtain ⟨l,hl⟩:∃ l,l=(nT c.ns n).l:=⟨_,rfl⟩
   rw [<-hl] at g1 hv |-;have kD:=T4 l c;have gP:n<(Go.Proofs.YteegmcfobgpemaaGreat.addAll c l).ns.length:=by omega
   have ht:∀ m,m<c.ns.length->nT (Go.Proofs.YteegmcfobgpemaaGreat.addAll c l).ns m=nT c.ns m:=fun m hm=>by unfold nT;rw [D4 l c hm]
   have gF:∀ m,m<c.ns.length->nK (Go.Proofs.YteegmcfobgpemaaGreat.addAll c l).ns m=nK c.ns m:=fun m hm=>by unfold nK;rw [D4 l c hm]
   have yA:∀ m,m<c.ns.length->nS (Go.Proofs.YteegmcfobgpemaaGreat.addAll c l).ns m=nS c.ns m:=fun m hm=>by unfold nS;rw [D4 l c hm]
   have yB:¬ (nT c.ns n).f<0:=fun e=>hv (.inl e);have g3:Cls _ _ (upd (nK (Go.Proofs.YteegmcfobgpemaaGreat.addAll c l).ns) n c.ns.length) _ _ _ _ _ _:=Cls.setK g1 gP (by rw [gF n hn];exact hk) (by rw [ht n hn];exact yB) fun i hi=>by rw [ht n hn,<-hl] at hi |-;exact ⟨by omega,(a3M l c hi).1⟩
   refine ⟨H1,r1,?_,⟨?_,fun m hm=>?_,fun m hm gW=>?_,fun m hm=>?_,g2,b4r l c⟩,fun e=>absurd e hv,fun _=>?_⟩
   ·unfold ClsC;show Cls (setFi _ _ _).length (nT (setFi _ _ _)) (nK (setFi _ _ _)) (nU (setFi _ _ _)) _ _ _ _ _;rw [P9];exact g3.congr (fun m _=>N4 gP) (fun m _=>H7 gP) (fun m _=>b6J gP) fun m _=>rfl
   ·show _<=(setFi _ _ _).length;rw [P9];omega
   ·show nT (setFi _ _ _) m=_;rw [N4 gP,ht m hm]
   ·show nK (setFi _ _ _) m=_;rw [H7 gP,p5 (fun e=>gW (by rw [e];exact hk)),gF m hm]
   ·show nS (setFi _ _ _) m=_;unfold nS;rw [T1 gP,<-show nS (Go.Proofs.YteegmcfobgpemaaGreat.addAll c l).ns m=(c.ns.getD m ndD).us from yA m hm];split
    ·rename_i e;rw [e];rfl
    ·rfl
   ·have:nK (setFi (Go.Proofs.YteegmcfobgpemaaGreat.addAll c l).ns n c.ns.length) n=c.ns.length:=by rw [H7 gP,j5]
    show nK (setFi _ _ _) n≠0/\(c.ns.length,c.ns.length+l.length)=(nK (setFi _ _ _) n,nK (setFi _ _ _) n+l.length);rw [this];exact ⟨by omega,rfl⟩
  ·rename_i hk;exact ⟨H,r,h,Grew.refl c H,fun e=>absurd e hv,fun _=>⟨hk,rfl⟩⟩
def n9:Nat->List Nd->Nat->Option (List Nd×Nat)
 | 0,_,_=>none
 | k+1,ns,n=>if nU ns n=n then some (ns,n) else n9 k (setUp ns n (nU ns (nU ns n))) (nU (setUp ns n (nU ns (nU ns n))) n)
theorem a3A:∀ (k:Nat) (ns:List Nd) (n:Nat) (r),n9 k ns n=some r->n9 (k+1) ns n=some r
 | 0,_,_,_,e=>by cases e
 | k+1,ns,n,r,e=>by
  rw [n9] at e |-;split
  ·rename_i h;rw [if_pos h] at e;exact e
  ·rename_i h;rw [if_neg h] at e;exact a3A k _ _ _ e
theorem N5 {k m:Nat} (h:k<=m) {ns:List Nd} {n:Nat} {r} (e:n9 k ns n=some r):n9 m ns n=some r:=by
 induction h with
 | refl=>exact e
 | step _ ih=>exact a3A _ _ _ _ ih
theorem ClsC.head {vr ps} {H r:Nat->Nat} {E}:∀ (k:Nat) {ns:List Nd} {n:Nat},ClsC ⟨ns,vr,ps⟩ H r E->n<ns.length->r n<k->∃ ns',n9 k ns n=some (ns',H n)/\ClsC ⟨ns',vr,ps⟩ H r E/\ns'.length=ns.length/\(∀ m,nT ns' m=nT ns m)/\(∀ m,nK ns' m=nK ns m)/\∀ m,nS ns' m=nS ns m
 | 0,ns,n,h,hn,hr=>by omega
 | k+1,ns,n,h,hn,hr=>by
  obtain ⟨u1,u2,u3⟩:=h.up n hn;rw [n9];by_cases e:nU ns n=n
  ·rw [if_pos e];have hh:H n=n:=Decidable.byContradiction fun kE=>by have h1:r (nU ns n)<r n:=h.rank n hn kE;rw [e] at h1;omega
   exact ⟨ns,by rw [hh],h,rfl,fun _=>rfl,fun _=>rfl,fun _=>rfl⟩
  ·rw [if_neg e];have kE:H n≠n:=fun e2=>e (u3 e2);have r1:r (nU ns n)<r n:=h.rank n hn kE;obtain ⟨v1,v2,v3⟩:=h.up (nU ns n) u1;have u1':nU ns n<ns.length:=u1;have v1':nU ns (nU ns n)<ns.length:=v1;have hU:nU (setUp ns n (nU ns (nU ns n))) n=nU ns (nU ns n):=by rw [a1d hn,j5]
   have hc:ClsC ⟨setUp ns n (nU ns (nU ns n)),vr,ps⟩ H r E:=by unfold ClsC;show Cls (setUp _ _ _).length _ _ _ _ _ _ _ _;rw [G4];exact (Cls.halve h hn).congr (fun m _=>R4 hn) (fun m _=>R3 hn) (fun m _=>a1d hn) fun m _=>rfl
   have r2:r (nU ns (nU ns n))<=r (nU ns n):=by
    by_cases e2:H (nU ns n)=nU ns n
    ·rw [show nU ns (nU ns n)=nU ns n from v3 e2];exact Nat.le_refl _
    ·exact Nat.le_of_lt (h.rank _ u1 e2)
   rw [hU];obtain ⟨ns',g1,g2,g3,g4,g5,g6⟩:=ClsC.head k hc (n:=nU ns (nU ns n)) (by rw [G4];exact v1') (by omega);refine ⟨ns',?_,g2,by rw [g3,G4],fun m=>by rw [g4,R4 hn],fun m=>by rw [g5,R3 hn],fun m=>by rw [g6,b5l hn]⟩;rw [g1,show H (nU ns (nU ns n))=H n from v2.trans u2]
def i9 (f:Nat->Nat):Nat->Nat
 | 0=>0
 | n+1=>i9 f n+f n
theorem r6 {f g:Nat->Nat}:∀ {N:Nat},(∀ n,n<N->f n=g n)->i9 f N=i9 g N
 | 0,_=>rfl
 | N+1,h=>by rw [i9,i9,r6 fun n hn=>h n (by omega),h N (by omega)]
theorem L1 {f:Nat->Nat} {n x:Nat}:∀ {N:Nat},n<N->i9 (upd f n x) N+f n=i9 f N+x
 | 0,h=>by omega
 | N+1,h=>by
  rw [i9,i9];by_cases e:n=N
  ·subst e;rw [j5,r6 (g:=f) fun m hm=>p5 (by omega)];omega
  ·rw [p5 (Ne.symm e)];have:=L1 (f:=f) (n:=n) (x:=x) (N:=N) (by omega);omega
def wgt (ns:List Nd) (n:Nat):Nat:=if nK ns n≠0 then (nT ns n).l.length else 2*(nT ns n).size-1
def hw (ns:List Nd) (H:Nat->Nat) (n:Nat):Nat:=if H n=n then wgt ns n else 0
theorem a1z {ns ns':List Nd} {H H':Nat->Nat} {n:Nat} (h1:nT ns' n=nT ns n) (h2:nK ns' n=nK ns n) (h3:H' n=H n):hw ns' H' n=hw ns H n:=by
 unfold hw wgt;rw [h1,h2,h3]
theorem b9x (c:Cl) (t:Tm) {H H':Nat->Nat} (hH:∀ n,n<c.ns.length->H' n=H n):i9 (hw (q9 c t).ns H') (c.ns.length+1)<=i9 (hw c.ns H) c.ns.length+(2*t.size-1):=by
 rw [i9,r6 (g:=hw c.ns H) fun n hn=>a1z (by unfold nT;rw [a1w c t hn]) (by unfold nK;rw [a1w c t hn]) (hH n hn)];have h1:nT (q9 c t).ns c.ns.length=t:=by unfold nT q9;rw [G9]
 have h2:nK (q9 c t).ns c.ns.length=0:=by unfold nK q9;rw [G9]
 have:hw (q9 c t).ns H' c.ns.length<=2*t.size-1:=by
  unfold hw wgt;rw [h1,h2];split
  ·rw [if_neg (by simp)];exact Nat.le_refl _
  ·exact Nat.zero_le _
 omega
def szs (l:List Tm):Nat:=(l.map fun t=>2*t.size-1).sum
theorem c0O (l:List Tm):szs l+l.length=2*(l.map Tm.size).sum:=by
 unfold szs
 induction l with
 | nil=>rfl
 | cons t l ih =>
  rw [map_cons,map_cons,sum_cons,sum_cons,length_cons];have:=t.size_pos;omega
theorem b0H (l:List Tm):∀ (c:Cl) {H H':Nat->Nat},(∀ n,n<c.ns.length->H' n=H n)->i9 (hw (addAll c l).ns H') (c.ns.length+l.length)<=i9 (hw c.ns H) c.ns.length+szs l:=by
 induction l with
 | nil =>
  intro c H H' hH;rw [length_nil,Nat.add_zero];have:i9 (hw (addAll c []).ns H') c.ns.length=i9 (hw c.ns H) c.ns.length:=r6 fun n hn=>a1z rfl rfl (hH n hn);rw [this];exact Nat.le_add_right _ _
 | cons t l ih =>
  intro c H H' hH;have h1:=b9x c t hH;have h2:=ih (q9 c t) (H:=H') (H':=H') fun _ _=>rfl;rw [y5] at h2;rw [show addAll c (t::l)=addAll (q9 c t) l from rfl,length_cons,show c.ns.length+(l.length+1)=c.ns.length+1+l.length by omega];have h3:szs (t::l)=(2*t.size-1)+szs l:=by unfold szs;rw [map_cons,sum_cons]
  omega
theorem a6r (c:Cl) {n:Nat} (hn:n<c.ns.length) {H H':Nat->Nat} (hh:H n=n) (hH:∀ n,n<c.ns.length->H' n=H n):i9 (hw (pC c n).1.ns H') (pC c n).1.ns.length<=i9 (hw c.ns H) c.ns.length:=by
 have triv:i9 (hw c.ns H') c.ns.length<=i9 (hw c.ns H) c.ns.length:=by rw [r6 (g:=hw c.ns H) fun n hn=>a1z rfl rfl (hH n hn)];exact Nat.le_refl _
 unfold pC;split
 ·exact triv
 ·rename_i hv;split
  ·rename_i hk;rw [K1 _ c hn];obtain ⟨l,hl⟩:∃ l,l=(nT c.ns n).l:=⟨_,rfl⟩
   rw [<-hl];have kD:=T4 l c;have gP:n<(addAll c l).ns.length:=by omega
   have ht:nT (addAll c l).ns n=nT c.ns n:=by unfold nT;rw [D4 l c hn]
   have gF:nK (addAll c l).ns n=nK c.ns n:=by unfold nK;rw [D4 l c hn]
   show i9 (hw (setFi _ _ _) H') (setFi _ _ _).length<=_;rw [P9];have h1:i9 (hw (setFi (addAll c l).ns n c.ns.length) H') (addAll c l).ns.length=i9 (upd (hw (addAll c l).ns H') n l.length) (addAll c l).ns.length:=r6 fun m hm=>by
    by_cases e:m=n
    ·subst e;rw [j5];unfold hw wgt;rw [N4 gP,H7 gP,j5,hH m hn,hh,if_pos rfl,if_pos (by omega),ht,hl]
    ·rw [p5 e];exact a1z (N4 gP) (by rw [H7 gP,p5 e]) rfl
   have h2:=L1 (f:=hw (addAll c l).ns H') (x:=l.length) gP;have h3:=b0H l c hH;have h4:hw (addAll c l).ns H' n=2*(nT c.ns n).size-1:=by unfold hw wgt;rw [hH n hn,hh,if_pos rfl,gF,hk,if_neg (by simp),ht]
   have h5:=c0O l;have h6:=Tm.size_sym (t:=nT c.ns n) (fun e=>hv (.inl e));rw [<-hl] at h6;rw [h1];rw [kD] at h2 |-;omega
  ·exact triv
def a5L (c:Cl) (a b:Nat):Cl:=
 ⟨(pC (pC c a).1 b).1.ns,(pC (pC c a).1 b).1.vr,(pC (pC c a).1 b).1.ps++(List.range ((pC c a).2.2-(pC c a).2.1)).reverse.map fun i=>((pC c a).2.1+i,(pC (pC c a).1 b).2.1+i)⟩
def Cl.setUp (c:Cl) (n k:Nat):Cl:=⟨Go.Proofs.YteegmcfobgpemaaGreat.setUp c.ns n k,c.vr,c.ps⟩
def joinTo (c:Cl) (a b:Nat):Cl×Bool:=
 if (nT c.ns a).f<0 then (c.setUp a b,true)
 else if (nT c.ns a).f≠(nT c.ns b).f\/(nT c.ns a).l.length≠(nT c.ns b).l.length then (c,false)
 else ((a5L c a b).setUp a b,true)
def D6 (k:Nat) (c:Cl) (x y:Nat):Option (Cl×Bool):=match n9 k c.ns x with
 | none=>none
 | some q=>match n9 k q.1 y with
  | none=>none
  | some q'=>if q.2=q'.2 then some (⟨q'.1,c.vr,c.ps⟩,true)
   else if (nT q'.1 q'.2).f<(nT q'.1 q.2).f then some (joinTo ⟨q'.1,c.vr,c.ps⟩ q'.2 q.2)
   else some (joinTo ⟨q'.1,c.vr,c.ps⟩ q.2 q'.2)
theorem a1o {k m:Nat} (h:k<=m) {c:Cl} {x y:Nat} {r} (e:D6 k c x y=some r):D6 m c x y=some r:=by
 unfold D6 at e |-;cases h1:n9 k c.ns x with
 | none=>rw [h1] at e;cases e
 | some q =>
  rw [h1] at e;rw [N5 h h1];simp only at e |-;cases h2:n9 k q.1 y with
  | none=>rw [h2] at e;cases e
  | some q' =>
   rw [h2] at e;rw [N5 h h2];exact e
def mea (c:Cl) (H:Nat->Nat):Nat:=c.ps.length+i9 (hw c.ns H) c.ns.length
def c3e (c:Cl) (M:Nat) (E:List (Tm×Tm)) (q:Cl×Bool):Prop:=(q.2=false->∀ τ,¬ uni τ E)/\(q.2=true->∃ H' r',ClsC q.1 H' r' E/\mea q.1 H'<M)
theorem a2g {ns vr ps x y} {H r:Nat->Nat} {E} (h:ClsC ⟨ns,vr,ps++[(x,y)]⟩ H r E) {a b:Nat} (ha:a<ns.length) (hb:b<ns.length) (pE:H a=a) (pF:H b=b) (oI:a≠b) (lG:(H x=a/\H y=b)\/(H x=b/\H y=a)) (kV:(nT ns a).f<=(nT ns b).f):c3e ⟨ns,vr,ps⟩ (mea ⟨ns,vr,ps++[(x,y)]⟩ H) E (joinTo ⟨ns,vr,ps⟩ a b):=by
 have h0:Cls ns.length (nT ns) (nK ns) (nU ns) H r vr (ps++[(x,y)]) E:=h
 have wH:∀ (ns':List Nd) (H1:Nat->Nat),(∀ m,m<ns'.length->H1 m<ns'.length/\H1 (H1 m)=H1 m)->a<ns'.length->b<ns'.length->H1 a=a->H1 b=b->i9 (hw (setUp ns' a b) (fun m=>if H1 m=a then b else H1 m)) ns'.length+wgt ns' a=i9 (hw ns' H1) ns'.length:=fun ns' H1 hd oJ hb' e1 e2=>by
  have e3:i9 (hw (setUp ns' a b) (fun m=>if H1 m=a then b else H1 m)) ns'.length=i9 (upd (hw ns' H1) a 0) ns'.length:=r6 fun m hm=>by
   unfold hw;by_cases e:m=a
   ·subst e;rw [j5,if_neg];show ¬ (if H1 m=m then b else H1 m)=m;rw [if_pos e1];exact Ne.symm oI
   ·rw [p5 e];have ew:wgt (setUp ns' a b) m=wgt ns' m:=by unfold wgt;rw [R4 oJ,R3 oJ]
    rw [ew];by_cases e4:H1 m=a
    ·have e5:(if H1 m=a then b else H1 m)=b:=if_pos e4;have e6:b≠m:=fun e7=>by rw [<-e7,e2] at e4;exact oI e4.symm
     show (if (if H1 m=a then b else H1 m)=m then _ else _)=_;rw [e5,if_neg e6,if_neg (by rw [e4];exact Ne.symm e)]
    ·show (if (if H1 m=a then b else H1 m)=m then _ else _)=_;rw [if_neg e4]
  have e4:=L1 (f:=hw ns' H1) (n:=a) (x:=0) oJ;have e5:hw ns' H1 a=wgt ns' a:=by unfold hw;rw [if_pos e1]
  omega
 unfold joinTo;by_cases hf:(nT ns a).f<0
 ·rw [if_pos hf];refine ⟨fun e=>(by cases e),fun _=>?_⟩;have hu:=Cls.union h0 ha hb pE pF oI lG kV (qs:=[]) (fun e=>absurd hf e) (fun q hq=>by cases hq);refine ⟨fun m=>if H m=a then b else H m,fun m=>if H m=a then r m+r b+1 else r m,?_,?_⟩
  ·unfold ClsC;show Cls (setUp _ _ _).length (nT (setUp _ _ _)) (nK (setUp _ _ _)) (nU (setUp _ _ _)) _ _ _ _ _;rw [G4];rw [append_nil] at hu;exact hu.congr (fun m _=>R4 ha) (fun m _=>R3 ha) (fun m _=>a1d ha) fun m _=>rfl
  ·have:=wH ns H h0.hd ha hb pE pF;show ps.length+i9 (hw (setUp ns a b) _) (setUp ns a b).length<(ps++[(x,y)]).length+i9 (hw ns H) ns.length;rw [G4,length_append,length_singleton];omega
 ·rw [if_neg hf];by_cases hc:(nT ns a).f≠(nT ns b).f\/(nT ns a).l.length≠(nT ns b).l.length
  ·rw [if_pos hc];exact ⟨fun _=>Cls.clash h0 lG hf (by show ¬ (nT ns b).f<0;omega) hc,fun e=>by cases e⟩
  ·rw [if_neg hc];refine ⟨fun e=>(by cases e),fun _=>?_⟩;have lQ:(nT ns a).f=(nT ns b).f:=Decidable.byContradiction fun h=>hc (.inl h);have dI:(nT ns a).l.length=(nT ns b).l.length:=Decidable.byContradiction fun h=>hc (.inr h)
   obtain ⟨c0,uR⟩:∃ c0:Cl,c0=⟨ns,vr,ps⟩:=⟨_,rfl⟩
   have pps:∀ (c:Cl) (qs:List (Nat×Nat)) (n:Nat),pC ⟨c.ns,c.vr,qs⟩ n=(⟨(pC c n).1.ns,(pC c n).1.vr,qs⟩,(pC c n).2):=fun c qs n=>by
    have addQ:∀ (l:List Tm) (c:Cl) (qs:List (Nat×Nat)),addAll ⟨c.ns,c.vr,qs⟩ l=⟨(addAll c l).ns,(addAll c l).vr,qs⟩:=fun l=>by
     induction l with
     | nil=>exact fun c qs=>rfl
     | cons t l ih=>intro c qs;exact ih (q9 c t) qs
    unfold pC;split
    ·rfl
    ·split
     ·have:=addQ (nT c.ns n).l (c.setFi n c.ns.length) qs;show (addAll ⟨(c.setFi n c.ns.length).ns,(c.setFi n c.ns.length).vr,qs⟩ _,_)=_;rw [this]
     ·rfl
   have hA:=pps ⟨ns,vr,ps⟩ (ps++[(x,y)]) a;have fX:=ClsC.parts h (n:=a) ha;rw [hA] at fX;obtain ⟨H1,r1,g1,g2,g3,g4⟩:=fX;obtain ⟨c1,gO⟩:∃ c1,c1=(pC ⟨ns,vr,ps⟩ a).1:=⟨_,rfl⟩
   rw [<-gO] at g1 g2 g4;have l1:ns.length<=c1.ns.length:=g2.len;have hB:=pps c1 (ps++[(x,y)]) b;have dZ:=ClsC.parts g1 (n:=b) (show b<c1.ns.length by omega);rw [hB] at dZ;obtain ⟨H2,r2,k1,k2,k3,k4⟩:=dZ;obtain ⟨c2,gY⟩:∃ c2,c2=(pC c1 b).1:=⟨_,rfl⟩
   rw [<-gY] at k1 k2 k4;have l2:c1.ns.length<=c2.ns.length:=k2.len;have t1:∀ m,m<ns.length->nT c1.ns m=nT ns m:=g2.tm;have t2:∀ m,m<c1.ns.length->nT c2.ns m=nT c1.ns m:=k2.tm;have ta:nT c2.ns a=nT ns a:=by rw [t2 a (by omega),t1 a ha]
   have tb:nT c2.ns b=nT ns b:=by rw [t2 b (by omega),t1 b hb]
   have dG:∀ m,m<ns.length->H1 m=H m:=g2.hd;have bZ:∀ m,m<c1.ns.length->H2 m=H1 m:=k2.hd;have tR:∀ m,m<ns.length->H2 m=H m:=fun m hm=>by rw [bZ m (by omega),dG m hm]
   have fC:=h0.pss (x,y) (by simp);have vR:c1.ps=ps:=by have:=pps ⟨ns,vr,ps⟩ ps a;rw [gO,this]
   have qC:c2.ps=ps:=by have:=pps c1 ps b;rw [<-vR] at this;rw [gY];have h9:=congrArg (fun q=>q.1.ps) this;exact h9.trans vR
   have qa:(pC ⟨ns,vr,ps⟩ a).2.2-(pC ⟨ns,vr,ps⟩ a).2.1=(nT ns a).l.length/\((nT ns a).l.length≠0->(pC ⟨ns,vr,ps⟩ a).2.1=nK c2.ns a/\nK c2.ns a≠0):=by
    by_cases hz:(nT ns a).l.length=0
    ·have:=g3 (.inr hz);have this:(pC ⟨ns,vr,ps⟩ a).2=(0,0):=this;rw [this];exact ⟨by show 0-0=_;omega,fun e=>absurd hz e⟩
    ·obtain ⟨q1,q2⟩:=g4 fun e=>e.elim hf hz;have q2:(pC ⟨ns,vr,ps⟩ a).2=(nK c1.ns a,nK c1.ns a+(nT ns a).l.length):=q2;have q3:nK c2.ns a=nK c1.ns a:=k2.kd a (by show a<c1.ns.length;omega) q1;rw [q2];exact ⟨by show nK c1.ns a+_-nK c1.ns a=_;omega,fun _=>⟨q3.symm,by rw [q3];exact q1⟩⟩
   have qb:(nT ns b).l.length≠0->(pC c1 b).2.1=nK c2.ns b/\nK c2.ns b≠0:=fun hz=>by
    have tb1:nT c1.ns b=nT ns b:=t1 b hb;obtain ⟨q1,q2⟩:=k4 fun e=>by have e:(nT c1.ns b).f<0\/(nT c1.ns b).l.length=0:=e;rw [tb1] at e;exact e.elim (fun e=>hf (by omega)) hz
    have q2:(pC c1 b).2=(nK c2.ns b,nK c2.ns b+_):=q2;rw [q2];exact ⟨rfl,q1⟩
   obtain ⟨qs,hqs⟩:∃ qs,qs=(List.range ((pC ⟨ns,vr,ps⟩ a).2.2-(pC ⟨ns,vr,ps⟩ a).2.1)).reverse.map fun i=>((pC ⟨ns,vr,ps⟩ a).2.1+i,(pC c1 b).2.1+i):=⟨_,rfl⟩
   have lH:a5L ⟨ns,vr,ps⟩ a b=⟨c2.ns,c2.vr,ps++qs⟩:=by unfold a5L;rw [<-gO,<-gY,<-hqs,qC]
   have hqm:∀ q,q∈qs↔∃ i,i<(nT ns a).l.length/\q=((pC ⟨ns,vr,ps⟩ a).2.1+i,(pC c1 b).2.1+i):=fun q=>by
    rw [hqs,mem_map,qa.1];constructor
    ·rintro ⟨i,hi,e⟩;exact ⟨i,mem_range.1 (mem_reverse.1 hi),e.symm⟩
    ·rintro ⟨i,hi,e⟩;exact ⟨i,mem_reverse.2 (mem_range.2 hi),e.symm⟩
   have vS:a<c2.ns.length:=by omega
   have gV:b<c2.ns.length:=by omega
   have hu:=Cls.union (show Cls c2.ns.length (nT c2.ns) (nK c2.ns) (nU c2.ns) H2 r2 c2.vr (ps++[(x,y)]) E from k1) vS gV (by rw [tR a ha];exact pE) (by rw [tR b hb];exact pF) oI (by rw [tR x fC.1,tR y fC.2];exact lG) (by rw [ta,tb];exact kV) (qs:=qs)
    (fun _=>by rw [ta,tb];refine ⟨lQ.symm,dI.symm,fun hz=>⟨(qa.2 hz).2,(qb (by rw [<-dI];exact hz)).2⟩,fun i hi=>?_⟩;rw [hqm];refine ⟨i,hi,?_⟩;rw [(qa.2 (by omega)).1,(qb (by omega)).1])
    (fun q hq=>by obtain ⟨i,hi,e⟩:=(hqm q).1 hq;rw [ta];refine ⟨hf,i,hi,?_⟩;rw [e,(qa.2 (by omega)).1,(qb (by omega)).1])
   rw [lH];refine ⟨fun m=>if H2 m=a then b else H2 m,fun m=>if H2 m=a then r2 m+r2 b+1 else r2 m,?_,?_⟩
   ·unfold ClsC;show Cls (setUp _ _ _).length (nT (setUp _ _ _)) (nK (setUp _ _ _)) (nU (setUp _ _ _)) _ _ _ _ _;rw [G4];exact hu.congr (fun m _=>R4 vS) (fun m _=>R3 vS) (fun m _=>a1d vS) fun m _=>rfl
   ·have w1:=wH c2.ns H2 (show Cls c2.ns.length (nT c2.ns) (nK c2.ns) (nU c2.ns) H2 r2 c2.vr (ps++[(x,y)]) E from k1).hd vS gV (by rw [tR a ha];exact pE) (by rw [tR b hb];exact pF);have w2:=a6r ⟨ns,vr,ps⟩ (n:=a) ha (H:=H) (H':=H1) pE dG;rw [<-gO] at w2;have w3:=a6r c1 (n:=b) (by omega) (H:=H1) (H':=H2) (by rw [dG b hb];exact pF) bZ;rw [<-gY] at w3;have w4:qs.length=(nT ns a).l.length:=by rw [hqs,length_map,List.length_reverse,List.length_range,qa.1]
    have w5:(nT ns a).l.length<=wgt c2.ns a:=by
     by_cases hz:(nT ns a).l.length=0
     ·omega
     ·unfold wgt;rw [if_pos (qa.2 hz).2,ta];exact Nat.le_refl _
    show (ps++qs).length+i9 (hw (setUp c2.ns a b) _) (setUp c2.ns a b).length<(ps++[(x,y)]).length+i9 (hw ns H) ns.length;rw [G4,length_append,length_append,length_singleton];have w2:i9 (hw c1.ns H1) c1.ns.length<=i9 (hw ns H) ns.length:=w2;omega
theorem b5g {ns ns':List Nd} {vr ps} {H:Nat->Nat} (hl:ns'.length=ns.length) (ht:∀ m,nT ns' m=nT ns m) (hk:∀ m,nK ns' m=nK ns m):mea ⟨ns',vr,ps⟩ H=mea ⟨ns,vr,ps⟩ H:=by
 unfold mea;rw [show (Cl.mk ns' vr ps).ns.length=ns.length from hl];show ps.length+_=ps.length+_;congr 1;exact r6 fun m _=>a1z (ht m) (hk m) rfl
theorem a4b {ns vr ps x y} {H r:Nat->Nat} {E} (h:ClsC ⟨ns,vr,ps++[(x,y)]⟩ H r E):∃ k q,D6 k ⟨ns,vr,ps⟩ x y=some q/\c3e ⟨ns,vr,ps⟩ (mea ⟨ns,vr,ps++[(x,y)]⟩ H) E q:=by
 have lG:=h.pss (x,y) (by simp);have hx:x<ns.length:=lG.1;have hy:y<ns.length:=lG.2;obtain ⟨ns1,e1,g1,l1,t1,k1,_⟩:=ClsC.head (r x+r y+1) h hx (by omega);obtain ⟨ns2,e2,g2,l2,t2,k2,_⟩:=ClsC.head (r x+r y+1) g1 (n:=y) (by omega) (by omega);have hm:mea ⟨ns2,vr,ps++[(x,y)]⟩ H=mea ⟨ns,vr,ps++[(x,y)]⟩ H:=b5g (by omega) (fun m=>by rw [t2,t1]) fun m=>by rw [k2,k1]
 have yC:=g2.hd x (by show x<ns2.length;omega);have yD:=g2.hd y (by show y<ns2.length;omega);refine ⟨r x+r y+1,?_⟩;unfold D6;rw [show n9 (r x+r y+1) (Cl.mk ns vr ps).ns x=some (ns1,H x) from e1];simp only;rw [e2];simp only;rw [<-hm];by_cases e:H x=H y
 ·rw [if_pos e];refine ⟨_,rfl,fun e=>(by cases e),fun _=>⟨H,r,Cls.drop g2 e,?_⟩⟩;show ps.length+_<(ps++[(x,y)]).length+_;rw [length_append,length_singleton];show _+i9 (hw ns2 H) ns2.length<_+i9 (hw ns2 H) ns2.length;omega
 ·rw [if_neg e];split
  ·rename_i hf;exact ⟨_,rfl,a2g g2 yD.1 yC.1 yD.2 yC.2 (Ne.symm e) (.inr ⟨rfl,rfl⟩) (Int.le_of_lt hf)⟩
  ·rename_i hf;exact ⟨_,rfl,a2g g2 yC.1 yD.1 yC.2 yD.2 e (.inl ⟨rfl,rfl⟩) (by omega)⟩
def O7:Nat->Cl->Option (Cl×Bool)
 | 0,_=>none
 | k+1,c=>match c.ps.getLast? with
  | none=>some (c,true)
  | some p=>match D6 k ⟨c.ns,c.vr,c.ps.dropLast⟩ p.1 p.2 with
   | none=>none
   | some q=>if q.2=true then O7 k q.1 else some q
theorem a5W:∀ (k:Nat) (c:Cl) (r),O7 k c=some r->O7 (k+1) c=some r
 | 0,_,_,e=>by cases e
 | k+1,c,r,e=>by
  rw [O7] at e |-;cases h1:c.ps.getLast? with
  | none=>rw [h1] at e;exact e
  | some p =>
   rw [h1] at e;simp only at e |-;cases h2:D6 k ⟨c.ns,c.vr,c.ps.dropLast⟩ p.1 p.2 with
   | none=>rw [h2] at e;cases e
   | some q =>
    rw [h2] at e;rw [a1o (Nat.le_succ k) h2];simp only at e |-;split
    ·rename_i h3;rw [if_pos h3] at e;exact a5W k _ _ e
    ·rename_i h3;rw [if_neg h3] at e;exact e
theorem a7r {k m:Nat} (h:k<=m) {c:Cl} {r} (e:O7 k c=some r):O7 m c=some r:=by
 induction h with
 | refl=>exact e
 | step _ ih=>exact a5W _ _ _ ih
def c3j (E:List (Tm×Tm)) (q:Cl×Bool):Prop:=(q.2=false->∀ τ,¬ uni τ E)/\(q.2=true->q.1.ps=[]/\∃ H' r',ClsC q.1 H' r' E)
theorem b4e:∀ (M:Nat) (c:Cl) {H r:Nat->Nat} {E},mea c H=M->ClsC c H r E->∃ k q,O7 k c=some q/\c3j E q:=by
 intro M
 induction M using Nat.strongRecOn with
 | ind M ih =>
  intro c H r E hM h;cases hp:c.ps.getLast? with
  | none =>
   refine ⟨1,(c,true),by rw [O7,hp],fun e=>(by cases e),fun _=>⟨?_,H,r,h⟩⟩;exact List.getLast?_eq_none_iff.1 hp
  | some p =>
   have bE:c.ps=c.ps.dropLast++[p]:=by
    have kE:c.ps≠[]:=fun e=>by rw [e] at hp;cases hp
    have h8:c.ps.getLast kE=p:=by have:=List.getLast?_eq_some_getLast kE;rw [hp] at this;exact (Option.some.inj this).symm
    rw [<-h8,List.dropLast_concat_getLast kE]
   have hc:c=⟨c.ns,c.vr,c.ps.dropLast++[(p.1,p.2)]⟩:=by conv=>lhs;rw [show c=⟨c.ns,c.vr,c.ps⟩ from rfl,bE]
   rw [hc] at h;obtain ⟨k,q,e1,l1,l2⟩:=a4b h;cases hq:q.2 with
   | false =>
    refine ⟨k+1,q,?_,fun _=>l1 hq,fun e=>by rw [hq] at e;cases e⟩;rw [O7,hp];simp only;rw [e1];simp only;rw [hq,if_neg (by simp)]
   | true =>
    obtain ⟨H',r',g1,g2⟩:=l2 hq;rw [<-hc] at g2;obtain ⟨k2,q2,e2,g3⟩:=ih (mea q.1 H') (by omega) q.1 rfl g1;refine ⟨max k k2+1,q2,?_,g3⟩;rw [O7,hp];simp only;rw [a1o (Nat.le_max_left k k2) e1];simp only;rw [hq,if_pos rfl];exact a7r (Nat.le_max_right k k2) e2
def openC (c:Cl) (p:Tm×Tm):Cl:=⟨(q9 (q9 c p.1) p.2).ns,(q9 (q9 c p.1) p.2).vr,(q9 (q9 c p.1) p.2).ps++[(c.ns.length,c.ns.length+1)]⟩
def s6 (k:Nat):List (Tm×Tm)->Cl->Option (Cl×Bool)
 | [],c=>some (c,true)
 | p::l,c=>match O7 k (openC c p) with
  | none=>none
  | some q=>if q.2=true then s6 k l q.1 else some q
theorem O2 {k m:Nat} (h:k<=m):∀ {l:List (Tm×Tm)} {c:Cl} {r},s6 k l c=some r->s6 m l c=some r
 | [],c,r,e=>e
 | p::l,c,r,e=>by
  rw [s6] at e |-;cases h2:O7 k (openC c p) with
  | none=>rw [h2] at e;cases e
  | some q =>
   rw [h2] at e;rw [a7r h h2];simp only at e |-;split
   ·rename_i h3;rw [if_pos h3] at e;exact O2 h e
   ·rename_i h3;rw [if_neg h3] at e;exact e
theorem ClsC.openC {c:Cl} {H r:Nat->Nat} {E} (h:ClsC c H r E) (p:Tm×Tm):∃ H' r',ClsC (openC c p) H' r' (E++[p]):=by
 obtain ⟨H1,r1,g1,_⟩:=h.add p.1;obtain ⟨H2,r2,g2,_⟩:=g1.add p.2;have l1:=y5 c p.1;have l2:=y5 (q9 c p.1) p.2;have h3:=Cls.push g2 (n:=c.ns.length) (m:=c.ns.length+1) (by omega) (by omega);have t1:nT (q9 (q9 c p.1) p.2).ns c.ns.length=p.1:=by unfold nT;rw [a1w _ _ (by omega)];unfold q9;rw [G9]
 have t2:nT (q9 (q9 c p.1) p.2).ns (c.ns.length+1)=p.2:=by unfold nT;rw [<-l1];show (List.getD ((q9 c p.1).ns++[_]) _ _).t=_;rw [G9]
 rw [t1,t2] at h3;exact ⟨H2,r2,h3⟩
theorem a0n:∀ (l:List (Tm×Tm)) (c:Cl) {H r:Nat->Nat} {E},c.ps=[]->ClsC c H r E->∃ k q,s6 k l c=some q/\c3j (E++l) q
 | [],c,H,r,E,hp,h=>⟨0,(c,true),rfl,fun e=>(by cases e),fun _=>⟨hp,H,r,by rw [append_nil];exact h⟩⟩
 | p::l,c,H,r,E,hp,h=>by
  obtain ⟨H1,r1,g1⟩:=h.openC p;obtain ⟨k1,q1,e1,t1,t2⟩:=b4e _ _ rfl g1;have e3:E++[p]++l=E++p::l:=by rw [append_assoc];rfl
  cases hq:q1.2 with
  | false =>
   refine ⟨k1,q1,?_,fun _ τ ht=>?_,fun e=>by rw [hq] at e;cases e⟩
   ·rw [s6,e1];simp only;rw [hq,if_neg (by simp)]
   ·rw [<-e3,B9] at ht;exact t1 hq τ ht.1
  | true =>
   obtain ⟨h2,H2,r2,g2⟩:=t2 hq;obtain ⟨k2,q2,e2,g3⟩:=a0n l q1.1 h2 g2;refine ⟨max k1 k2,q2,?_,by rw [<-e3];exact g3⟩;rw [s6,a7r (Nat.le_max_left k1 k2) e1];simp only;rw [hq,if_pos rfl];exact O2 (Nat.le_max_right k1 k2) e2
theorem I6 {l:List Nat} {f g:Nat->Nat} (h:∀ s∈l,f s=g s):(l.map f).sum=(l.map g).sum:=by
 rw [map_congr_left h]
theorem a3Z {f:Nat->Nat}:∀ {N:Nat},(∀ n,n<N->f n=0)->i9 f N=0
 | 0,_=>rfl
 | N+1,h=>by rw [i9,a3Z fun n hn=>h n (by omega),h N (by omega)]
theorem C1 {N:Nat}:∀ (L:List Nat) (f:Nat->Nat),L.Nodup->(∀ g∈L,g<N)->(L.map f).sum<=i9 f N/\((∀ g,g<N->g∉L->f g=0)->i9 f N=(L.map f).sum)
 | [],f,_,_=>⟨Nat.zero_le _,fun h=>a3Z fun n hn=>h n hn (by simp)⟩
 | a::L,f,hn,hb=>by
  obtain ⟨h1,h2⟩:=nodup_cons.1 hn;have ha:=hb a (by simp);have e1:=L1 (f:=f) (x:=0) ha;obtain ⟨i1,i2⟩:=C1 L (upd f a 0) h2 fun g hg=>hb g (mem_cons_of_mem _ hg);have e2:(L.map (upd f a 0)).sum=(L.map f).sum:=I6 fun s hs=>p5 fun e=>h1 (e▸hs);rw [map_cons,sum_cons];refine ⟨by omega,fun hz=>?_⟩;have:=i2 fun g hg hgL=>by
   by_cases e:g=a
   ·rw [e,j5]
   ·rw [p5 e];exact hz g hg fun hm=>(mem_cons.1 hm).elim e hgL
  omega
theorem a1r (eg:Nat->List Nat) (h:Nat):∀ L:List Nat,(L.flatMap eg).count h=(L.map fun g=>(eg g).count h).sum
 | []=>rfl
 | a::L=>by rw [flatMap_cons,count_append,map_cons,sum_cons,a1r eg h L]
section
variable (N:Nat) (hp:Nat->Bool) (eg:Nat->List Nat)
def a7v (h g:Nat):Nat:=if hp g then (eg g).count h else 0
def deg (h:Nat):Nat:=i9 (a7v hp eg h) N
structure KI (k:Nat) (pre:List Nat) (u:Nat->Int) (o:List Nat):Prop where
 cnt:∀ h,u h+(((o.take k).flatMap eg++pre).count h:Nat)=(deg N hp eg h:Int)
 nd:o.Nodup
 hd:∀ h∈o,h<N/\hp h=true
 zero:∀ h,h<N->hp h=true->(h∈o↔u h=0)
 ord:∀ p g,p<k->o[p]?=some g->∀ h∈eg g,∀ q,o[q]?=some h->p<q
 orp:∀ h∈pre,∀ q,o[q]?=some h->k<q
variable {N hp eg}
theorem KI.start {o:List Nat} (hn:o.Nodup) (ho:∀ h,h∈o↔(h<N/\hp h=true/\deg N hp eg h=0)):KI N hp eg 0 [] (fun h=>(deg N hp eg h:Int)) o:=by
 refine ⟨fun h=>by simp,hn,fun h hh=>⟨((ho h).1 hh).1,((ho h).1 hh).2.1⟩,fun h h1 h2=>?_,fun p g h=>by omega,fun h hh=>by cases hh⟩;rw [ho h];constructor
 ·rintro ⟨_,_,e⟩;simp only [e];rfl
 ·intro e;exact ⟨h1,h2,by omega⟩
theorem a2P {o:List Nat} {k g:Nat} (h:o[k]?=some g):k<o.length:=by
 rcases Nat.lt_or_ge k o.length with h1 | h1
 ·exact h1
 ·rw [getElem?_eq_none h1] at h;cases h
theorem a3i {o:List Nat} {k g:Nat} (h:o[k]?=some g):o.take (k+1)=o.take k++[g]:=by
 rw [List.take_add_one,h];rfl
theorem KI.pos {k:Nat} {pre:List Nat} {u:Nat->Int} {o:List Nat} (h:KI N hp eg k pre u o) {g x:Nat} {post:List Nat} (hk:o[k]?=some g) (he:eg g=pre++x::post):0<u x:=by
 have hN:(o.take (k+1)).Nodup:=h.nd.sublist (List.take_sublist _ _);have h1:=(C1 (N:=N) (o.take (k+1)) (a7v hp eg x) hN fun g hg=>(h.hd g (List.mem_of_mem_take hg)).1).1;have h2:((o.take (k+1)).map (a7v hp eg x)).sum=((o.take (k+1)).flatMap eg).count x:=by rw [a1r];exact I6 fun s hs=>if_pos (h.hd s (List.mem_of_mem_take hs)).2
 rw [h2,a3i hk,List.flatMap_append,count_append] at h1;have h3:([g].flatMap eg).count x=pre.count x+(1+post.count x):=by rw [flatMap_cons,flatMap_nil,append_nil,he,count_append,List.count_cons];simp only [BEq.rfl,if_true];omega
 have h4:=h.cnt x;rw [count_append] at h4;have h5:deg N hp eg x=i9 (a7v hp eg x) N:=rfl;omega
theorem KI.step {k:Nat} {pre:List Nat} {u:Nat->Int} {o:List Nat} (h:KI N hp eg k pre u o) {g x:Nat} {post:List Nat} (hk:o[k]?=some g) (he:eg g=pre++x::post) (hx:x<N/\hp x=true):KI N hp eg k (pre++[x]) (upd u x (u x-1)) (if u x-1=0 then o++[x] else o):=by
 have hp0:=h.pos hk he;have iQ:x∉o:=fun hm=>by have:=(h.zero x hx.1 hx.2).1 hm;omega
 have kF:=a2P hk;have cnt:∀ o':List Nat,o'.take k=o.take k->∀ y,upd u x (u x-1) y+(((o'.take k).flatMap eg++(pre++[x])).count y:Nat)=(deg N hp eg y:Int):=fun o' ho y=>by
  have:=h.cnt y;rw [ho,<-append_assoc,count_append];by_cases e:y=x
  ·subst e;rw [j5];have:[y].count y=1:=by simp
   omega
  ·rw [p5 e];have:[x].count y=0:=by rw [List.count_eq_zero];simpa using e
   omega
 split
 ·rename_i hz;have gx:∀ {q y},(o++[x])[q]?=some y->o[q]?=some y\/(q=o.length/\y=x):=fun {q y} e=>by
   rcases Nat.lt_or_ge q o.length with h1 | h1
   ·rw [getElem?_append_left h1] at e;exact .inl e
   ·rw [getElem?_append_right h1] at e;have h2:q-o.length<[x].length:=a2P e;simp only [length_singleton] at h2;rw [show q-o.length=0 by omega] at e;exact .inr ⟨by omega,(Option.some.inj e).symm⟩
  refine ⟨cnt (o++[x]) (List.take_append_of_le_length (by omega)),?_,fun y hy=>?_,fun y h1 h2=>?_,fun p g' oV hg y hy q hq=>?_,fun y hy q hq=>?_⟩
  ·rw [List.nodup_append];exact ⟨h.nd,by simp,fun a ha b hb=>by rw [mem_singleton] at hb;rw [hb];exact fun e=>iQ (e▸ha)⟩
  ·rcases mem_append.1 hy with hy | hy
   ·exact h.hd y hy
   ·rw [mem_singleton] at hy;rw [hy];exact hx
  ·by_cases e:y=x
   ·subst e;rw [j5];exact ⟨fun _=>hz,fun _=>by simp⟩
   ·rw [p5 e,<-h.zero y h1 h2];simp [e]
  ·have dC:o[p]?=some g':=by rw [getElem?_append_left (by omega)] at hg;exact hg
   rcases gx hq with hq | ⟨hq,_⟩
   ·exact h.ord p g' oV dC y hy q hq
   ·omega
  ·rcases gx hq with hq' | ⟨hq',_⟩
   ·rcases mem_append.1 hy with hy | hy
    ·exact h.orp y hy q hq'
    ·rw [mem_singleton] at hy;exact absurd (mem_of_getElem? hq') (by rw [hy];exact iQ)
   ·omega
 ·rename_i hz;refine ⟨cnt o rfl,h.nd,h.hd,fun y h1 h2=>?_,h.ord,fun y hy q hq=>?_⟩
  ·by_cases e:y=x
   ·subst e;rw [j5];exact ⟨fun hm=>absurd hm iQ,fun e=>absurd e hz⟩
   ·rw [p5 e];exact h.zero y h1 h2
  ·rcases mem_append.1 hy with hy | hy
   ·exact h.orp y hy q hq
   ·rw [mem_singleton] at hy;exact absurd (mem_of_getElem? hq) (by rw [hy];exact iQ)
theorem KI.next {k:Nat} {pre:List Nat} {u:Nat->Int} {o:List Nat} (h:KI N hp eg k pre u o) {g:Nat} (hk:o[k]?=some g) (he:eg g=pre):KI N hp eg (k+1) [] u o:=by
 refine ⟨fun x=>?_,h.nd,h.hd,h.zero,fun p g' oV hg y hy q hq=>?_,fun y hy=>by cases hy⟩
 ·rw [a3i hk,List.flatMap_append,append_nil,flatMap_cons,flatMap_nil,append_nil,he];exact h.cnt x
 ·rcases Nat.lt_or_ge p k with h1 | h1
  ·exact h.ord p g' h1 hg y hy q hq
  ·have:p=k:=by omega
   subst this;rw [hk] at hg;cases hg;rw [he] at hy;exact h.orp y hy q hq
theorem KI.over {u:Nat->Int} {o:List Nat} (h:KI N hp eg o.length [] u o) {x:Nat} (hx:x<N) (hpx:hp x=true) (iQ:x∉o):∃ g,g<N/\hp g=true/\g∉o/\x∈eg g:=by
 apply Classical.byContradiction;intro gA;have h1:=(C1 (N:=N) o (a7v hp eg x) h.nd fun g hg=>(h.hd g hg).1).2 fun g hg mE=>by
  unfold a7v;split
  ·rename_i hpg;exact List.count_eq_zero.2 fun hm=>gA ⟨g,hg,hpg,mE,hm⟩
  ·rfl
 have h2:(o.map (a7v hp eg x)).sum=(o.flatMap eg).count x:=by rw [a1r];exact I6 fun s hs=>if_pos (h.hd s hs).2
 have h3:=h.cnt x;rw [take_length,append_nil] at h3;have h5:deg N hp eg x=i9 (a7v hp eg x) N:=rfl;exact iQ ((h.zero x hx hpx).2 (by omega))
theorem KI.rank {u:Nat->Int} {o:List Nat} (h:KI N hp eg o.length [] u o) (ha:∀ x,x<N->hp x=true->x∈o):∃ ρ:Nat->Nat,∀ g,g<N->hp g=true->∀ x∈eg g,x<N->hp x=true->ρ x<ρ g:=by
 refine ⟨fun x=>o.length-o.idxOf x,fun g hg hpg x hx hxN hpx=>?_⟩;have i1:=List.idxOf_lt_length_of_mem (ha g hg hpg);have i2:=List.idxOf_lt_length_of_mem (ha x hxN hpx);have e1:o[o.idxOf g]?=some g:=by rw [getElem?_eq_getElem i1,List.getElem_idxOf]
 have e2:o[o.idxOf x]?=some x:=by rw [getElem?_eq_getElem i2,List.getElem_idxOf]
 have:=h.ord _ g i1 e1 x hx _ e2;show o.length-_<o.length-_;omega
end
theorem a4X {ns:List Nd} {n:Nat} (h:ns.length<=n):ns.getD n ndD=ndD:=by
 rw [getD_eq_getElem?_getD,getElem?_eq_none h];rfl
theorem b7z {ns:List Nd} {n h:Nat} {x:Nd} (hx:x.us=nS ns n):nS (ns.set n x) h=nS ns h:=by
 rcases Nat.lt_or_ge n ns.length with h1 | h1
 ·unfold nS;rw [Z7 h1];split
  ·rename_i e;rw [e];exact hx
  ·rfl
 ·rw [List.set_eq_of_length_le h1]
theorem b7Z {ns:List Nd} {n k h:Nat}:nS (setUp ns n k) h=nS ns h:=b7z rfl
theorem c2H {ns:List Nd} {n k h:Nat}:nS (setFi ns n k) h=nS ns h:=b7z rfl
theorem b1N (c:Cl) (t:Tm) (h:Nat):nS (q9 c t).ns h=nS c.ns h:=by
 unfold nS q9;rcases Nat.lt_or_ge h c.ns.length with h1 | h1
 ·rw [a3U h1]
 ·rw [a4X h1];rcases Nat.lt_or_ge h (c.ns.length+1) with h2 | h2
  ·rw [show h=c.ns.length by omega,G9];rfl
  ·rw [a4X (by rw [length_append,length_singleton];exact h2)]
theorem b4L (l:List Tm):∀ (c:Cl) (h:Nat),nS (addAll c l).ns h=nS c.ns h:=by
 induction l with
 | nil=>exact fun c h=>rfl
 | cons t l ih=>intro c h;rw [show addAll c (t::l)=addAll (q9 c t) l from rfl,ih,b1N]
theorem a4H (c:Cl) (n h:Nat):nS (pC c n).1.ns h=nS c.ns h:=by
 unfold pC;split
 ·rfl
 ·split
  ·show nS (addAll _ _).ns h=_;rw [b4L];exact c2H
  ·rfl
theorem a7Z:∀ (k:Nat) {ns:List Nd} {n:Nat} {q},n9 k ns n=some q->∀ h,nS q.1 h=nS ns h
 | 0,_,_,_,e,_=>by cases e
 | k+1,ns,n,q,e,h=>by
  rw [n9] at e;split at e
  ·cases e;rfl
  ·rw [a7Z k e h,b7Z]
theorem a6b (c:Cl) (a b h:Nat):nS (joinTo c a b).1.ns h=nS c.ns h:=by
 unfold joinTo;split
 ·exact b7Z
 ·split
  ·rfl
  ·show nS (setUp _ _ _) h=_;rw [b7Z];show nS (pC (pC c a).1 b).1.ns h=_;rw [a4H,a4H]
theorem b2l {k:Nat} {c:Cl} {x y:Nat} {q} (e:D6 k c x y=some q) (h:Nat):nS q.1.ns h=nS c.ns h:=by
 unfold D6 at e;cases h1:n9 k c.ns x with
 | none=>rw [h1] at e;cases e
 | some q1 =>
  rw [h1] at e;simp only at e;cases h2:n9 k q1.1 y with
  | none=>rw [h2] at e;cases e
  | some q2 =>
   rw [h2] at e;simp only at e;have h3:nS q2.1 h=nS c.ns h:=by rw [a7Z k h2,a7Z k h1]
   split at e
   ·cases e;exact h3
   ·split at e
    ·cases e;rw [a6b];exact h3
    ·cases e;rw [a6b];exact h3
theorem b7L:∀ (k:Nat) {c:Cl} {q},O7 k c=some q->∀ h,nS q.1.ns h=nS c.ns h
 | 0,_,_,e,_=>by cases e
 | k+1,c,q,e,h=>by
  rw [O7] at e;cases h1:c.ps.getLast? with
  | none=>rw [h1] at e;cases e;rfl
  | some p =>
   rw [h1] at e;simp only at e;cases h2:D6 k ⟨c.ns,c.vr,c.ps.dropLast⟩ p.1 p.2 with
   | none=>rw [h2] at e;cases e
   | some q1 =>
    rw [h2] at e;simp only at e;split at e
    ·rw [b7L k e h,b2l h2]
    ·cases e;rw [b2l h2]
theorem b1K:∀ {k:Nat} {l:List (Tm×Tm)} {c:Cl} {q},s6 k l c=some q->∀ h,nS q.1.ns h=nS c.ns h
 | k,[],c,q,e,h=>by cases e;rfl
 | k,p::l,c,q,e,h=>by
  rw [s6] at e;cases h2:O7 k (openC c p) with
  | none=>rw [h2] at e;cases e
  | some q1 =>
   rw [h2] at e;simp only at e;have h3:nS q1.1.ns h=nS c.ns h:=by rw [b7L k h2];show nS (q9 (q9 c p.1) p.2).ns h=_;rw [b1N,b1N]
   split at e
   ·rw [b1K e h,h3]
   ·cases e;exact h3
def setUs (ns:List Nd) (n:Nat) (x:Int):List Nd:=ns.set n { ns.getD n ndD with us:=x }
theorem S7 {ns:List Nd} {n m:Nat} {x:Int} (h:n<ns.length):(setUs ns n x).getD m ndD=if m=n then { ns.getD n ndD with us:=x } else ns.getD m ndD:=Z7 h
theorem Q1 {ns:List Nd} {n:Nat} {x:Int}:(setUs ns n x).length=ns.length:=length_set
theorem a1p {ns:List Nd} {n m:Nat} {x:Int} (h:n<ns.length):nT (setUs ns n x) m=nT ns m:=by
 unfold nT;rw [S7 h];split
 ·rename_i e;rw [e]
 ·rfl
theorem a1g {ns:List Nd} {n m:Nat} {x:Int} (h:n<ns.length):nK (setUs ns n x) m=nK ns m:=by
 unfold nK;rw [S7 h];split
 ·rename_i e;rw [e]
 ·rfl
theorem b5Y {ns:List Nd} {n m:Nat} {x:Int} (h:n<ns.length):nU (setUs ns n x) m=nU ns m:=by
 unfold nU;rw [S7 h];split
 ·rename_i e;rw [e]
 ·rfl
theorem b0i {ns:List Nd} {n m:Nat} {x:Int} (h:n<ns.length):nS (setUs ns n x) m=upd (nS ns) n x m:=by
 unfold nS upd;rw [S7 h];split<;>rfl
theorem ClsC.setUs {ns vr ps} {H r:Nat->Nat} {E} (h:ClsC ⟨ns,vr,ps⟩ H r E) {n:Nat} (hn:n<ns.length) (x:Int):ClsC ⟨setUs ns n x,vr,ps⟩ H r E:=by
 unfold ClsC;show Cls (Go.Proofs.YteegmcfobgpemaaGreat.setUs _ _ _).length _ _ _ _ _ _ _ _;rw [Q1];exact Cls.congr h (fun m _=>a1p hn) (fun m _=>a1g hn) (fun m _=>b5Y hn) fun m _=>rfl
def a3B (k:Nat):List Nat->List Nd->Option (List Nd)
 | [],ns=>some ns
 | p::l,ns=>match n9 k ns p with
  | none=>none
  | some q=>a3B k l (setUs q.1 q.2 (nS q.1 q.2+1))
theorem a6n {vr ps} {H r:Nat->Nat} {E}:∀ (l:List Nat) {ns:List Nd},ClsC ⟨ns,vr,ps⟩ H r E->(∀ p∈l,p<ns.length)->∃ k0 ns',(∀ k,k0<=k->a3B k l ns=some ns')/\ClsC ⟨ns',vr,ps⟩ H r E/\ns'.length=ns.length/\(∀ m,nT ns' m=nT ns m)/\(∀ m,nK ns' m=nK ns m)/\∀ m,nS ns' m=nS ns m+((l.map H).count m:Nat)
 | [],ns,h,_=>⟨0,ns,fun _ _=>rfl,h,rfl,fun _=>rfl,fun _=>rfl,fun m=>by simp⟩
 | p::l,ns,h,hl=>by
  have hp:=hl p (by simp);obtain ⟨ns1,e1,g1,l1,t1,k1,s1⟩:=ClsC.head (r p+1) h hp (by omega);have hH:H p<ns1.length:=by rw [l1];exact (h.hd p hp).1
  obtain ⟨k0,ns2,e2,g2,l2,t2,k2,s2⟩:=a6n l (g1.setUs hH (nS ns1 (H p)+1)) fun q hq=>by rw [Q1,l1];exact hl q (mem_cons_of_mem _ hq)
  refine ⟨max (r p+1) k0,ns2,fun k hk=>?_,g2,by rw [l2,Q1,l1],fun m=>by rw [t2,a1p hH,t1],fun m=>by rw [k2,a1g hH,k1],fun m=>?_⟩
  ·rw [a3B,N5 (show r p+1<=k by omega) e1];exact e2 k (by omega)
  ·rw [s2,b0i hH,map_cons,List.count_cons];by_cases e:m=H p
   ·subst e;rw [j5,s1];simp only [BEq.rfl,if_true];omega
   ·rw [p5 e,s1];have:(H p == m)=false:=by simpa using Ne.symm e
    rw [this];simp
def egC (ns:List Nd) (H:Nat->Nat) (g:Nat):List Nat:=if (nT ns g).f<0 then [] else (List.range (nT ns g).l.length).map fun i=>H (nK ns g+i)
def E0 (k:Nat):Nat->Nat->Cl->List Nat->Option (Cl×List Nat)
 | 0,_,_,_=>none
 | j+1,n,c,hs=>if n<c.ns.length then (match n9 k c.ns n with
   | none=>none
   | some q=>if q.2≠n then E0 k j (n+1) ⟨q.1,c.vr,c.ps⟩ hs
    else match a3B k (List.range' (pC ⟨q.1,c.vr,c.ps⟩ n).2.1 ((pC ⟨q.1,c.vr,c.ps⟩ n).2.2-(pC ⟨q.1,c.vr,c.ps⟩ n).2.1)) (pC ⟨q.1,c.vr,c.ps⟩ n).1.ns with
     | none=>none
     | some ns=>E0 k j (n+1) ⟨ns,(pC ⟨q.1,c.vr,c.ps⟩ n).1.vr,(pC ⟨q.1,c.vr,c.ps⟩ n).1.ps⟩ (hs++[n]))
  else some (c,hs)
def gw (ns:List Nd) (n m:Nat):Nat:=if m<n then 0 else if nK ns m=0 then (nT ns m).size else 1
theorem a4m {f:Nat->Nat}:∀ (l:List Tm) (N:Nat),(∀ i t,l[i]?=some t->f (N+i)<=t.size)->i9 f (N+l.length)<=i9 f N+(l.map Tm.size).sum
 | [],N,_=>by simp
 | t::l,N,h=>by
  have h1:=h 0 t rfl;have h2:=a4m (f:=f) l (N+1) fun i u hu=>by have:=h (i+1) u (by simpa using hu);rw [show N+1+i=N+(i+1) by omega];exact this
  rw [length_cons,show N+(l.length+1)=N+1+l.length by omega,map_cons,sum_cons];rw [i9] at h2;rw [Nat.add_zero] at h1;omega
theorem b2y {ns:List Nd} {n:Nat} (hn:n<ns.length):i9 (gw ns (n+1)) ns.length+(if nK ns n=0 then (nT ns n).size else 1)=i9 (gw ns n) ns.length:=by
 have h1:i9 (gw ns (n+1)) ns.length=i9 (upd (gw ns n) n 0) ns.length:=r6 fun m _=>by
  unfold gw;by_cases e:m=n
  ·subst e;rw [j5,if_pos (by omega)]
  ·rw [p5 e];by_cases e2:m<n
   ·rw [if_pos (by omega),if_pos e2]
   ·rw [if_neg (by omega),if_neg e2]
 have h2:=L1 (f:=gw ns n) (x:=0) hn;have h3:gw ns n n=if nK ns n=0 then (nT ns n).size else 1:=if_neg (by omega)
 rw [h1,<-h3];omega
theorem b6g (c:Cl) {n:Nat} (hn:n<c.ns.length):i9 (gw (pC c n).1.ns (n+1)) (pC c n).1.ns.length<i9 (gw c.ns n) c.ns.length:=by
 have h0:=b2y hn;have gM:1<=(if nK c.ns n=0 then (nT c.ns n).size else 1):=by
  split
  ·exact Tm.size_pos _
  ·exact Nat.le_refl _
 unfold pC;split
 ·show i9 (gw c.ns (n+1)) c.ns.length<_;omega
 ·rename_i hv;split
  ·rename_i hk;rw [K1 _ c hn];obtain ⟨l,hl⟩:∃ l,l=(nT c.ns n).l:=⟨_,rfl⟩
   rw [<-hl];have kD:=T4 l c;have gP:n<(addAll c l).ns.length:=by omega
   show i9 (gw (setFi _ _ _) (n+1)) (setFi _ _ _).length<_;rw [P9,kD];have h1:=a4m (f:=gw (setFi (addAll c l).ns n c.ns.length) (n+1)) l c.ns.length fun i t hi=>by
    have dJ:i<l.length:=by
     rcases Nat.lt_or_ge i l.length with h1 | h1
     ·exact h1
     ·rw [getElem?_eq_none h1] at hi;cases hi
    obtain ⟨a1,a2⟩:=a3M l c dJ;unfold gw;rw [if_neg (by omega),H7 gP,p5 (by omega),a2,if_pos rfl,N4 gP];rw [hi] at a1;rw [<-Option.some.inj a1];exact Nat.le_refl _
   have h2:i9 (gw (setFi (addAll c l).ns n c.ns.length) (n+1)) c.ns.length=i9 (gw c.ns (n+1)) c.ns.length:=r6 fun m hm=>by
    unfold gw;by_cases e:m<n+1
    ·rw [if_pos e,if_pos e]
    ·rw [if_neg e,if_neg e,H7 gP,p5 (by omega),N4 gP];unfold nK nT;rw [D4 l c hm]
   rw [hk,if_pos rfl] at h0;have h6:=Tm.size_sym (t:=nT c.ns n) (fun e=>hv (.inl e));rw [<-hl] at h6;omega
  ·show i9 (gw c.ns (n+1)) c.ns.length<_;omega
structure CI (c:Cl) (H:Nat->Nat) (n:Nat) (hs:List Nat):Prop where
 le:n<=c.ns.length
 lst:hs=(List.range n).filter fun m=>decide (H m=m)
 kid:∀ m,m<n->H m=m->¬ (nT c.ns m).f<0->(nT c.ns m).l.length≠0->nK c.ns m≠0
 us:∀ h,nS c.ns h=((hs.flatMap (egC c.ns H)).count h:Nat)
theorem CI.mem {c:Cl} {H:Nat->Nat} {n:Nat} {hs:List Nat} (h:CI c H n hs) {g:Nat} (hg:g∈hs):g<n/\H g=g:=by
 rw [h.lst,mem_filter] at hg;exact ⟨mem_range.1 hg.1,of_decide_eq_true hg.2⟩
theorem CI.grow {c c':Cl} {H H' r:Nat->Nat} {E} (hc:ClsC c H r E) {n:Nat} {hs:List Nat} (h:CI c H n hs) (hg:Grew c c' H H') (hS:∀ m,nS c'.ns m=nS c.ns m):CI c' H' n hs:=by
 have hl:=hg.len;have cY:=h.le;refine ⟨by omega,?_,fun m hm e hf hz=>?_,fun x=>?_⟩
 ·rw [h.lst];apply List.filter_congr;intro m hm;rw [hg.hd m (by have:=mem_range.1 hm;omega)]
 ·have bQ:m<c.ns.length:=by omega
  rw [hg.tm m bQ] at hf hz;rw [hg.hd m bQ] at e;have:=h.kid m hm e hf hz;rw [hg.kd m bQ this];exact this
 ·rw [hS,h.us x];have:hs.flatMap (egC c'.ns H')=hs.flatMap (egC c.ns H):=by
   have:∀ g∈hs,egC c'.ns H' g=egC c.ns H g:=fun g hgm=>by
    obtain ⟨g1,g2⟩:=h.mem hgm;have bQ:g<c.ns.length:=by omega
    unfold egC;rw [hg.tm g bQ];split
    ·rfl
    ·rename_i hf;apply map_congr_left;intro i hi;have hi:=mem_range.1 hi;have hk:=h.kid g g1 g2 hf (by omega);rw [hg.kd g bQ hk,hg.hd _ ((hc.kid g bQ hk).2 i hi).1]
   rw [List.flatMap_def,List.flatMap_def,map_congr_left this]
  rw [this]
theorem Grew.of {c c':Cl} {H:Nat->Nat} (hl:c'.ns.length=c.ns.length) (ht:∀ m,nT c'.ns m=nT c.ns m) (hk:∀ m,nK c'.ns m=nK c.ns m) (hs:∀ m,nS c'.ns m=nS c.ns m) (hp:c'.ps=c.ps):Grew c c' H H:=⟨by omega,fun m _=>ht m,fun m _ _=>hk m,fun m _=>hs m,fun _ _=>rfl,hp⟩
theorem a7W {ns ns':List Nd} {n:Nat} (hl:ns'.length=ns.length) (ht:∀ m,nT ns' m=nT ns m) (hk:∀ m,nK ns' m=nK ns m):i9 (gw ns' n) ns'.length=i9 (gw ns n) ns.length:=by
 rw [hl];exact r6 fun m _=>by unfold gw;rw [ht,hk]
theorem a4s (H:Nat->Nat) (n:Nat):(List.range (n+1)).filter (fun m=>decide (H m=m))=(List.range n).filter (fun m=>decide (H m=m))++if H n=n then [n] else []:=by
 rw [List.range_succ,filter_append];congr 1;rw [filter_cons,List.filter_nil];by_cases e:H n=n
 ·rw [if_pos e,decide_eq_true e];rfl
 ·rw [if_neg e,decide_eq_false e];rfl
theorem a9b:∀ (M n:Nat) (c:Cl) (hs:List Nat) {H r:Nat->Nat} {E},i9 (gw c.ns n) c.ns.length=M->ClsC c H r E->CI c H n hs->∃ k0 q H' r',(∀ k j,k0<=k->k0<=j->E0 k j n c hs=some q)/\ClsC q.1 H' r' E/\CI q.1 H' q.1.ns.length q.2/\q.1.ps=c.ps:=by
 intro M
 induction M using Nat.strongRecOn with
 | ind M ih =>
  intro n c hs H r E hM h hi;have cY:=hi.le;by_cases hn:n<c.ns.length
  ·obtain ⟨ns1,e1,g1,l1,t1,k1,s1⟩:=ClsC.head (vr:=c.vr) (ps:=c.ps) (r n+1) h hn (by omega);have i1:CI ⟨ns1,c.vr,c.ps⟩ H n hs:=hi.grow h (Grew.of l1 t1 k1 s1 rfl) s1;have w1:i9 (gw ns1 n) ns1.length=M:=by rw [a7W l1 t1 k1];exact hM
   have bS:n<ns1.length:=by omega
   by_cases hh:H n=n
   ·
    obtain ⟨H2,r2,g2,g3,g4,g5⟩:=ClsC.parts g1 (n:=n) bS;obtain ⟨c1,gO⟩:∃ c1:Cl,c1=⟨ns1,c.vr,c.ps⟩:=⟨_,rfl⟩
    rw [<-gO] at g1 g2 g3 g4 g5 i1;have bS:n<c1.ns.length:=by rw [gO];exact bS
    have w1:i9 (gw c1.ns n) c1.ns.length=M:=by rw [gO];exact w1
    obtain ⟨c2,gY⟩:∃ c2,c2=(pC c1 n).1:=⟨_,rfl⟩
    have w2:=b6g c1 bS;have sp:=a4H c1 n;rw [<-gY] at g2 g3 g5 w2 sp;have i2:CI c2 H2 n hs:=i1.grow g1 g3 sp;have l2:c1.ns.length<=c2.ns.length:=g3.len;have bR:n<c2.ns.length:=by omega
    have tn:nT c2.ns n=nT c1.ns n:=g3.tm n bS;have hh2:H2 n=n:=by rw [g3.hd n bS];exact hh
    have vT:(List.range' (pC c1 n).2.1 ((pC c1 n).2.2-(pC c1 n).2.1)).map H2=egC c2.ns H2 n/\∀ p∈List.range' (pC c1 n).2.1 ((pC c1 n).2.2-(pC c1 n).2.1),p<c2.ns.length:=by
     by_cases hv:(nT c1.ns n).f<0\/(nT c1.ns n).l.length=0
     ·rw [g4 hv];refine ⟨?_,fun p hp=>by simp at hp⟩;unfold egC;rw [tn];split
      ·rfl
      ·rename_i hf;rw [hv.resolve_left hf];rfl
     ·obtain ⟨q1,q2⟩:=g5 hv;have hf:¬ (nT c1.ns n).f<0:=fun e=>hv (.inl e);rw [q2];simp only;rw [show nK c2.ns n+(nT c1.ns n).l.length-nK c2.ns n=(nT c1.ns n).l.length by omega];refine ⟨?_,fun p hp=>?_⟩
      ·unfold egC;rw [tn,if_neg hf,List.range'_eq_map_range,map_map];rfl
      ·rw [List.mem_range'_1] at hp;have:=((g2.kid n bR q1).2 (p-nK c2.ns n) (by rw [tn];omega)).1;omega
    obtain ⟨k0,ns3,e3,g6,l3,t3,k3,s3⟩:=a6n (vr:=c2.vr) (ps:=c2.ps) _ g2 vT.2;rw [vT.1] at s3;have i3:CI ⟨ns3,c2.vr,c2.ps⟩ H2 (n+1) (hs++[n]):=by
     have ee:∀ g,egC ns3 H2 g=egC c2.ns H2 g:=fun g=>by unfold egC;rw [t3,k3]
     refine ⟨by show n+1<=ns3.length;omega,?_,fun m hm e hf hz=>?_,fun x=>?_⟩
     ·rw [a4s,if_pos hh2,i2.lst]
     ·show nK ns3 m≠0;rw [show nT (Cl.mk ns3 c2.vr c2.ps).ns m=nT c2.ns m from t3 m] at hf hz;rw [k3];by_cases em:m=n
      ·subst em;rw [tn] at hf hz;exact (g5 fun e=>e.elim hf hz).1
      ·exact i2.kid m (by omega) e hf hz
     ·show nS ns3 x=((hs++[n]).flatMap (egC ns3 H2)).count x;rw [s3,i2.us x,List.flatMap_append,count_append,flatMap_cons,flatMap_nil,append_nil,show egC ns3 H2=egC c2.ns H2 from funext ee];omega
    have w3:i9 (gw ns3 (n+1)) ns3.length<M:=by rw [a7W l3 t3 k3];omega
    obtain ⟨k4,q,H',r',e4,g7,i4,p4⟩:=ih _ w3 (n+1) ⟨ns3,c2.vr,c2.ps⟩ (hs++[n]) rfl g6 i3;refine ⟨max (max (r n+1) k0) k4+1,q,H',r',fun k j hk hj=>?_,g7,i4,by rw [p4];exact g3.ps.trans (by rw [gO])⟩;obtain ⟨j',rfl⟩:∃ j',j=j'+1:=⟨j-1,by omega⟩
    rw [E0,if_pos hn,N5 (show r n+1<=k by omega) e1];simp only;rw [if_neg (by rw [hh];simp),<-gO,<-gY,e3 k (by omega)];exact e4 k j' (by omega) (by omega)
   ·have i2:CI ⟨ns1,c.vr,c.ps⟩ H (n+1) hs:=by
     refine ⟨by show n+1<=ns1.length;omega,?_,fun m hm e=>?_,i1.us⟩
     ·rw [a4s,if_neg hh,append_nil];exact i1.lst
     ·have:m≠n:=fun em=>hh (by rw [em] at e;exact e);exact i1.kid m (by omega) e
    have w2:i9 (gw ns1 (n+1)) ns1.length<M:=by
     have:=b2y bS;have gM:1<=(if nK ns1 n=0 then (nT ns1 n).size else 1):=by
      split
      ·exact Tm.size_pos _
      ·exact Nat.le_refl _
     omega
    obtain ⟨k4,q,H',r',e4,g7,i4,p4⟩:=ih _ w2 (n+1) ⟨ns1,c.vr,c.ps⟩ hs rfl g1 i2;refine ⟨max (r n+1) k4+1,q,H',r',fun k j hk hj=>?_,g7,i4,p4⟩;obtain ⟨j',rfl⟩:∃ j',j=j'+1:=⟨j-1,by omega⟩
    rw [E0,if_pos hn,N5 (show r n+1<=k by omega) e1];simp only;rw [if_pos hh];exact e4 k j' (by omega) (by omega)
  ·have gP:n=c.ns.length:=by omega
   refine ⟨1,(c,hs),H,r,fun k j _ hj=>?_,h,gP▸hi,rfl⟩;obtain ⟨j',rfl⟩:∃ j',j=j'+1:=⟨j-1,by omega⟩
   rw [E0,if_neg hn]
def V4 (k:Nat):List Nat->List Nd->List Nat->Option (List Nd×List Nat)
 | [],ns,o=>some (ns,o)
 | p::l,ns,o=>match n9 k ns p with
  | none=>none
  | some q=>V4 k l (setUs q.1 q.2 (nS q.1 q.2-1)) (if nS q.1 q.2-1=0 then o++[q.2] else o)
def a2n (k:Nat):Nat->Nat->Cl->List Nat->Option (Cl×List Nat)
 | 0,_,_,_=>none
 | j+1,i,c,o=>match o[i]? with
  | none=>some (c,o)
  | some g=>match V4 k (List.range' (pC c g).2.1 ((pC c g).2.2-(pC c g).2.1)) (pC c g).1.ns o with
   | none=>none
   | some q=>a2n k j (i+1) ⟨q.1,(pC c g).1.vr,(pC c g).1.ps⟩ q.2
def a9p (ns:List Nd) (H:Nat->Nat):Prop:=∀ m,m<ns.length->H m=m->¬ (nT ns m).f<0->(nT ns m).l.length≠0->nK ns m≠0
theorem a4i {c:Cl} {H r:Nat->Nat} {E} (hc:ClsC c H r E) (hm:a9p c.ns H) {g:Nat} (hg:g<c.ns.length) (hh:H g=g):(pC c g).1=c/\(List.range' (pC c g).2.1 ((pC c g).2.2-(pC c g).2.1)).map H=egC c.ns H g/\∀ p∈List.range' (pC c g).2.1 ((pC c g).2.2-(pC c g).2.1),p<c.ns.length:=by
 unfold pC;by_cases hv:(nT c.ns g).f<0\/(nT c.ns g).l.length=0
 ·rw [if_pos hv];refine ⟨rfl,?_,fun p hp=>by simp at hp⟩;unfold egC;split
  ·rfl
  ·rename_i hf;rw [hv.resolve_left hf];rfl
 ·have hf:¬ (nT c.ns g).f<0:=fun e=>hv (.inl e);have hk:=hm g hg hh hf fun e=>hv (.inr e);rw [if_neg hv,if_neg hk];simp only;rw [show nK c.ns g+(nT c.ns g).l.length-nK c.ns g=(nT c.ns g).l.length by omega];refine ⟨trivial,?_,fun p hp=>?_⟩
  ·unfold egC;rw [if_neg hf,List.range'_eq_map_range,map_map];rfl
  ·rw [List.mem_range'_1] at hp;have:=((hc.kid g hg hk).2 (p-nK c.ns g) (by omega)).1;omega
theorem a3t {vr ps} {H r:Nat->Nat} {E} {N:Nat} {hp:Nat->Bool} {eg:Nat->List Nat} (vU:∀ m,hp m=decide (H m=m)) {i g:Nat}:∀ (l:List Nat) {pre:List Nat} {ns:List Nd} {o:List Nat},ns.length=N->ClsC ⟨ns,vr,ps⟩ H r E->(∀ p∈l,p<N)->o[i]?=some g->eg g=pre++l.map H->KI N hp eg i pre (nS ns) o->∃ k0 q,(∀ k,k0<=k->V4 k l ns o=some q)/\ClsC ⟨q.1,vr,ps⟩ H r E/\q.1.length=N/\(∀ m,nT q.1 m=nT ns m)/\(∀ m,nK q.1 m=nK ns m)/\q.2[i]?=some g/\KI N hp eg i (eg g) (nS q.1) q.2
 | [],pre,ns,o,hN,h,_,ho,he,hk=>⟨0,(ns,o),fun _ _=>rfl,h,hN,fun _=>rfl,fun _=>rfl,ho,by rw [he,map_nil,append_nil];exact hk⟩
 | p::l,pre,ns,o,hN,h,hl,ho,he,hk=>by
  have hp0:p<ns.length:=by rw [hN];exact hl p (by simp)
  obtain ⟨ns1,e1,g1,l1,t1,k1,s1⟩:=ClsC.head (r p+1) h hp0 (by omega);have hd:=h.hd p hp0;have hH:H p<ns1.length:=by rw [l1];exact hd.1
  have hs:=hk.step ho (by rw [he];rfl) (x:=H p) ⟨by rw [<-hN];exact hd.1,by rw [vU];exact decide_eq_true hd.2⟩;have es:nS (setUs ns1 (H p) (nS ns1 (H p)-1))=upd (nS ns) (H p) (nS ns (H p)-1):=by funext m;rw [b0i hH,s1,show nS ns1=nS ns from funext s1]
  obtain ⟨k0,q,e2,g2,l2,t2,k2,o2,i2⟩:=a3t (eg:=eg) vU l (pre:=pre++[H p]) (ns:=setUs ns1 (H p) (nS ns1 (H p)-1)) (o:=if nS ns1 (H p)-1=0 then o++[H p] else o) (by rw [Q1,l1,hN]) (g1.setUs hH _) (fun q hq=>hl q (mem_cons_of_mem _ hq))
   (by
    split
    ·rw [getElem?_append_left (a2P ho)];exact ho
    ·exact ho)
   (by rw [he,map_cons,append_assoc];rfl) (by rw [es,s1];exact hs)
  refine ⟨max (r p+1) k0,q,fun k hk=>?_,g2,l2,fun m=>by rw [t2,a1p hH,t1],fun m=>by rw [k2,a1g hH,k1],o2,i2⟩;rw [V4,N5 (show r p+1<=k by omega) e1];exact e2 k (by omega)
theorem a6C:∀ N:Nat,i9 (fun _=>1) N=N
 | 0=>rfl
 | N+1=>by rw [i9,a6C N]
theorem KI.len {N:Nat} {hp:Nat->Bool} {eg:Nat->List Nat} {i:Nat} {pre:List Nat} {u:Nat->Int} {o:List Nat} (h:KI N hp eg i pre u o):o.length<=N:=by
 have:=(C1 (N:=N) o (fun _=>1) h.nd fun g hg=>(h.hd g hg).1).1;rw [a6C] at this;have e:(o.map fun _=>1).sum=o.length:=by
  clear this h
  induction o with
  | nil=>rfl
  | cons a o ih=>rw [map_cons,sum_cons,ih,length_cons];omega
 omega
theorem b3F {H r:Nat->Nat} {E} {N:Nat} {hp:Nat->Bool} {eg:Nat->List Nat} (vU:∀ m,hp m=decide (H m=m)):∀ (M i:Nat) (c:Cl) (o:List Nat),N-i=M->c.ns.length=N->ClsC c H r E->a9p c.ns H->(∀ g,g<N->egC c.ns H g=eg g)->i<=o.length->KI N hp eg i [] (nS c.ns) o->∃ k0 q,(∀ k j,k0<=k->k0<=j->a2n k j i c o=some q)/\ClsC q.1 H r E/\q.1.ns.length=N/\(∀ m,nT q.1.ns m=nT c.ns m)/\(∀ m,nK q.1.ns m=nK c.ns m)/\q.1.vr=c.vr/\q.1.ps=c.ps/\KI N hp eg q.2.length [] (nS q.1.ns) q.2:=by
 intro M
 induction M using Nat.strongRecOn with
 | ind M ih =>
  intro i c o hM hN h hm sM hio hk;cases ho:o[i]? with
  | none =>
   have hi:i=o.length:=by have:=List.getElem?_eq_none_iff.1 ho;omega
   refine ⟨1,(c,o),fun k j _ hj=>?_,h,hN,fun _=>rfl,fun _=>rfl,rfl,rfl,hi▸hk⟩;obtain ⟨j',rfl⟩:∃ j',j=j'+1:=⟨j-1,by omega⟩
   rw [a2n,ho]
  | some g =>
   have hl:=a2P ho;have kD:=hk.len;obtain ⟨g1,g2⟩:=hk.hd g (mem_of_getElem? ho);have hh:H g=g:=by rw [vU] at g2;exact of_decide_eq_true g2
   obtain ⟨p1,p2,p3⟩:=a4i h hm (by omega) hh;obtain ⟨k0,q,e1,c1,c2,c3,c4,c5,c6⟩:=a3t (vr:=c.vr) (ps:=c.ps) vU (List.range' (pC c g).2.1 ((pC c g).2.2-(pC c g).2.1)) (pre:=[]) hN h (by rw [<-hN];exact p3) ho (by rw [p2,sM g g1];rfl) hk;have bQ:a9p q.1 H:=fun m cD=>by rw [c3,c4];exact hm m (by rw [hN,<-c2];exact cD)
   obtain ⟨k1,q1,e2,d1,d2,d3,d4,d5,d6,d7⟩:=ih (N-(i+1)) (by omega) (i+1) ⟨q.1,c.vr,c.ps⟩ q.2 rfl c2 c1 bQ (fun g hg=>by rw [<-sM g hg];unfold egC;rw [show nT (Cl.mk q.1 c.vr c.ps).ns g=nT c.ns g from c3 g,show nK (Cl.mk q.1 c.vr c.ps).ns g=nK c.ns g from c4 g]) (a2P c5) (c6.next c5 rfl);refine ⟨max k0 k1+1,q1,fun k j hk hj=>?_,d1,d2,fun m=>by rw [d3];exact c3 m,fun m=>by rw [d4];exact c4 m,d5,d6,d7⟩;obtain ⟨j',rfl⟩:∃ j',j=j'+1:=⟨j-1,by omega⟩
   rw [a2n,ho];simp only;rw [p1,e1 k (by omega)];exact e2 k j' (by omega) (by omega)
theorem CI.start {c:Cl} {H:Nat->Nat} {hs:List Nat} (h:CI c H c.ns.length hs):KI c.ns.length (fun m=>decide (H m=m)) (egC c.ns H) 0 [] (nS c.ns) (hs.filter fun n=>decide (nS c.ns n=0)):=by
 have hn:hs.Nodup:=by rw [h.lst];exact List.nodup_range.filter _
 have hd:∀ x,nS c.ns x=(deg c.ns.length (fun m=>decide (H m=m)) (egC c.ns H) x:Int):=fun x=>by
  rw [h.us x,a1r];have h1:=(C1 (N:=c.ns.length) hs (a7v (fun m=>decide (H m=m)) (egC c.ns H) x) hn fun g hg=>(h.mem hg).1).2 fun g hg mE=>by unfold a7v;rw [if_neg];intro e;exact mE (by rw [h.lst,mem_filter];exact ⟨mem_range.2 hg,e⟩)
  unfold deg;rw [h1];congr 1;exact I6 fun s gD=>by unfold a7v;rw [if_pos (decide_eq_true (h.mem gD).2)]
 have e:nS c.ns=fun x=>(deg c.ns.length (fun m=>decide (H m=m)) (egC c.ns H) x:Int):=funext hd;have h2:=KI.start (N:=c.ns.length) (hp:=fun m=>decide (H m=m)) (eg:=egC c.ns H) (o:=hs.filter fun n=>decide (nS c.ns n=0)) (hn.filter _) fun x=>by
  rw [mem_filter,h.lst,mem_filter,mem_range,hd x];simp only [decide_eq_true_eq];constructor
  ·rintro ⟨⟨a,b⟩,d⟩;exact ⟨a,b,by omega⟩
  ·rintro ⟨a,b,d⟩;exact ⟨⟨a,b⟩,by omega⟩
 rw [<-e] at h2;exact h2
def tm0:Tm:=⟨0,[]⟩
def Z4 (k:Nat) (out:List Tm):List Nat->List Nd->List Tm->Option (List Nd×List Tm)
 | [],ns,l=>some (ns,l)
 | p::ps,ns,l=>match n9 k ns p with
  | none=>none
  | some q=>Z4 k out ps q.1 (l++[out.getD q.2 tm0])
def B3 (k:Nat):List Nat->Cl->List Tm->Option (Cl×List Tm)
 | [],c,out=>some (c,out)
 | n::o,c,out=>match Z4 k out (List.range' (pC c n).2.1 ((pC c n).2.2-(pC c n).2.1)) (pC c n).1.ns [] with
  | none=>none
  | some q=>B3 k o ⟨q.1,(pC c n).1.vr,(pC c n).1.ps⟩ (out.set n ⟨(nT q.1 n).f,q.2⟩)
theorem a3N {vr ps} {H r:Nat->Nat} {E} (out:List Tm):∀ (l:List Nat) {ns:List Nd} (ts:List Tm),ClsC ⟨ns,vr,ps⟩ H r E->(∀ p∈l,p<ns.length)->∃ k0 ns',(∀ k,k0<=k->Z4 k out l ns ts=some (ns',ts++(l.map H).map fun h=>out.getD h tm0))/\ClsC ⟨ns',vr,ps⟩ H r E/\ns'.length=ns.length/\(∀ m,nT ns' m=nT ns m)/\∀ m,nK ns' m=nK ns m
 | [],ns,ts,h,_=>⟨0,ns,fun _ _=>by rw [Z4,map_nil,map_nil,append_nil],h,rfl,fun _=>rfl,fun _=>rfl⟩
 | p::l,ns,ts,h,hl=>by
  have hp:=hl p (by simp);obtain ⟨ns1,e1,g1,l1,t1,k1,_⟩:=ClsC.head (r p+1) h hp (by omega);obtain ⟨k0,ns2,e2,g2,l2,t2,k2⟩:=a3N out l (ts++[out.getD (H p) tm0]) g1 fun q hq=>by rw [l1];exact hl q (mem_cons_of_mem _ hq)
  refine ⟨max (r p+1) k0,ns2,fun k hk=>?_,g2,by rw [l2,l1],fun m=>by rw [t2,t1],fun m=>by rw [k2,k1]⟩;rw [Z4,N5 (show r p+1<=k by omega) e1];simp only;rw [e2 k (by omega),map_cons,map_cons,append_assoc];rfl
def OutD (eg:Nat->List Nat) (T:Nat->Tm) (D:List Nat) (out:List Tm):Prop:=∀ h∈D,out.getD h tm0=⟨(T h).f,(eg h).map fun x=>out.getD x tm0⟩/\∀ x∈eg h,x∈D
theorem b2u {out:List Tm} {n m:Nat} {t:Tm} (h:n<out.length):(out.set n t).getD m tm0=if m=n then t else out.getD m tm0:=by
 rw [getD_eq_getElem?_getD,List.getElem?_set];by_cases e:m=n
 ·subst e;rw [if_pos rfl,if_pos h,if_pos rfl];rfl
 ·rw [if_neg (Ne.symm e),if_neg e,getD_eq_getElem?_getD]
theorem OutD.step {eg:Nat->List Nat} {T:Nat->Tm} {D:List Nat} {out:List Tm} (h:OutD eg T D out) {n:Nat} (hn:n<out.length) (hD:n∉D) (he:∀ x∈eg n,x∈D):OutD eg T (n::D) (out.set n ⟨(T n).f,(eg n).map fun x=>out.getD x tm0⟩):=by
 have keep:∀ {x},x∈D->(out.set n ⟨(T n).f,(eg n).map fun x=>out.getD x tm0⟩).getD x tm0=out.getD x tm0:=fun {x} hx=>by rw [b2u hn,if_neg (fun (e:x=n)=>hD (e▸hx))]
 intro h' hh;rcases mem_cons.1 hh with rfl | hh
 ·refine ⟨?_,fun x hx=>mem_cons_of_mem _ (he x hx)⟩;rw [b2u hn,if_pos rfl];congr 1;exact map_congr_left fun x hx=>(keep (he x hx)).symm
 ·obtain ⟨h1,h2⟩:=h h' hh;refine ⟨?_,fun x hx=>mem_cons_of_mem _ (h2 x hx)⟩;rw [keep hh,h1];congr 1;exact map_congr_left fun x hx=>(keep (h2 x hx)).symm
theorem a2B {H r:Nat->Nat} {E} {eg:Nat->List Nat} {T:Nat->Tm}:∀ (R:List Nat) (D:List Nat) (c:Cl) (out:List Tm),ClsC c H r E->a9p c.ns H->(∀ m,m<c.ns.length->nT c.ns m=T m)->(∀ g,g<c.ns.length->egC c.ns H g=eg g)->(∀ n∈R,n<c.ns.length/\H n=n)->R.Nodup->(∀ n∈R,n∉D)->(∀ pre n post,R=pre++n::post->∀ x∈eg n,x∈D\/x∈pre)->out.length=c.ns.length->OutD eg T D out->∃ k0 q,(∀ k,k0<=k->B3 k R c out=some q)/\ClsC q.1 H r E/\q.1.ns.length=c.ns.length/\(∀ m,nT q.1.ns m=nT c.ns m)/\(∀ m,nK q.1.ns m=nK c.ns m)/\q.1.vr=c.vr/\q.1.ps=c.ps/\q.2.length=out.length/\OutD eg T (R.reverse++D) q.2
 | [],D,c,out,h,_,_,_,_,_,_,_,hl,ho=>⟨0,(c,out),fun _ _=>rfl,h,rfl,fun _=>rfl,fun _=>rfl,rfl,rfl,rfl,ho⟩
 | n::R,D,c,out,h,hm,hT,sM,hR,hn,hD,hb,hl,ho=>by
  obtain ⟨n1,n2⟩:=hR n (by simp);obtain ⟨d1,d2⟩:=nodup_cons.1 hn;obtain ⟨p1,p2,p3⟩:=a4i h hm n1 n2;obtain ⟨k0,ns1,e1,g1,l1,t1,k1⟩:=a3N (vr:=c.vr) (ps:=c.ps) out _ [] h p3;rw [p2,sM n n1] at e1;have hnD:=hD n (by simp);have cR:∀ x∈eg n,x∈D:=fun x hx=>(hb [] n R rfl x hx).resolve_right (by simp);have iZ:=ho.step (n:=n) (by omega) hnD cR;obtain ⟨k2,q,e2,c1,c2,c3,c4,c5,c6,c7,c8⟩:=a2B R (n::D) ⟨ns1,c.vr,c.ps⟩ (out.set n ⟨(T n).f,(eg n).map fun x=>out.getD x tm0⟩) g1
   (fun m cD=>by rw [show nT (Cl.mk ns1 c.vr c.ps).ns m=nT c.ns m from t1 m,show nK (Cl.mk ns1 c.vr c.ps).ns m=nK c.ns m from k1 m];exact hm m (by rw [<-l1];exact cD))
   (fun m cD=>by rw [show nT (Cl.mk ns1 c.vr c.ps).ns m=nT c.ns m from t1 m];exact hT m (by rw [<-l1];exact cD))
   (fun g hg=>by rw [<-sM g (by rw [<-l1];exact hg)];unfold egC;rw [show nT (Cl.mk ns1 c.vr c.ps).ns g=nT c.ns g from t1 g,show nK (Cl.mk ns1 c.vr c.ps).ns g=nK c.ns g from k1 g])
   (fun m cD=>by have:=hR m (mem_cons_of_mem _ cD);exact ⟨by show m<ns1.length;rw [l1];exact this.1,this.2⟩)
   d2
   (fun m cD lM=>(mem_cons.1 lM).elim (fun e=>d1 (e▸cD)) (hD m (mem_cons_of_mem _ cD)))
   (fun pre m post e x hx=>by
    rcases hb (n::pre) m post (by rw [e];rfl) x hx with h1 | h1
    ·exact .inl (mem_cons_of_mem _ h1)
    ·rcases mem_cons.1 h1 with rfl | h1
     ·exact .inl (by simp)
     ·exact .inr h1)
   (by rw [length_set,hl];exact l1.symm) iZ
  refine ⟨max k0 k2,q,fun k hk=>?_,c1,by rw [c2];exact l1,fun m=>by rw [c3];exact t1 m,fun m=>by rw [c4];exact k1 m,c5,c6,by rw [c7,length_set],?_⟩
  ·rw [B3,p1,e1 k (by omega)];simp only;rw [t1,hT n n1];exact e2 k (by omega)
  ·rw [List.reverse_cons,append_assoc];exact c8
theorem Cls.made {c:Cl} {H r:Nat->Nat} {E} (h:ClsC c H r E) (hp:c.ps=[]) (hm:a9p c.ns H):Joined c.ns.length (nT c.ns) H (nK c.ns) E:=by
 have h':Cls c.ns.length (nT c.ns) (nK c.ns) (nU c.ns) H r c.vr [] E:=by rw [<-hp];exact h
 refine Cls.joined h' fun n hn hf hz=>?_;by_cases e:H n=n
 ·exact hm n hn e hf hz
 ·exact ((h.cls n hn hf e).2.2.1 hz).1
theorem c1c {c:Cl} {H r:Nat->Nat} {E} (h:ClsC c H r E) (hp:c.ps=[]) (hm:a9p c.ns H) {u:Nat->Int} {o:List Nat} (hk:KI c.ns.length (fun m=>decide (H m=m)) (egC c.ns H) o.length [] u o) {x:Nat} (hx:x<c.ns.length) (mQ:H x=x) (iQ:x∉o) (τ:Int->Tm):¬ uni τ E:=by
 refine (Cls.made h hp hm).no (O:=fun y=>y∈o) (fun y hy hyy hyo=>?_) hx mQ iQ τ;obtain ⟨g,g1,g2,g3,g4⟩:=hk.over hy (decide_eq_true hyy) hyo;refine ⟨g,g1,of_decide_eq_true g2,g3,?_⟩;unfold egC at g4;split at g4
 ·cases g4
 ·rename_i hf;obtain ⟨i,hi,e⟩:=mem_map.1 g4;exact ⟨hf,i,mem_range.1 hi,e⟩
theorem b9c {c:Cl} {H r:Nat->Nat} {E} (h:ClsC c H r E) (hp:c.ps=[]) (hm:a9p c.ns H) {u:Nat->Int} {o:List Nat} (hk:KI c.ns.length (fun m=>decide (H m=m)) (egC c.ns H) o.length [] u o) (ha:∀ x,x<c.ns.length->H x=x->x∈o) {out:List Tm} (ho:OutD (egC c.ns H) (nT c.ns) o out) {s:List Bd} (hs:∀ v,d9 s v=(o7 c.vr v).map fun m=>out.getD (H m) tm0):Mgu (i7 s) E:=by
 have j:=Cls.made h hp hm;obtain ⟨ρ,hρ⟩:=hk.rank fun x hx mQ=>ha x hx (of_decide_eq_true mQ);refine j.mgu (ρ:=ρ) (out:=fun x=>out.getD x tm0) (fun g hg rW hf i hi=>?_) (fun g hg rW=>?_) ⟨fun n hn hf=>?_,fun v hv gA=>?_⟩
 ·obtain ⟨_,_,q3,q4⟩:=j.part hg hf hi;refine hρ g hg (decide_eq_true rW) _ ?_ q3 (decide_eq_true q4);unfold egC;rw [if_neg hf];exact mem_map.2 ⟨i,mem_range.2 hi,rfl⟩
 ·show out.getD g tm0=_;rw [(ho g (ha g hg rW)).1];congr 1;unfold egC;split
  ·rfl
  ·rw [map_map];rfl
 ·obtain ⟨m,h1,h2⟩:=h.vrs n hn hf;unfold i7;rw [hs,h1,h2];rfl
 ·unfold i7;rw [hs];cases hl:o7 c.vr v with
  | none=>rfl
  | some m =>
   obtain ⟨h1,h2⟩:=h.vrt v m hl;exact absurd h2 (gA m h1)
theorem b4S {N:Nat} {H:Nat->Nat} {eg:Nat->List Nat} {u:Nat->Int} {o:List Nat} (hk:KI N (fun m=>decide (H m=m)) eg o.length [] u o):(o.length=((List.range N).filter fun m=>decide (H m=m)).length)↔∀ x,x<N->H x=x->x∈o:=by
 obtain ⟨hs,vV⟩:∃ hs,hs=(List.range N).filter fun m=>decide (H m=m):=⟨_,rfl⟩
 rw [<-vV];have hn:hs.Nodup:=by rw [vV];exact List.nodup_range.filter _
 have jT:∀ x,x∈hs↔x<N/\H x=x:=fun x=>by rw [vV,mem_filter,mem_range,decide_eq_true_eq]
 have one:∀ (L:List Nat),(∀ x∈L,H x=x)->(L.map fun x=>if H x=x then 1 else 0).sum=L.length:=fun L=>by
  induction L with
  | nil=>exact fun _=>rfl
  | cons a L ih=>intro h;rw [map_cons,sum_cons,ih fun x hx=>h x (mem_cons_of_mem _ hx),if_pos (h a (by simp)),length_cons];omega
 have s1:=(C1 (N:=N) hs (fun x=>if H x=x then 1 else 0) hn fun g hg=>((jT g).1 hg).1).2 fun g hg mE=>if_neg fun e=>mE ((jT g).2 ⟨hg,e⟩);rw [one hs fun x hx=>((jT x).1 hx).2] at s1;have oh:∀ x∈o,x<N/\H x=x:=fun x hx=>⟨(hk.hd x hx).1,of_decide_eq_true (hk.hd x hx).2⟩
 constructor
 ·intro e x hx mQ;apply Classical.byContradiction;intro iQ;have s2:=(C1 (N:=N) (x::o) (fun x=>if H x=x then 1 else 0) (nodup_cons.2 ⟨iQ,hk.nd⟩) fun g hg=>(mem_cons.1 hg).elim (fun e=>e▸hx) fun hg=>(oh g hg).1).1;rw [one (x::o) fun y hy=>(mem_cons.1 hy).elim (fun e=>e▸mQ) fun hy=>(oh y hy).2,length_cons] at s2;omega
 ·intro h;have s2:=(C1 (N:=N) o (fun x=>if H x=x then 1 else 0) hk.nd fun g hg=>(oh g hg).1).2 fun g hg mE=>if_neg fun e=>mE (h g hg e);rw [one o fun y hy=>(oh y hy).2] at s2;omega
theorem b1i {N:Nat} {H:Nat->Nat} {eg:Nat->List Nat} {u:Nat->Int} {o:List Nat} (hk:KI N (fun m=>decide (H m=m)) eg o.length [] u o) (ho:∀ g∈o,∀ x∈eg g,x∈o):∀ pre n post,o.reverse=pre++n::post->∀ x∈eg n,x∈([]:List Nat)\/x∈pre:=by
 intro pre n post e x hx;have e2:o=post.reverse++n::pre.reverse:=by have:=congrArg List.reverse e;rw [List.reverse_reverse,List.reverse_append,List.reverse_cons,append_assoc] at this;exact this
 have hp:o[post.length]?=some n:=by rw [e2,getElem?_append_right (by simp)];simp
 have iQ:x∈o:=ho n (mem_of_getElem? hp) x hx;obtain ⟨q,hq⟩:=getElem?_of_mem iQ;have h1:=hk.ord _ n (a2P hp) hp x hx q hq;rw [e2,getElem?_append_right (by simp;omega)] at hq;simp only [List.length_reverse] at hq;rw [show q-post.length=(q-post.length-1)+1 by omega,List.getElem?_cons_succ] at hq;exact .inr (mem_reverse.1 (mem_of_getElem? hq))
end Go.Proofs.YteegmcfobgpemaaGreat
