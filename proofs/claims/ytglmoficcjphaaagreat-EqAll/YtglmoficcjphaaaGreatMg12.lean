/-
 OrRef2 OrCom OrLw EqRes EqDoc ClNmX ClTtM ClRefN EqRef AbStr PrQuo EqRef2
-/
import Derived.Test.YtglmoficcjphaaaGreatMg11
import Derived.Test.YtglmoficcjphaaaGreatMg8
import Derived.Test.YtglmoficcjphaaaGreatMg10
import Derived.Test.YtglmoficcjphaaaGreatMg4
import Derived.Laws.Strings
import Derived.Laws.Strings3
import Derived.Laws.Concat
import Derived.Lib.Strings
import Derived.Laws.BytesArg
namespace Go.Proofs.YtglmoficcjphaaaGreat
open List (all_eq_true append_nil flatMap_append flatMap_cons flatMap_nil getElem?_eq_getElem getElem?_map length_append length_cons length_map length_nil length_take map_append mem_append mem_filter mem_of_getElem? mem_range range_succ take_add_one take_length)
open Go.RowKit
set_option linter.unusedVariables false
set_option linter.unusedSimpArgs false
set_option maxRecDepth 100000
noncomputable def J3 (X:List Tm) (y:Tm):Bool:=X.any fun x=>decide (kb x y=1)
theorem b8x (X Y:List Tm):a5W X Y=(decide (0<X.length)&&Y.all (J3 X)):=by
 rw [Bool.eq_iff_iff,a9b,Bool.and_eq_true,decide_eq_true_iff,all_eq_true,List.length_pos_iff];refine and_congr_right fun _=>forall_congr' fun y=>forall_congr' fun _=>?_;unfold J3;rw [List.any_eq_true];exact exists_congr fun x=>and_congr_right fun _=>(decide_eq_true_iff).symm
theorem b6T {X:List Tm} {k:Nat} {x:Tm} (h:X[k]?=some x) (y:Tm):J3 (X.take (k+1)) y=(J3 (X.take k) y||decide (kb x y=1)):=by
 unfold J3;rw [take_add_one,h,List.any_append];simp
theorem a6S (W:World) (a b:List Tm) (ha:∀ t∈a,t.fit) (hb:∀ t∈b,t.fit) (fT:a.length<=100000) (mJ:b.length<=100000):AFun Tryz.prog W 139 [.lst (a.map Tm.cv),.lst (b.map Tm.cv)] (.val (.b (a1O a b))):=by
 rw [<-b9S,b8x];obtain ⟨X,hX⟩:∃ X,X=a1s a b:=⟨_,rfl⟩
 obtain ⟨Y,hY⟩:∃ Y,Y=a1s b a:=⟨_,rfl⟩
 have hXf:∀ t∈X,t.fit:=fun t h=>ha t (by rw [hX] at h;exact a4E h);have hYf:∀ t∈Y,t.fit:=fun t h=>hb t (by rw [hY] at h;exact a4E h);have hXl:X.length<=100000:=by rw [hX];exact Nat.le_trans (a3t _ _ _) fT
 have hYl:Y.length<=100000:=by rw [hY];exact Nat.le_trans (a3t _ _ _) mJ
 have hsX:=Tm.size_all X;have hsY:=Tm.size_all Y;have eP:∀ w,AFun Tryz.prog w 154 [.lst (a.map Tm.cv),.lst (b.map Tm.cv)] (.val (.lst (X.map Tm.cv))):=fun w=>by rw [hX];exact a2z w a b (fun t h=>(ha t h).2.1) (fun t h=>(hb t h).2.1) fT mJ
 have kL:∀ w,AFun Tryz.prog w 154 [.lst (b.map Tm.cv),.lst (a.map Tm.cv)] (.val (.lst (Y.map Tm.cv))):=fun w=>by rw [hY];exact a2z w b a (fun t h=>(hb t h).2.1) (fun t h=>(ha t h).2.1) mJ fT
 rw [<-hX,<-hY];refine a9 (rs:=[.b (decide (0<X.length)&&Y.all (J3 X))]) Tryz.func139 Tryz.ntmps139 rfl rfl rfl rfl ?_;intro w U hW;refine aS (aR ?_);refine nc ze ?_;refine aS (aR ?_);refine nc zl (nc zl (nc (zw (z:=eP w)) (nc zl (nc zl (nc (zw (z:=kL w)) (nc ze (nc ze ?_)))))));refine aS (aS (aR ?_));refine nc ze ?_
 let st:Nat->AS:=fun i=>[(5,.val (.lst (X.map Tm.cv))),(6,.val (.lst (Y.map Tm.cv))),(7,.val (.i i))]
 refine aB (l7 Y.length (fun i=>∀ y∈Y.take i,J3 X y=true) st (a7 ⟨rfl,rfl,rfl,trivial⟩) (by simp) ?_);intro i hi hI;refine aS (aS (aR ?_));refine nc zl (nc zl (nc zp (nc zi ?_)));refine aC rfl (fun kA=>?_) (fun kA=>?_)
 ·have kY:i<Y.length:=by simpa using kA
  obtain ⟨y,hy⟩:∃ y,Y[i]?=some y:=⟨Y[i],getElem?_eq_getElem kY⟩
  have gO:=Tm.map_at hy;have tE:=hYf y (mem_of_getElem? hy);refine aK ?_;refine aS (aB (aS (aR ?_)));refine nc ze ?_;refine aS (aS (aR ?_));refine nc ze ?_
  let st2:Nat->AS:=fun k=>[(5,.val (.lst (X.map Tm.cv))),(6,.val (.lst (Y.map Tm.cv))),(7,.val (.i i)),(8,.val (.b (J3 (X.take k) y))),(9,.val (.i k))]
  refine aB (b9 X.length st2 (a7 ⟨rfl,rfl,rfl,rfl,rfl,trivial⟩) ?_);intro k hk;refine aS (aS (aR ?_));refine nc zl (nc zl (nc zp (nc zi ?_)));refine aC rfl (fun gE=>?_) (fun gE=>?_)
  ·have kB:k<X.length:=by simpa using gE
   obtain ⟨x,hx⟩:∃ x,X[k]?=some x:=⟨X[k],getElem?_eq_getElem kB⟩
   have kI:=Tm.map_at hx;have lD:=hXf x (mem_of_getElem? hx);have yZ:=b6T hx y;refine aK ?_;refine aS (aB ?_);cases hu:J3 (X.take k) y with
   | true =>
    rw [hu,Bool.true_or] at yZ;refine AWp.wk (a7 (s':=[(5,.val (.lst (X.map Tm.cv))),(6,.val (.lst (Y.map Tm.cv))),(7,.val (.i i)),(8,.val (.b true)),(9,.val (.i k))]) ⟨rfl,rfl,rfl,by rw [<-hu];rfl,rfl,trivial⟩) ?_;refine aD (by kernel_rfl) (by kernel_rfl) ?_;refine nc zl (nc zl (nc zH (nc zH (nc zH (nc zH (nc zH (nc zH (nc zH (nc zH (nc zH (nc zJ (nc ze ?_))))))))))));refine ⟨by kernel_rfl,?_⟩;refine aR ?_;refine nc zl (nc zu (nc ze ?_));refine ⟨kB,a7 ⟨rfl,rfl,rfl,?_,rfl,trivial⟩⟩;rw [yZ];rfl
   | false =>
    rw [hu,Bool.false_or] at yZ;refine AWp.wk (a7 (s':=[(5,.val (.lst (X.map Tm.cv))),(6,.val (.lst (Y.map Tm.cv))),(7,.val (.i i)),(8,.val (.b false)),(9,.val (.i k))]) ⟨rfl,rfl,rfl,by rw [<-hu];rfl,rfl,trivial⟩) ?_;refine aD (by kernel_rfl) (by kernel_rfl) ?_;refine nc zl (nc zl (nc (zl (p:=gb)) (nc (zl (p:=gb)) (nc (zq (j:=k) (r:=gb) (H:=kI) (hz:=hsX)) (nc (zr (r:=gb)) (nc (zl (p:=gb)) (nc (zl (p:=gb)) (nc (zq (j:=i) (r:=gb) (H:=gO) (hz:=hsY)) (nc (zr (r:=gb)) (nc (zw (p:=gb) (z:=Q7 w x lD.1 lD.2.1 lD.2.2 y tE.1 tE.2.1 tE.2.2)) (nc zI (nc ze ?_))))))))))));refine ⟨by kernel_rfl,?_⟩;refine aR ?_;refine nc zl (nc zu (nc ze ?_));refine ⟨kB,a7 ⟨rfl,rfl,rfl,?_,rfl,trivial⟩⟩;rw [yZ];rfl
  ·have kB:k=X.length:=by
    have:¬ k<X.length:=by simpa using gE
    omega
   subst kB;refine aE ?_;refine aS (aR ?_);refine nc zl (nc zF ?_);refine aC rfl (fun hn=>?_) (fun hn=>?_)
   ·have hn:(!J3 (X.take X.length) y)=true:=hn;rw [take_length] at hn;have gB:Y.all (J3 X)=false:=by rw [<-Bool.not_eq_true,all_eq_true];intro h;rw [h y (mem_of_getElem? hy)] at hn;cases hn
    rw [gB,Bool.and_false];refine aS (aR ?_);refine nc ze ?_;exact aT (And.intro (.inr rfl) rfl)
   ·have hn:(!J3 (X.take X.length) y)=false:=hn;rw [take_length] at hn;refine aK ?_;refine aR ?_;refine nc zl (nc zu (nc ze ?_));refine ⟨kY,?_,a7 ⟨rfl,rfl,rfl,trivial⟩⟩;intro z hz;rw [take_add_one,hy,mem_append] at hz;rcases hz with hz | hz
    ·exact hI z hz
    ·simp at hz;rw [hz];simpa using hn
 ·have kY:i=Y.length:=by
   have:¬ i<Y.length:=by simpa using kA
   omega
  subst kY;rw [take_length] at hI;rw [all_eq_true.2 hI,Bool.and_true];have e:decide (0<X.length)=decide (((X.map Tm.cv).length:Int)>0):=by simp
  rw [e];refine aE ?_;refine aS (aR ?_);refine nc zl (nc zp (nc zO (nc ze ?_)));exact aT (And.intro (.inr rfl) rfl)
theorem b4P (W:World) (x y:Lt) (hx:x.fit) (hy:y.fit):AFun Tryz.prog W 114 [x.cw,y.cw] (.val (.b (a1O (y8 x) (y8 y)))):=by
 have l1:=a1t x;have l2:=a1t y;refine a9 (rs:=[.b (a1O (y8 x) (y8 y))]) Tryz.func114 Tryz.ntmps114 rfl rfl rfl rfl ?_;intro w U hW;refine aS (aR ?_);refine nc zd (nc zd (nc ze ?_));refine aS (aD (by kernel_rfl) (by kernel_rfl) ?_);refine nc zy (nc (zw (z:=b0i w x)) (nc zy (nc (zw (z:=b0i w y)) (nc (zw (z:=a6S w (y8 x) (y8 y) (a1E hx) (a1E hy) (by omega) (by omega))) (nc ze ?_)))));refine ⟨by kernel_rfl,?_⟩;exact aT (And.intro (.inr rfl) rfl)
theorem a2l (W:World) (l:Lt) (h:l.fit):AFun Tryz.prog W 79 [l.cw] (.val (.i (wtL l))):=by
 have h1:=h.1.2.2;have h2:=h.2.2.2;have f1:l.a.flat.length=l.a.size:=rfl;have f2:l.b.flat.length=l.b.size:=rfl;have e:wtL l=((l.a.flat.map Tm.cv).length:Int)+((l.b.flat.map Tm.cv).length:Int):=by unfold wtL;rw [length_map,length_map];rfl
 rw [e];refine a9 (rs:=[.i (((l.a.flat.map Tm.cv).length:Int)+((l.b.flat.map Tm.cv).length:Int))]) Tryz.func79 Tryz.ntmps79 rfl rfl rfl rfl ?_;intro w U hW;refine aS (aR ?_);refine nc zd (nc ze ?_);refine aS (aD (by kernel_rfl) (by kernel_rfl) ?_);refine nc zg (nc zh (nc (zw (z:=E5 w l.a h.1.2.1 h1)) (nc zp (nc zg (nc zh (nc (zw (z:=E5 w l.b h.2.2.1 h2)) (nc zp (nc zu (nc ze ?_)))))))));refine ⟨by kernel_rfl,?_⟩;exact aT (And.intro (.inr rfl) rfl)
theorem b1x (W:World) (c:List Lt) (q:Nat) (x:Lt) (hq:c[q]?=some x) (hn:c.length<=100000) (hc:∀ l∈c,l.fit):AFun Tryz.prog W 80 [.lst (c.map Lt.cv),.i (q:Int)] (.val (.b (a9Z c x))):=by
 have kD:=Lt.size_all c;have vZ:=Lt.map_at hq;have lD:=hc x (mem_of_getElem? hq);refine a9 (rs:=[.b (a9Z c x)]) Tryz.func80 Tryz.ntmps80 rfl rfl rfl rfl ?_;intro w U hW;refine aS (aR ?_);refine nc ze ?_;refine aS (aS (aR ?_));refine nc ze ?_
 let st:Nat->AS:=fun k=>[(0,.val (.lst (c.map Lt.cv))),(1,.val (.i q)),(5,.val (.i k))]
 refine aB (l7 c.length (fun k=>∀ l∈c.take k,a1O (y8 l) (y8 x)=false) st (a7 ⟨rfl,rfl,rfl,trivial⟩) (by simp) ?_);intro k hk hI;refine aS (aS (aR ?_));refine nc zl (nc zl (nc zp (nc zi ?_)));refine aC rfl (fun kA=>?_) (fun kA=>?_)
 ·have kB:k<c.length:=by simpa using kA
  obtain ⟨l,hl⟩:∃ l,c[k]?=some l:=⟨c[k],getElem?_eq_getElem kB⟩
  have eQ:=Lt.map_at hl;have hlf:=hc l (mem_of_getElem? hl);refine aK ?_;refine aS (aB (aS (aD (by kernel_rfl) (by kernel_rfl) ?_)));refine nc zl (nc zl (nc (zq (j:=k) (H:=eQ) (hz:=kD)) (nc zr (nc zl (nc zl (nc (zq (j:=q) (H:=vZ) (hz:=kD)) (nc zr (nc (zw (z:=b4P w l x hlf lD)) ?_))))))));refine ⟨by kernel_rfl,?_⟩;refine aC rfl (fun hg=>?_) (fun hg=>?_)
  ·have hg:a1O (y8 l) (y8 x)=true:=hg;have gB:a9Z c x=false:=by unfold a9Z;rw [List.any_eq_true.2 ⟨l,mem_of_getElem? hl,hg⟩];rfl
   rw [gB];refine aS (aR ?_);refine nc ze ?_;exact aT (And.intro (.inr rfl) rfl)
  ·have hg:a1O (y8 l) (y8 x)=false:=hg;refine aK ?_;refine aR ?_;refine nc zl (nc zu (nc ze ?_));refine ⟨kB,?_,a7 ⟨rfl,rfl,rfl,trivial⟩⟩;intro z hz;rw [take_add_one,hl,mem_append] at hz;rcases hz with hz | hz
   ·exact hI z hz
   ·simp at hz;rw [hz];exact hg
 ·have kB:k=c.length:=by
   have:¬ k<c.length:=by simpa using kA
   omega
  subst kB;rw [take_length] at hI;have oT:a9Z c x=true:=by unfold a9Z;rw [List.any_eq_false.2 fun l hl=>by rw [hI l hl];decide];rfl
  rw [oT];refine aE ?_;refine aS (aR ?_);refine nc ze ?_;exact aT (And.intro (.inr rfl) rfl)
theorem b9H {c:List Lt} {k:Nat} {x:Lt} (h:c[k]?=some x):a0Z c (k:Int)=a9Z c x:=by unfold a0Z;rw [if_pos (by omega),Int.toNat_natCast,h]
theorem a7N (l:Lt):0<wtL l:=by have:=l.a.size_pos;unfold wtL;omega
theorem a9E (c:List Lt):∀ k,k<=c.length->(hvK c k=(-1,0)/\∀ j l,j<k->c[j]?=some l->l.neg=false)\/∃ p x,p<k/\c[p]?=some x/\x.neg=true/\hvK c k=((p:Int),wtL x)/\(∀ j l,j<k->c[j]?=some l->l.neg=true->wtL l<=wtL x)/\∀ j l,j<p->c[j]?=some l->l.neg=true->wtL l<wtL x
 | 0,_ => .inl ⟨rfl,fun j l h=>by omega⟩
 | k+1,hk=>by
  obtain ⟨y,hy⟩:∃ y,c[k]?=some y:=⟨c[k],getElem?_eq_getElem (by omega)⟩
  have hK:hvK c (k+1)=if y.neg=true/\(hvK c k).2<wtL y then ((k:Int),wtL y) else hvK c k:=by conv=>lhs;unfold hvK;rw [hy]
  have hwp:=a7N y;rcases a9E c k (by omega) with ⟨h1,h2⟩ | ⟨p,x,hp,hx,uM,h1,h2,h3⟩
  ·by_cases hn:y.neg=true
   ·right;refine ⟨k,y,by omega,hy,hn,by rw [hK,if_pos ⟨hn,by rw [h1];exact hwp⟩],fun j l hj hl bZ=>?_,fun j l hj hl bZ=>?_⟩
    ·by_cases pZ:j=k
     ·subst pZ;rw [hy] at hl;cases hl;exact Int.le_refl _
     ·rw [h2 j l (by omega) hl] at bZ;cases bZ
    ·rw [h2 j l hj hl] at bZ;cases bZ
   ·left;refine ⟨by rw [hK,if_neg (fun h=>hn h.1),h1],fun j l hj hl=>?_⟩;by_cases pZ:j=k
    ·subst pZ;rw [hy] at hl;cases hl;simpa using hn
    ·exact h2 j l (by omega) hl
  ·right;by_cases hc:y.neg=true/\(hvK c k).2<wtL y
   ·rw [h1] at hc;have kA:wtL x<wtL y:=hc.2;refine ⟨k,y,by omega,hy,hc.1,by rw [hK,h1,if_pos hc],fun j l hj hl bZ=>?_,fun j l hj hl bZ=>?_⟩
    ·by_cases pZ:j=k
     ·subst pZ;rw [hy] at hl;cases hl;exact Int.le_refl _
     ·have:=h2 j l (by omega) hl bZ;omega
    ·have:=h2 j l hj hl bZ;omega
   ·refine ⟨p,x,by omega,hx,uM,by rw [hK,if_neg hc,h1],fun j l hj hl bZ=>?_,h3⟩;by_cases pZ:j=k
    ·subst pZ;rw [hy] at hl;cases hl;rw [h1] at hc;have:¬ wtL x<wtL y:=fun h=>hc ⟨bZ,h⟩;omega
    ·exact h2 j l (by omega) hl bZ
theorem a8g (W:World) (c:List Lt) (hn:c.length<=100000) (hc:∀ l∈c,l.fit):AFun Tryz.prog W 54 [.lst (c.map Lt.cv)] (.val (.lst ((s9 c).map CV.i))):=by
 have kD:=Lt.size_all c;refine a9 (rs:=[.lst ((s9 c).map CV.i)]) Tryz.func54 Tryz.ntmps54 rfl rfl rfl rfl ?_;intro w U hW;refine aS (aR ?_);refine nc ze ?_;refine aS (aR ?_);refine nc ze ?_;refine aS (aS (aR ?_));refine nc ze ?_
 let st:Nat->AS:=fun k=>[(0,.val (.lst (c.map Lt.cv))),(3,.val (.i (hvK c k).2)),(4,.val (.i k))]
 refine aB (b9 c.length st (a7 ⟨rfl,rfl,rfl,trivial⟩) ?_);intro k hk;refine aS (aS (aR ?_));refine nc zl (nc zl (nc zp (nc zi ?_)));refine aC rfl (fun kA=>?_) (fun kA=>?_)
 ·have kB:k<c.length:=by simpa using kA
  obtain ⟨x,hx⟩:∃ x,c[k]?=some x:=⟨c[k],getElem?_eq_getElem kB⟩
  have kI:=Lt.map_at hx;have lD:=hc x (mem_of_getElem? hx);have hK:hvK c (k+1)=if x.neg=true/\(hvK c k).2<wtL x then ((k:Int),wtL x) else hvK c k:=by conv=>lhs;unfold hvK;rw [hx]
  refine aK ?_;refine aS (aB ?_);cases iO:x.neg with
  | true =>
   refine aS (aR ?_);refine nc zl (nc zl (nc (zq (j:=k) (H:=kI) (hz:=kD)) (nc zN (nc zr (nc zl (nc (zl (p:=gb)) (nc (zl (p:=gb)) (nc (zq (j:=k) (r:=gb) (H:=kI) (hz:=kD)) (nc (zr (r:=gb)) (nc (zw (p:=gb) (z:=a2l w x lD)) (nc (zl (p:=gb)) (nc (zO (r:=gb)) (nc zJ ?_)))))))))))));refine aC rfl (fun hg=>?_) (fun hg=>?_)
   ·have hg:decide (wtL x>(hvK c k).2)=true:=hg;have e:(hvK c (k+1)).2=wtL x:=by rw [hK,if_pos ⟨iO,by have:=of_decide_eq_true hg;omega⟩]
    refine aR ?_;refine nc zl (nc zl (nc (zq (j:=k) (H:=kI) (hz:=kD)) (nc zr (nc (zw (z:=a2l w x lD)) (nc ze ?_)))));refine aR ?_;refine nc zl (nc zu (nc ze ?_));refine ⟨kB,a7 ⟨rfl,?_,rfl,trivial⟩⟩;rw [e];rfl
   ·have hg:decide (wtL x>(hvK c k).2)=false:=hg;have e:hvK c (k+1)=hvK c k:=by rw [hK,if_neg (fun h=>by have:=of_decide_eq_false hg;have:=h.2;omega)]
    refine aK ?_;refine aR ?_;refine nc zl (nc zu (nc ze ?_));refine ⟨kB,a7 ⟨rfl,?_,rfl,trivial⟩⟩;rw [e];rfl
  | false =>
   have e:hvK c (k+1)=hvK c k:=by rw [hK,if_neg (fun h=>by rw [iO] at h;cases h.1)]
   refine aS (aR ?_);refine nc zl (nc zl (nc (zq (j:=k) (H:=kI) (hz:=kD)) (nc zN (nc zr (nc zl (nc zH (nc zH (nc zH (nc zH (nc zH (nc zH (nc zH (nc zI ?_)))))))))))));refine aC rfl (fun h=>by cases h) (fun _=>?_);refine aK ?_;refine aR ?_;refine nc zl (nc zu (nc ze ?_));refine ⟨kB,a7 ⟨rfl,?_,rfl,trivial⟩⟩;rw [e];rfl
 ·have kB:k=c.length:=by
   have:¬ k<c.length:=by simpa using kA
   omega
  subst kB;refine aE ?_;obtain ⟨M,hM⟩:∃ M,M=(hvK c c.length).2:=⟨_,rfl⟩
  refine AWp.wk (a7 (s':=[(0,.val (.lst (c.map Lt.cv))),(3,.val (.i M))]) ⟨rfl,by rw [hM];rfl,trivial⟩) ?_;refine aS (aR ?_);refine nc ze ?_;refine aS (aS (aR ?_));refine nc ze ?_;rcases a9E c c.length (Nat.le_refl _) with ⟨h1,h2⟩ | ⟨p,x,hp,hx,uM,h1,h2,h3⟩
  ·
   have hM0:M=0:=by rw [hM,h1]
   subst hM0;have kC:s9 c=gsK c c.length:=by unfold s9;rw [h1,if_neg (by decide)]
   rw [kC]
   let st2:Nat->AS:=fun k=>[(0,.val (.lst (c.map Lt.cv))),(3,.val (.i 0)),(5,.own (.lst ((gsK c k).map CV.i)) 200068),(200068,.tok 3 1),(6,.val (.i k))]
   refine aB (b9 c.length st2 ((v9 5 200068 3 1 rfl rfl rfl rfl rfl rfl rfl).trans (a7 ⟨rfl,rfl,rfl,rfl,rfl,trivial⟩)) ?_);intro k hk;refine aS (aS (aR ?_));refine nc zl (nc zl (nc zp (nc zi ?_)));refine aC rfl (fun kA=>?_) (fun kA=>?_)
   ·have kB:k<c.length:=by simpa using kA
    obtain ⟨x,hx⟩:∃ x,c[k]?=some x:=⟨c[k],getElem?_eq_getElem kB⟩
    have hgI:=b9H hx;have fN:((gsK c k).map CV.i).length<=k:=by rw [length_map];exact a0f c k
    have mK:=a0f c k;have xI:∀ x∈(gsK c k).map CV.i,x.size=1:=b8 _;refine aK ?_;refine aS (aB (aS (aS (aR ?_))));refine nc zl (nc zO (nc zl (nc zH (nc zH (nc zH (nc zH (nc zH (nc zI (nc zl (nc zH (nc zH (nc zH (nc zH (nc zH (nc zH (nc zH (nc zI ?_)))))))))))))))));refine aC rfl (fun h=>by cases h) (fun _=>?_);refine aK ?_;refine aS (aR ?_);refine nc zl (nc zt (nc zl (nc (zl (p:=gb)) (nc (zl (p:=gb)) (nc (zw (p:=gb) (z:=b1x w c k x hx hn hc)) (nc zJ ?_))))));refine aC rfl (fun hg=>?_) (fun hg=>?_)
    ·have hg:a9Z c x=true:=hg;refine aR ?_;refine nc zl (nc zl (nc zC (nc zD (nc ze ?_))));refine AWp.wk ((a7 (s':=[(0,.val (.lst (c.map Lt.cv))),(3,.val (.i 0)),(5,.own (.lst ((gsK c k).map CV.i++[CV.i (k:Int)])) 300068),(300068,.tok 3 1),(6,.val (.i k))]) ⟨rfl,rfl,rfl,rfl,rfl,trivial⟩).trans (o8 300068 200068 rfl rfl rfl rfl)) ?_;refine aR ?_;refine nc zl (nc zu (nc ze ?_));refine ⟨kB,a7 ⟨rfl,rfl,?_,rfl,rfl,trivial⟩⟩;show some (AV.own (.lst _) _)=some (AV.own (.lst _) _);rw [a1J,if_pos (hgI.trans hg),map_append];rfl
    ·have hg:a9Z c x=false:=hg;refine aK ?_;refine aR ?_;refine nc zl (nc zu (nc ze ?_));refine ⟨kB,a7 ⟨rfl,rfl,?_,rfl,rfl,trivial⟩⟩;show some (AV.own (.lst _) _)=some (AV.own (.lst _) _);rw [a1J,if_neg (by rw [hgI,hg];decide),append_nil]
   ·have kB:k=c.length:=by
     have:¬ k<c.length:=by simpa using kA
     omega
    subst kB;refine aE ?_;refine aS (aR ?_);refine nc zl (nc ze ?_);exact aT (And.intro (.inr rfl) rfl)
  ·
   have hMx:M=wtL x:=by rw [hM,h1]
   have hMp:M>0:=by rw [hMx];exact a7N x
   have g0:decide (M>0)=true:=decide_eq_true hMp;have g1:decide (M=0)=false:=decide_eq_false (by omega);have kC:s9 c=[(p:Int)]:=by unfold s9;rw [h1,if_pos (by simp)]
   rw [kC]
   let st2:Nat->AS:=fun k=>[(0,.val (.lst (c.map Lt.cv))),(3,.val (.i M)),(6,.val (.i k))]
   refine aB (l7 p (fun _=>True) st2 (a7 ⟨rfl,rfl,rfl,trivial⟩) trivial ?_);intro k hk _;have kB:k<c.length:=by omega
   have g2:decide ((k:Int)<((c.map Lt.cv).length:Int))=true:=decide_eq_true (by rw [length_map];omega);obtain ⟨y,hy⟩:∃ y,c[k]?=some y:=⟨c[k],getElem?_eq_getElem kB⟩
   have gO:=Lt.map_at hy;have tE:=hc y (mem_of_getElem? hy);refine aS (aS (aR ?_));refine nc zl (nc zl (nc zp (nc zi ?_)));refine aC rfl (fun _=>?_) (fun h=>by have h:decide ((k:Int)<((c.map Lt.cv).length:Int))=false:=h;rw [g2] at h;cases h);refine aK ?_;refine aS (aB (aS ?_));have oS:y.neg=true->wtL y=M->p<=k:=fun nE hyw=>by
    rcases Nat.lt_or_ge k p with kA | hge
    ·have:=h3 k y kA hy nE;omega
    ·exact hge
   cases nE:y.neg with
   | false =>
    have bC:k<p:=by
     rcases Nat.lt_or_ge k p with kA | hge
     ·exact kA
     ·have:k=p:=by omega
      subst this;rw [hx] at hy;cases hy;rw [uM] at nE;cases nE
    refine aS (aR ?_);refine nc zl (nc zO (nc zl (nc (zl (p:=gb)) (nc (zl (p:=gb)) (nc (zq (j:=k) (r:=gb) (H:=gO) (hz:=kD)) (nc (zN (r:=gb)) (nc (zr (r:=gb)) (nc zJ (nc zl (nc zH (nc zH (nc zH (nc zH (nc zH (nc zH (nc zH (nc zI ?_)))))))))))))))));refine aC rfl (fun h=>by cases h) (fun _=>?_);refine aK ?_;refine aS (aR ?_);refine nc zl (nc zt (nc zl (nc zH (nc zH (nc zH (nc zI ?_))))));refine aC rfl (fun h=>by cases h) (fun _=>?_);refine aK ?_;refine aR ?_;refine nc zl (nc zu (nc ze ?_));exact ⟨bC,trivial,a7 ⟨rfl,rfl,rfl,trivial⟩⟩
   | true =>
    refine aS (aR ?_);refine nc zl (nc zO (nc zl (nc (zl (p:=gb)) (nc (zl (p:=gb)) (nc (zq (j:=k) (r:=gb) (H:=gO) (hz:=kD)) (nc (zN (r:=gb)) (nc (zr (r:=gb)) (nc zJ (nc zl (nc (zl (p:=gb)) (nc (zl (p:=gb)) (nc (zq (j:=k) (r:=gb) (H:=gO) (hz:=kD)) (nc (zr (r:=gb)) (nc (zw (p:=gb) (z:=a2l w y tE)) (nc (zl (p:=gb)) (nc (zt (r:=gb)) (nc zJ ?_)))))))))))))))));refine aC rfl (fun hg=>?_) (fun hg=>?_)
    ·have hg:decide (wtL y=M)=true:=hg;have bC:k=p:=by have:=oS nE (of_decide_eq_true hg);omega
     subst bC;refine aS (aR ?_);refine nc zl (nc zC (nc ze ?_));exact aT (And.intro (.inr rfl) rfl)
    ·have hg:decide (wtL y=M)=false:=hg;have bC:k<p:=by
      rcases Nat.lt_or_ge k p with kA | hge
      ·exact kA
      ·have:k=p:=by omega
       subst this;rw [hx] at hy;cases hy;exact absurd hMx.symm (of_decide_eq_false hg)
     refine aK ?_;refine aS (aR ?_);refine nc zl (nc zt (nc zl (nc zH (nc zH (nc zH (nc zI ?_))))));refine aC rfl (fun h=>by cases h) (fun _=>?_);refine aK ?_;refine aR ?_;refine nc zl (nc zu (nc ze ?_));exact ⟨bC,trivial,a7 ⟨rfl,rfl,rfl,trivial⟩⟩
theorem b1I {x:List Int} {k:Nat} {z:Int} (h:x[k]?=some z):(x.map CV.i)[k]?=some (.i z):=by rw [getElem?_map,h];rfl
def al1:Lt:=⟨false,⟨1,[]⟩,⟨0,[]⟩⟩
theorem a3F (c:List Lt):(s9 c).length<=c.length+1:=by
 unfold s9;split
 ·simp
 ·have:=a0f c c.length;omega
theorem b7O (c:List Lt):∀ k:Nat,-1<=(hvK c k).1/\(hvK c k).1<k
 | 0=>⟨by show (-1:Int) <= -1;omega,by show (-1:Int)<_;omega⟩
 | k+1=>by
  obtain ⟨h1,h2⟩:=b7O c k;unfold hvK;split
  ·omega
  ·split
   ·simp only;omega
   ·omega
theorem a8e {c:List Lt} {z:Int} (h:z∈s9 c):0<=z/\z<c.length:=by
 unfold s9 at h;split at h
 ·rw [List.mem_singleton] at h;have:=b7O c c.length;omega
 ·unfold gsK at h;obtain ⟨i,hi,rfl⟩:=List.mem_map.1 h;have:=mem_range.1 (mem_filter.1 hi).1;omega
theorem a9U {c:List Lt} (h:∀ l∈c,l.ten):∀ l∈c,l.fit:=fun l hl=>⟨⟨(h l hl).1.1.1,(h l hl).1.1.2,by have:=(h l hl).1.2;omega⟩,(h l hl).2.1.1,(h l hl).2.1.2,by have:=(h l hl).2.2;omega⟩
noncomputable def a0E (c:List Lt) (L:List Int) (k:Nat):List (List Lt):=(L.take k).filterMap fun z=>b0j c z.toNat
theorem b7b (c:List Lt) (L:List Int) (k:Nat):(a0E c L k).length<=L.length:=by
 unfold a0E;exact Nat.le_trans (List.length_filterMap_le _ _) (by rw [length_take];omega)
theorem b3t {c:List Lt} {L:List Int} {k:Nat} {n:Nat} (h:L[k]?=some (n:Int)):a0E c L (k+1)=a0E c L k++(b0j c n).toList:=by
 unfold a0E;rw [take_add_one,h,List.filterMap_append];congr 1
theorem a0d {c:List Lt} (h:∀ l∈c,l.ten) (n:Nat):∀ l∈y7 c n,l.ten:=fun l hl=>h l (W9 hl)
set_option maxHeartbeats 4000000 in
theorem b0h (W:World) (c:List Lt) (hl:c.length<=100) (hc:∀ l∈c,l.ten):AFun Tryz.prog W 12 [.lst (c.map Lt.cv)] (.val (.lst ((S2 c).map V5))):=by
 have kD:=Lt.size_all c;have fX:=fun w=>a5P w c (by omega) (a9U hc);have oW:∀ z∈s9 c,0<=z/\z<c.length:=fun z hz=>a8e hz;have xQ:(s9 c).length<=101:=by have:=a3F c;omega
 have eG:S2 c=a0E c (s9 c) (s9 c).length:=by unfold S2 a0E;rw [take_length]
 rw [eG];obtain ⟨L,hL⟩:∃ L,L=s9 c:=⟨_,rfl⟩
 rw [<-hL] at fX oW xQ |-;have oX:=b8 L;refine a9 (rs:=[.lst ((a0E c L L.length).map V5)]) Tryz.func12 Tryz.ntmps12 rfl rfl rfl rfl ?_;intro w U hW;refine aS (aR ?_);refine nc ze ?_;refine aS (aR ?_);refine nc ze ?_;refine aS (aS (aR ?_));refine nc zl (nc (zw (z:=fX w)) (nc zp (nc zl ?_)))
 let st:Nat->AS:=fun k=>[(0,.val (.lst (c.map Lt.cv))),(3,.own (.lst ((a0E c L k).map V5)) 200043),(200043,.tok 26 1),(9,.val (.lst (L.map CV.i))),(10,.val (.i (L.map CV.i).length)),(11,.val (.i k))]
 refine aB (b9 L.length st ((v9 3 200043 26 1 rfl rfl rfl rfl rfl rfl rfl).trans (a7 ⟨rfl,rfl,rfl,rfl,rfl,rfl,trivial⟩)) ?_);intro k hk;refine aS (aR ?_);refine nc zi ?_;refine aS (aC rfl (fun kA=>?_) (fun kA=>?_))
 ·have kB:k<L.length:=by simpa using kA
  obtain ⟨z,hz⟩:∃ z,L[k]?=some z:=⟨L[k],getElem?_eq_getElem kB⟩
  obtain ⟨hz0,fZ⟩:=oW z (mem_of_getElem? hz);obtain ⟨n,rfl⟩:∃ n:Nat,z=(n:Int):=⟨z.toNat,by omega⟩
  have iQ:=b1I hz;have hn:n<c.length:=by omega
  obtain ⟨x,hx⟩:∃ x,c[n]?=some x:=⟨c[n],getElem?_eq_getElem hn⟩
  have kI:=Lt.map_at hx;have dH:=hc x (mem_of_getElem? hx);have hS:=b3t (c:=c) hz;have lV:b0j c n=if x.neg=true/\(mgT x.a x.b).2=true then some ((y7 c n).map (Lt.rep (mgS x.a x.b))) else none:=by unfold b0j;rw [hx]
  have hlen3:=b7b c L k;have wN:((a0E c L k).map V5).length<=101:=by rw [length_map];omega
  have xI:=D8 (a0E c L k);refine aK ?_;refine aS (aB (aS (aR ?_)));refine nc (zq (j:=k) (H:=iQ) (hz:=oX)) (nc zr (nc ze ?_));refine aS (aS (aR ?_));refine nc zl (nc zl (nc (zq (j:=n) (H:=kI) (hz:=kD)) (nc zN (nc zr (nc zF ?_)))));refine aC rfl (fun hb=>?_) (fun hb=>?_)
  ·have hb:(!x.neg)=true:=hb;have iO:x.neg=false:=by simpa using hb
   have e:a0E c L (k+1)=a0E c L k:=by rw [hS,lV,if_neg (by rw [iO];rintro ⟨h,_⟩;cases h)];simp
   refine aE ?_;refine aR ?_;refine nc zu (nc zl ?_);refine ⟨kB,a7 ⟨rfl,?_,rfl,rfl,rfl,rfl,trivial⟩⟩;rw [e];rfl
  ·have hb:(!x.neg)=false:=hb;have iO:x.neg=true:=by simpa using hb
   refine aK ?_;refine aS (aD (by kernel_rfl) (by kernel_rfl) ?_);refine nc zl (nc zl (nc (zq (j:=n) (H:=kI) (hz:=kD)) (nc zN (nc zr (nc zl (nc zl (nc (zq (j:=n) (H:=kI) (hz:=kD)) (nc zN (nc zr (nc (zw (z:=a4m w dH.1 dH.2)) (nc zl (nc zx (nc zx (nc ze (nc ze ?_)))))))))))))));refine ⟨by kernel_rfl,?_⟩;obtain ⟨ok,kG⟩:∃ ok,ok=(mgT x.a x.b).2:=⟨_,rfl⟩
   rw [<-kG] at lV;refine aS (aR ?_);refine nc zl ?_;refine AWp.wk (a7 (s':=[(0,.val (.lst (c.map Lt.cv))),(3,.own (.lst ((a0E c L k).map V5)) 200043),(200043,.tok 26 1),(9,.val (.lst (L.map CV.i))),(10,.val (.i (L.map CV.i).length)),(11,.val (.i k)),(5,.val (.i (n:Int))),(6,.val (.lst ((mgT x.a x.b).1.map Bd.cv))),(35,.val (.b ok))]) ⟨rfl,rfl,rfl,rfl,rfl,rfl,rfl,rfl,by rw [kG];rfl,trivial⟩) ?_;cases ok with
   | false =>
    have e:a0E c L (k+1)=a0E c L k:=by rw [hS,lV,if_neg (by rintro ⟨_,h⟩;cases h)];simp
    refine aC rfl (fun h=>by cases h) (fun _=>aK ?_);refine aR ?_;refine nc zu (nc zl ?_);refine ⟨kB,a7 ⟨rfl,?_,rfl,rfl,rfl,rfl,trivial⟩⟩;rw [e];rfl
   | true =>
    have e:a0E c L (k+1)=a0E c L k++[(y7 c n).map (Lt.rep (mgS x.a x.b))]:=by rw [hS,lV,if_pos ⟨iO,rfl⟩];rfl
    have lU:=I7 hn;refine aC rfl (fun _=>?_) (fun h=>by cases h);refine aR ?_;refine nc zl (nc zl (nc zl (nc zl (nc (zw (z:=V8 w c n hn (by omega))) (nc (zw (z:=a0G w dH.1 dH.2 (y7 c n) (by omega) (a1P (a0d hc n)))) (nc zC (nc zD (nc ze ?_))))))));refine aR ?_;refine nc zu (nc zl ?_);refine ⟨kB,(a7 (s':=[(0,.val (.lst (c.map Lt.cv))),(3,.own (.lst ((a0E c L (k+1)).map V5)) 300043),(300043,.tok 26 1),(9,.val (.lst (L.map CV.i))),(10,.val (.i (L.map CV.i).length)),(11,.val (.i ((k+1:Nat):Int)))]) ⟨rfl,?_,rfl,rfl,rfl,rfl,trivial⟩).trans (o8 300043 200043 rfl rfl rfl rfl)⟩;show some (AV.own (.lst _) _)=some (AV.own (.lst _) _);rw [e,map_append (f:=V5)];rfl
 ·have kB:k=L.length:=by
   have:¬ k<L.length:=by simpa using kA
   omega
  subst kB;refine aE ?_;refine aS (aR ?_);refine nc zl (nc ze ?_);exact aT (And.intro (.inr rfl) rfl)
noncomputable def a0Q (c:List Lt) (L:List Int) (k:Nat):List (List Lt):=(L.take k).flatMap fun z=>a6r c z.toNat
theorem b3R {c:List Lt} {L:List Int} {k:Nat} {n:Nat} (h:L[k]?=some (n:Int)):a0Q c L (k+1)=a0Q c L k++a6r c n:=by
 unfold a0Q;rw [take_add_one,h,flatMap_append];simp
noncomputable def a3g (c:List Lt) (l:Lt) (n m:Nat):List (List Lt):=(List.range m).flatMap fun j=>a3H c l n j
theorem a6H (c:List Lt) (l:Lt) (n m:Nat):a3g c l n (m+1)=a3g c l n m++a3H c l n m:=by
 unfold a3g;rw [range_succ,flatMap_append];simp
theorem b5Y (c:List Lt) (l:Lt) (n m:Nat):(a3H c l n m).length<=4:=by
 unfold a3H;split
 ·split
  ·exact a1h _ _ _
  ·exact Nat.zero_le _
 ·exact Nat.zero_le _
theorem a4T (c:List Lt) (l:Lt) (n:Nat):∀ m,(a3g c l n m).length<=4*m
 | 0=>Nat.le_refl _
 | m+1=>by
  have h1:=a4T c l n m;have h2:=b5Y c l n m;rw [a6H,length_append];omega
theorem b5d (c:List Lt) (n:Nat):(a6r c n).length<=4*c.length:=by
 unfold a6r;split
 ·split
  ·exact Nat.zero_le _
  ·exact a4T c _ n c.length
 ·exact Nat.zero_le _
theorem a4J (c:List Lt):∀ (L:List Int) (k:Nat),(a0Q c L k).length<=4*c.length*k
 | L,0=>by simp [a0Q]
 | [],k+1=>by simp [a0Q]
 | z::L,k+1=>by
  have h1:=a4J c L k;have h2:=b5d c z.toNat;have e:a0Q c (z::L) (k+1)=a6r c z.toNat++a0Q c L k:=by unfold a0Q;rw [List.take_succ_cons,flatMap_cons]
  rw [e,length_append,Nat.mul_add,Nat.mul_one];omega
set_option maxHeartbeats 8000000 in
theorem a8u (W:World) (c:List Lt) (hl:c.length<=100) (hc:∀ l∈c,l.ten):AFun Tryz.prog W 14 [.lst (c.map Lt.cv)] (.val (.lst ((a4u c).map V5))):=by
 have kD:=Lt.size_all c;have fX:=fun w=>a5P w c (by omega) (a9U hc);have oW:∀ z∈s9 c,0<=z/\z<c.length:=fun z hz=>a8e hz;have xQ:(s9 c).length<=101:=by have:=a3F c;omega
 have eG:a4u c=a0Q c (s9 c) (s9 c).length:=by unfold a4u a0Q;rw [take_length]
 rw [eG];obtain ⟨L,hL⟩:∃ L,L=s9 c:=⟨_,rfl⟩
 rw [<-hL] at fX oW xQ |-;have oX:=b8 L;have qN:(c.map Lt.cv).length=c.length:=length_map ..;refine a9 (rs:=[.lst ((a0Q c L L.length).map V5)]) Tryz.func14 Tryz.ntmps14 rfl rfl rfl rfl ?_;intro w U hW;refine aS (aR ?_);refine nc ze ?_;refine aS (aR ?_);refine nc ze ?_;refine aS (aS (aR ?_));refine nc zl (nc (zw (z:=fX w)) (nc zp (nc zl ?_)))
 let st:Nat->AS:=fun k=>[(0,.val (.lst (c.map Lt.cv))),(3,.own (.lst ((a0Q c L k).map V5)) 200047),(200047,.tok 26 1),(10,.val (.lst (L.map CV.i))),(11,.val (.i (L.map CV.i).length)),(12,.val (.i k))]
 refine aB (b9 L.length st ((v9 3 200047 26 1 rfl rfl rfl rfl rfl rfl rfl).trans (a7 ⟨rfl,rfl,rfl,rfl,rfl,rfl,trivial⟩)) ?_);intro k hk;refine aS (aR ?_);refine nc zi ?_;refine aS (aC rfl (fun kA=>?_) (fun kA=>?_))
 ·have kB:k<L.length:=by simpa using kA
  obtain ⟨z,hz⟩:∃ z,L[k]?=some z:=⟨L[k],getElem?_eq_getElem kB⟩
  obtain ⟨hz0,fZ⟩:=oW z (mem_of_getElem? hz);obtain ⟨n,rfl⟩:∃ n:Nat,z=(n:Int):=⟨z.toNat,by omega⟩
  have iQ:=b1I hz;have hn:n<c.length:=by omega
  obtain ⟨x,hx⟩:∃ x,c[n]?=some x:=⟨c[n],getElem?_eq_getElem hn⟩
  have kI:=Lt.map_at hx;have dH:=hc x (mem_of_getElem? hx);have hS:=b3R (c:=c) hz;have vS:a6r c n=if x.neg=true then [] else a3g c x n c.length:=by unfold a6r a3g;rw [hx]
  obtain ⟨A,hA⟩:∃ A,A=a0Q c L k:=⟨_,rfl⟩
  have hAl:A.length<=40400:=by have h1:=a4J c L k;have h2:4*c.length*k<=400*101:=Nat.mul_le_mul (by omega) (by omega);rw [hA];omega
  rw [<-hA] at hS;refine aK ?_;refine aS (aB (aS (aR ?_)));refine nc (zq (j:=k) (H:=iQ) (hz:=oX)) (nc zr (nc ze ?_));refine aS (aS (aR ?_));refine nc zl (nc zl (nc (zq (j:=n) (H:=kI) (hz:=kD)) (nc zN (nc zr ?_))));refine AWp.wk (a7 (s':=[(0,.val (.lst (c.map Lt.cv))),(3,.own (.lst (A.map V5)) 200047),(200047,.tok 26 1),(10,.val (.lst (L.map CV.i))),(11,.val (.i (L.map CV.i).length)),(12,.val (.i k)),(5,.val (.i (n:Int))),(20,.val (.b x.neg))]) ⟨rfl,by rw [hA];rfl,rfl,rfl,rfl,rfl,rfl,rfl,trivial⟩) ?_;refine aC rfl (fun hb=>?_) (fun hb=>?_)
  ·have hb:x.neg=true:=hb;have e:a0Q c L (k+1)=A:=by rw [hS,vS,if_pos hb,append_nil]
   refine aE ?_;refine aR ?_;refine nc zu (nc zl ?_);refine ⟨kB,a7 ⟨rfl,?_,rfl,rfl,rfl,rfl,trivial⟩⟩;rw [e];rfl
  ·have hb:x.neg=false:=hb;have e:a0Q c L (k+1)=A++a3g c x n c.length:=by rw [hS,vS,if_neg (by rw [hb];decide)]
   have lU:=I7 hn;refine aK ?_;refine aS (aR ?_);refine nc zl (nc zl (nc (zw (z:=V8 w c n hn (by omega))) (nc ze ?_)));refine aS (aR ?_);refine nc zl (nc zp (nc zl ?_))
   let st2:Nat->AS:=fun m=>[(0,.val (.lst (c.map Lt.cv))),(3,.own (.lst ((A++a3g c x n m).map V5)) 200047),(200047,.tok 26 1),(10,.val (.lst (L.map CV.i))),(11,.val (.i (L.map CV.i).length)),(12,.val (.i k)),(5,.val (.i (n:Int))),(6,.val (.lst ((y7 c n).map Lt.cv))),(24,.val (.lst (c.map Lt.cv))),(25,.val (.i (c.map Lt.cv).length)),(26,.val (.i m))]
   refine aB (b9 c.length st2 (a7 ⟨rfl,by show some (AV.own (.lst _) _)=some (AV.own (.lst _) _);rw [show a3g c x n 0=[] from rfl,append_nil],rfl,rfl,rfl,rfl,rfl,rfl,rfl,rfl,rfl,trivial⟩) ?_);intro m hm;refine aS (aR ?_);refine nc zi ?_;refine aS (aC rfl (fun gE=>?_) (fun gE=>?_))
   ·have hml:m<c.length:=by simpa using gE
    obtain ⟨y,hy⟩:∃ y,c[m]?=some y:=⟨c[m],getElem?_eq_getElem hml⟩
    have gO:=Lt.map_at hy;have qO:=hc y (mem_of_getElem? hy);have hMs:=a6H c x n m;have dS:a3H c x n m=if m≠n/\y.neg=false then a1U (M2 x) y (y7 c n) else []:=by unfold a3H;rw [hy]
    obtain ⟨B,hB⟩:∃ B,B=A++a3g c x n m:=⟨_,rfl⟩
    have hBl:B.length<=50000:=by have:=a4T c x n m;rw [hB,length_append];omega
    have xR:A++a3g c x n (m+1)=B++a3H c x n m:=by rw [hMs,hB,List.append_assoc]
    have hBm:(B.map V5).length<=50000:=by rw [length_map];exact hBl
    have xS:=D8 B;have hszO:=D8 (a1U (M2 x) y (y7 c n));have hOl:((a1U (M2 x) y (y7 c n)).map V5).length<=4:=by rw [length_map];exact a1h _ _ _
    refine aK ?_;refine aS (aB (aS (aR ?_)));refine nc zl (nc (zq (j:=m) (H:=gO) (hz:=kD)) (nc zr (nc (zbM b4Z) (nc ze (nc zo ?_)))));refine AWp.wk (a7 (s':=[(0,.val (.lst (c.map Lt.cv))),(3,.own (.lst (B.map V5)) 200047),(200047,.tok 26 1),(10,.val (.lst (L.map CV.i))),(11,.val (.i (L.map CV.i).length)),(12,.val (.i k)),(5,.val (.i (n:Int))),(6,.val (.lst ((y7 c n).map Lt.cv))),(24,.val (.lst (c.map Lt.cv))),(25,.val (.i (c.map Lt.cv).length)),(26,.val (.i m)),(7,.val (.i m)),(8,.bp 8 0 []),(100008,.bx y.cw)]) ⟨rfl,by rw [hB];rfl,rfl,rfl,rfl,rfl,rfl,rfl,rfl,rfl,rfl,rfl,rfl,rfl,trivial⟩) ?_
    have gB:a3H c x n m=[]->∀ s:AS,SubL s [(0,.val (.lst (c.map Lt.cv))),(3,.own (.lst (B.map V5)) 200047),(200047,.tok 26 1),(10,.val (.lst (L.map CV.i))),(11,.val (.i (L.map CV.i).length)),(12,.val (.i k)),(5,.val (.i (n:Int))),(6,.val (.lst ((y7 c n).map Lt.cv))),(24,.val (.lst (c.map Lt.cv))),(25,.val (.i (c.map Lt.cv).length)),(26,.val (.i ((m+1:Nat):Int)))]->SubL s (st2 (m+1)):=fun h s hs=>by
     have e2:A++a3g c x n (m+1)=B:=by rw [xR,h,append_nil]
     show SubL s [(0,.val (.lst (c.map Lt.cv))),(3,.own (.lst ((A++a3g c x n (m+1)).map V5)) 200047),(200047,.tok 26 1),(10,.val (.lst (L.map CV.i))),(11,.val (.i (L.map CV.i).length)),(12,.val (.i k)),(5,.val (.i (n:Int))),(6,.val (.lst ((y7 c n).map Lt.cv))),(24,.val (.lst (c.map Lt.cv))),(25,.val (.i (c.map Lt.cv).length)),(26,.val (.i ((m+1:Nat):Int)))];rw [e2];exact hs
    by_cases mO:m=n
    ·have g:decide ((m:Int)=(n:Int))=true:=decide_eq_true (by omega);have g2:decide ((m:Int)≠(n:Int))=false:=decide_eq_false (by omega);refine aS (aR ?_);refine nc zl (nc zl (nc zE (nc zl (nc zH (nc zH (nc zH (nc zI ?_)))))));refine aC rfl (fun h=>by cases h) (fun _=>aK ?_);refine aR ?_;refine nc zu (nc zl ?_);exact ⟨hml,a7 (gB (by rw [dS,if_neg (fun h=>h.1 mO)]) _ ⟨rfl,rfl,rfl,rfl,rfl,rfl,rfl,rfl,rfl,rfl,rfl,trivial⟩)⟩
    ·have g:decide ((m:Int)=(n:Int))=false:=decide_eq_false (by omega);have g2:decide ((m:Int)≠(n:Int))=true:=decide_eq_true (by omega);refine aS (aR ?_);refine nc zl (nc zl (nc zE (nc zl (nc (zg (r:=gb)) (nc (zh (r:=gb)) (nc (zF (r:=gb)) (nc zJ ?_)))))));refine aC rfl (fun hq=>?_) (fun hq=>?_)
     ·have hq:(!y.neg)=true:=hq;have nE:y.neg=false:=by simpa using hq
      have e2:A++a3g c x n (m+1)=B++a1U (M2 x) y (y7 c n):=by rw [xR,dS,if_pos ⟨mO,nE⟩]
      refine aD (by kernel_rfl) (by kernel_rfl) ?_;refine nc zl (nc zl (nc zl (nc (zq (j:=n) (H:=kI) (hz:=kD)) (nc zr (nc zy (nc zl (nc (zw (z:=a6Z w x y (y7 c n) dH qO (a0d hc n) (by omega))) (nc zD (nc ze ?_)))))))));refine ⟨by kernel_rfl,?_⟩;refine aR ?_;refine nc zu (nc zl ?_);refine ⟨hml,(a7 (s':=[(0,.val (.lst (c.map Lt.cv))),(3,.own (.lst ((A++a3g c x n (m+1)).map V5)) 300047),(300047,.tok 26 1),(10,.val (.lst (L.map CV.i))),(11,.val (.i (L.map CV.i).length)),(12,.val (.i k)),(5,.val (.i (n:Int))),(6,.val (.lst ((y7 c n).map Lt.cv))),(24,.val (.lst (c.map Lt.cv))),(25,.val (.i (c.map Lt.cv).length)),(26,.val (.i ((m+1:Nat):Int)))]) ⟨rfl,?_,rfl,rfl,rfl,rfl,rfl,rfl,rfl,rfl,rfl,trivial⟩).trans (o8 300047 200047 rfl rfl rfl rfl)⟩;show some (AV.own (.lst _) _)=some (AV.own (.lst _) _);rw [e2,map_append (f:=V5)]
     ·have hq:(!y.neg)=false:=hq;have nE:y.neg=true:=by simpa using hq
      refine aK ?_;refine aR ?_;refine nc zu (nc zl ?_);exact ⟨hml,a7 (gB (by rw [dS,if_neg (fun h=>by rw [nE] at h;cases h.2)]) _ ⟨rfl,rfl,rfl,rfl,rfl,rfl,rfl,rfl,rfl,rfl,rfl,trivial⟩)⟩
   ·have hml:m=c.length:=by
     have:¬ m<c.length:=by simpa using gE
     omega
    subst hml;refine aE ?_;refine aR ?_;refine nc zu (nc zl ?_);refine ⟨kB,a7 ⟨rfl,?_,rfl,rfl,rfl,rfl,trivial⟩⟩;rw [e];rfl
 ·have kB:k=L.length:=by
   have:¬ k<L.length:=by simpa using kA
   omega
  subst kB;refine aE ?_;refine aS (aR ?_);refine nc zl (nc ze ?_);exact aT (And.intro (.inr rfl) rfl)
def b8V (a b:Tm) (d:List Bd):Prop:=(∀ W,AFun Tryz.prog W 30 [.lst [a.cw],.lst [b.cw]] (.tup [.lst (d.map Bd.cv),.b (mgT a b).2]))/\d.length<=1000000/\(∀ x∈d,x.t.rng/\x.t.ok)/\d.map Bd.strip=(mgT a b).1.map Bd.strip
noncomputable def dT (a b:Tm):List Bd:=open Classical in if h:∃ d,b8V a b d then Classical.choose h else []
theorem b1e {a b:Tm} (ha:a.ten) (hb:b.ten):b8V a b (dT a b):=by
 have he:∃ d,b8V a b d:=by
  obtain ⟨n,r,e,hC,hz,hT⟩:=b2U (l:=[(a,b)]) (by simp) (a4M ha hb);have hm:=c0x hT;refine ⟨(r.map fun s=>N4 s s.length).getD [],fun W=>?_,?_,?_,?_⟩
  ·have h:=b0O W n [a] [b] r rfl (by simp) e hC (fun s hs=>⟨(hz s hs).1,fun x hx=>((hz s hs).2 x hx).1⟩);simp only [List.map_cons,List.map_nil,Tm.cv_eq] at h;rw [hm];exact h
  ·cases r with
   | none=>exact Nat.zero_le _
   | some s =>
    have h1:=a4K s s.length;have h2:=(hz s rfl).1;show (N4 s s.length).length<=_;omega
  ·cases r with
   | none=>intro x hx;cases hx
   | some s =>
    intro x hx;exact (hz s rfl).2 x (X9 s _ x hx)
  ·rw [hm];cases r with
   | none=>rfl
   | some s=>exact (b5K s).symm
 unfold dT;rw [dif_pos he];exact Classical.choose_spec he
theorem a3u (s:List Bd) (v:Int):c9 (s.map Bd.strip) v=(c9 s v).strip:=by
 unfold c9;rw [a6f];cases b6 s v with
 | none=>exact (w9 v).symm
 | some t=>rfl
theorem b5z {σ τ:Int->Tm} (h:∀ v,(σ v).strip=(τ v).strip) (t:Tm):b7 σ t=b7 τ t:=by
 induction t using Tm.ind with
 | h f l ih =>
  by_cases hf:f<0
  ·rw [j5 (show (⟨f,l⟩:Tm).f<0 from hf),j5 (show (⟨f,l⟩:Tm).f<0 from hf),h]
  ·rw [i8 (show ¬ (⟨f,l⟩:Tm).f<0 from hf),i8 (show ¬ (⟨f,l⟩:Tm).f<0 from hf)];congr 1;exact List.map_congr_left ih
theorem a7s {a b:Tm} (ha:a.ten) (hb:b.ten) (t:Tm):b7 (c9 (dT a b)) t=b7 (mgS a b) t:=by
 have h:=(b1e ha hb).2.2.2;refine b5z (fun v=>?_) t;have h1:=a3u (dT a b) v;have h2:=a3u (mgT a b).1 v;rw [h] at h1;exact h1.symm.trans h2
theorem b9q {a b:Tm} (ha:a.ten) (hb:b.ten) (l:Lt):(a1c (dT a b) l).strip=(Lt.rep (mgS a b) l).strip:=by
 rw [b0y];unfold Lt.rep;rw [a7s ha hb,a7s ha hb]
theorem b7o {a b:Tm} (ha:a.ten) (hb:b.ten) (c:List Lt):(c.map (a1c (dT a b))).map Lt.strip=(c.map (Lt.rep (mgS a b))).map Lt.strip:=by
 rw [List.map_map,List.map_map];exact List.map_congr_left fun l _=>b9q ha hb l
theorem a0n {a b:Tm} (ha:a.ten) (hb:b.ten) {t:Tm} (ht:t.ten):(j9 (dT a b) t).rng/\(j9 (dT a b) t).ok/\(j9 (dT a b) t).size<=29550/\(j9 (dT a b) t).strip=(b7 (mgS a b) t).strip:=by
 obtain ⟨h1,h2,h3,h4⟩:=b1e ha hb;have hs:(j9 (dT a b) t).strip=(b7 (mgS a b) t).strip:=by rw [a3U,a7s ha hb]
 refine ⟨Q3 ht.1.1 fun x hx=>(h3 x hx).1,a0l ht.1.2 fun x hx=>(h3 x hx).2,?_,hs⟩;rw [<-Tm.strip_size,hs,Tm.strip_size];exact (a8d ha hb ht).2.2
theorem c0y {a b:Tm} (ha:a.ten) (hb:b.ten) {t u:Tm} (ht:t.ten) (hu:u.ten):kb (j9 (dT a b) t) (j9 (dT a b) u)=kb (b7 (mgS a b) t) (b7 (mgS a b) u):=by
 rw [<-a1y,(a0n ha hb ht).2.2.2,(a0n ha hb hu).2.2.2,a1y]
def P6 (c:List Lt) (i:Int) (k:Nat):List Lt:=(List.range k).filterMap fun j:Nat=>if (j:Int)=i then none else c[j]?
theorem a2f {c:List Lt} {i:Int} {k:Nat} {x:Lt} (h:c[k]?=some x):P6 c i (k+1)=P6 c i k++(if (k:Int)=i then [] else [x]):=by
 unfold P6;rw [range_succ,List.filterMap_append];congr 1;rw [List.filterMap_cons,h];split<;>rename_i h2<;>split at h2<;>simp_all
theorem a9I (c:List Lt) (i:Int) (k:Nat):(P6 c i k).length<=k:=by
 unfold P6;exact Nat.le_trans (List.length_filterMap_le _ _) (by rw [List.length_range];omega)
theorem b2V (c:List Lt) (i:Int):∀ k,k<=c.length->P6 c i k=if 0<=i/\i<k then c.take i.toNat++(c.take k).drop (i.toNat+1) else c.take k
 | 0,_=>by
  rw [if_neg (by omega)];rfl
 | k+1,hk=>by
  obtain ⟨x,hx⟩:∃ x,c[k]?=some x:=⟨c[k],getElem?_eq_getElem (by omega)⟩
  rw [a2f hx,b2V c i k (by omega)];have ht:c.take (k+1)=c.take k++[x]:=by rw [take_add_one,hx];rfl
  have hl:(c.take k).length=k:=by rw [length_take];omega
  by_cases h1:(k:Int)=i
  ·rw [if_neg (by omega),if_pos h1,if_pos (by omega),show i.toNat=k by omega,ht,append_nil,List.drop_of_length_le (by rw [length_append,hl];simp),append_nil]
  ·rw [if_neg h1];by_cases h2:0<=i/\i<k
   ·rw [if_pos h2,if_pos (by omega),ht,List.drop_append_of_le_length (by rw [hl];omega),List.append_assoc]
   ·rw [if_neg h2,if_neg (by omega),ht]
theorem b3e (c:List Lt) (i:Int):P6 c i c.length=if 0<=i/\i<c.length then y7 c i.toNat else c:=by
 rw [b2V c i c.length (Nat.le_refl _),take_length];rfl
noncomputable def a5J (c:List Lt) (i:Nat):Option (List Lt):=match c[i]? with
 | some x=>if x.neg=true/\(mgT x.a x.b).2=true/\(i:Int)∈s9 c then some ((y7 c i).map (a1c (dT x.a x.b))) else none
 | none=>none
noncomputable def a2w (c:List Lt) (k:Nat):List (List Lt):=(List.range k).filterMap (a5J c)
def sdT (l:Lt) (n:Nat):Tm:=if n=0 then l.a else l.b
theorem Q6 {l:Lt} (h:l.ten) (n:Nat):(sdT l n).ten:=by
 unfold sdT;split
 ·exact h.1
 ·exact h.2
noncomputable def N9 (c:List Lt) (i j p q:Nat):Option (List Lt):=match c[i]?,c[j]? with
 | some x,some y =>
  if i=j\/x.neg=true\/y.neg=true\/(i:Int)∉s9 c then none
  else if (mgT (sdT x p) (sdT y q)).2=true/\a2V (b7 (mgS (sdT x p) (sdT y q)) (sdT x p)) (b7 (mgS (sdT x p) (sdT y q)) (sdT x (1-p)))=true then some ((y7 c i++[(⟨true,sdT x (1-p),sdT y (1-q)⟩:Lt)]).map (a1c (dT (sdT x p) (sdT y q))))
  else none
 | _,_=>none
noncomputable def a2T (c:List Lt) (N:Nat):Option (List Lt):=N9 c (N / 4 / c.length) (N / 4 % c.length) (N / 2 % 2) (N % 2)
noncomputable def a2E (c:List Lt) (k:Nat):List (List Lt):=(List.range k).filterMap (a2T c)
def stC (L:List (List Lt)):List (List Lt):=L.map (List.map Lt.strip)
theorem b7F (c:List Lt):∀ k:Nat,-1<=(hvK c k).1/\(hvK c k).1<k
 | 0=>⟨by show (-1:Int) <= -1;omega,by show (-1:Int)<_;omega⟩
 | k+1=>by
  obtain ⟨h1,h2⟩:=b7F c k;unfold hvK;split
  ·omega
  ·split
   ·simp only;omega
   ·omega
theorem a6o {β:Type} (g:Nat->List β) (h:Nat):∀ n,(List.range n).flatMap (fun i=>if i=h then g i else [])=if h<n then g h else []
 | 0=>by rw [if_neg (by omega)];rfl
 | n+1=>by
  rw [range_succ,flatMap_append,a6o g h n];by_cases h1:h<n
  ·rw [if_pos h1,if_pos (by omega)];simp only [flatMap_cons,flatMap_nil,append_nil];rw [if_neg (by omega),append_nil]
  ·rw [if_neg h1];simp only [flatMap_cons,flatMap_nil,append_nil,List.nil_append];by_cases h2:n=h
   ·rw [if_pos h2,if_pos (by omega),h2]
   ·rw [if_neg h2,if_neg (by omega)]
theorem a2B {α β:Type} (P:α->Bool) (g:α->List β):∀ L:List α,(L.filter P).flatMap g=L.flatMap fun i=>if P i=true then g i else []
 | []=>rfl
 | x::L=>by
  rw [flatMap_cons,<-a2B P g L];by_cases h:P x=true
  ·rw [List.filter_cons_of_pos h,flatMap_cons,if_pos h]
  ·rw [List.filter_cons_of_neg h,if_neg h,List.nil_append]
theorem B0 {α β:Type} {f g:α->List β}:∀ {L:List α},(∀ x∈L,f x=g x)->L.flatMap f=L.flatMap g
 | [],_=>rfl
 | x::L,h=>by rw [flatMap_cons,flatMap_cons,h x (by simp),B0 fun y hy=>h y (List.mem_cons_of_mem _ hy)]
theorem a9v {β:Type} (c:List Lt) (g:Nat->List β):((s9 c).flatMap fun z=>g z.toNat)=(List.range c.length).flatMap fun i:Nat=>if (i:Int)∈s9 c then g i else []:=by
 unfold s9;split
 ·rename_i h;obtain ⟨h0,h1⟩:∃ h0:Nat,(hvK c c.length).1=(h0:Int):=⟨(hvK c c.length).1.toNat,by omega⟩
  have kA:=(b7F c c.length).2;rw [h1] at kA |-;have e:(fun i:Nat=>if (i:Int)∈[(h0:Int)] then g i else [])=fun i=>if i=h0 then g i else []:=by
   funext i;by_cases hi:i=h0
   ·rw [if_pos hi,if_pos (by rw [hi];simp)]
   ·rw [if_neg hi,if_neg (by rw [List.mem_singleton];omega)]
  rw [e,a6o,if_pos (by omega)];simp
 ·unfold gsK;rw [List.flatMap_map];have e1:(fun i:Nat=>g (i:Int).toNat)=g:=by funext i;rw [Int.toNat_natCast]
  show List.flatMap (fun i:Nat=>g (i:Int).toNat) _=_;rw [e1,a2B];refine B0 fun i hi=>?_;have hm:((i:Int)∈((List.range c.length).filter fun i:Nat=>a0Z c (i:Int)).map fun i:Nat=>(i:Int))↔a0Z c (i:Int)=true:=by
   rw [List.mem_map];constructor
   ·rintro ⟨j,hj,e⟩;have:j=i:=by omega
    rw [<-this];exact (mem_filter.1 hj).2
   ·intro h;exact ⟨i,mem_filter.2 ⟨hi,h⟩,rfl⟩
  by_cases h:a0Z c (i:Int)=true
  ·rw [if_pos h,if_pos (hm.2 h)]
  ·rw [if_neg h,if_neg (fun h2=>h (hm.1 h2))]
theorem P3 {α β:Type} (f:α->Option β):∀ L:List α,L.filterMap f=L.flatMap fun x=>(f x).toList
 | []=>rfl
 | x::L=>by
  rw [flatMap_cons,<-P3 f L,List.filterMap_cons];cases f x<;>rfl
theorem Q1 {α:Type} (f:α->List (List Lt)) (L:List α):stC (L.flatMap f)=L.flatMap fun x=>stC (f x):=by
 unfold stC;rw [List.map_flatMap]
theorem b9O {c:List Lt} (hc:∀ l∈c,l.ten):stC (S2 c)=stC (a2w c c.length):=by
 unfold S2 a2w;rw [P3,P3,a9v c fun n=>(b0j c n).toList,Q1,Q1];refine B0 fun i hi=>?_;obtain ⟨x,hx⟩:∃ x,c[i]?=some x:=⟨c[i]'(mem_range.1 hi),getElem?_eq_getElem _⟩
 have dH:=hc x (mem_of_getElem? hx);unfold b0j a5J;rw [hx];simp only;by_cases h1:(i:Int)∈s9 c
 ·rw [if_pos h1];by_cases h2:x.neg=true/\(mgT x.a x.b).2=true
  ·rw [if_pos h2,if_pos ⟨h2.1,h2.2,h1⟩];show [_]=[_];rw [b7o dH.1 dH.2]
  ·rw [if_neg h2,if_neg (fun h=>h2 ⟨h.1,h.2.1⟩)]
 ·rw [if_neg h1,if_neg (fun h=>h1 h.2.2)];rfl
theorem Y4 {β:Type} (g:Nat->List β) (b:Nat):∀ a,(List.range (a*b)).flatMap g=(List.range a).flatMap fun i=>(List.range b).flatMap fun j=>g (i*b+j)
 | 0=>by rw [Nat.zero_mul];rfl
 | a+1=>by
  rw [range_succ,flatMap_append,<-Y4 g b a,Nat.add_mul,Nat.one_mul,List.range_add,flatMap_append,List.flatMap_map];simp
theorem b8y {c:List Lt} (hc:∀ l∈c,l.ten):stC (a4u c)=stC (a2E c (4*c.length*c.length)):=by
 unfold a4u a2E;rw [P3,a9v c fun n=>a6r c n];have e0:4*c.length*c.length=c.length*c.length*2*2:=by rw [Nat.mul_assoc 4,Nat.mul_comm 4];omega
 rw [e0,Y4,Y4,Y4,Q1,Q1];refine B0 fun i hi=>?_;have kY:=mem_range.1 hi;obtain ⟨x,hx⟩:∃ x,c[i]?=some x:=⟨c[i],getElem?_eq_getElem kY⟩
 have dH:=hc x (mem_of_getElem? hx);have key:∀ j,j<c.length->(if (i:Int)∈s9 c then (if x.neg=true then [] else stC (a3H c x i j)) else [])=stC ((List.range 2).flatMap fun p=>(List.range 2).flatMap fun q=>(a2T c (((i*c.length+j)*2+p)*2+q)).toList):=by
  intro j hj;obtain ⟨y,hy⟩:∃ y,c[j]?=some y:=⟨c[j],getElem?_eq_getElem hj⟩
  have qO:=hc y (mem_of_getElem? hy);have hN:∀ p q,p<2->q<2->a2T c (((i*c.length+j)*2+p)*2+q)=N9 c i j p q:=by
   intro p q hp hq;obtain ⟨X,hX⟩:∃ X,X=i*c.length+j:=⟨_,rfl⟩
   have h1:((X*2+p)*2+q) / 4=X:=by omega
   have h2:((X*2+p)*2+q) / 2 % 2=p:=by omega
   have h3:((X*2+p)*2+q) % 2=q:=by omega
   have h4:X / c.length=i:=by rw [hX,Nat.mul_comm,Nat.mul_add_div (by omega),Nat.div_eq_of_lt hj,Nat.add_zero]
   have h5:X % c.length=j:=by rw [hX,Nat.mul_comm,Nat.mul_add_mod,Nat.mod_eq_of_lt hj]
   unfold a2T;rw [<-hX,h1,h2,h3,h4,h5]
  have e1:((List.range 2).flatMap fun p=>(List.range 2).flatMap fun q=>(a2T c (((i*c.length+j)*2+p)*2+q)).toList)=(N9 c i j 0 0).toList++(N9 c i j 0 1).toList++((N9 c i j 1 0).toList++(N9 c i j 1 1).toList):=by have e2:List.range 2=[0,1]:=rfl;rw [e2];simp only [flatMap_cons,flatMap_nil,append_nil];rw [hN 0 0 (by omega) (by omega),hN 0 1 (by omega) (by omega),hN 1 0 (by omega) (by omega),hN 1 1 (by omega) (by omega)]
  rw [e1];by_cases h0:i=j\/x.neg=true\/y.neg=true\/(i:Int)∉s9 c
  ·have hn:∀ p q,N9 c i j p q=none:=fun p q=>by unfold N9;rw [hx,hy];simp only;rw [if_pos h0]
   rw [hn,hn,hn,hn];show _=[];by_cases h1:(i:Int)∈s9 c
   ·rw [if_pos h1];by_cases h2:x.neg=true
    ·rw [if_pos h2]
    ·rw [if_neg h2];unfold a3H;rw [hy];simp only;rw [if_neg (fun hh=>by
      rcases h0 with h | h | h | h
      ·exact hh.1 h.symm
      ·exact h2 h
      ·rw [hh.2] at h;cases h
      ·exact h h1)]
     rfl
   ·rw [if_neg h1]
  ·have h1:(i:Int)∈s9 c:=Decidable.byContradiction fun h=>h0 (.inr (.inr (.inr h)));have h2:¬ x.neg=true:=fun h=>h0 (.inr (.inl h));have h3:y.neg=false:=by
    cases h:y.neg with
    | false=>rfl
    | true=>exact absurd (.inr (.inr (.inl h))) h0
   have fK:j≠i:=fun h=>h0 (.inl h.symm);rw [if_pos h1,if_neg h2];have hd:∀ p q,stC (N9 c i j p q).toList=stC (a9J (sdT x p,sdT x (1-p)) (sdT y q,sdT y (1-q)) (y7 c i)).toList:=fun p q=>by
    unfold N9 a9J;rw [hx,hy];simp only;rw [if_neg h0];split
    ·show [_]=[_];rw [b7o (Q6 dH p) (Q6 qO q)]
    ·rfl
   unfold a3H;rw [hy];simp only;rw [if_pos ⟨fK,h3⟩];have iY:∀ A B:List (List Lt),stC (A++B)=stC A++stC B:=fun A B=>map_append;rw [iY,iY,iY,hd,hd,hd,hd,<-iY,<-iY,<-iY];congr 1;unfold a1U a8Z M2;simp only [P3,flatMap_cons,flatMap_nil,append_nil];rfl
 have e1:(if (i:Int)∈s9 c then a6r c i else [])=(List.range c.length).flatMap fun j=>if (i:Int)∈s9 c then (if x.neg=true then [] else a3H c x i j) else []:=by
  unfold a6r;rw [hx];simp only;by_cases h1:(i:Int)∈s9 c
  ·rw [if_pos h1];by_cases h2:x.neg=true
   ·rw [if_pos h2];rw [B0 (g:=fun _=>[]) fun j _=>by rw [if_pos h1,if_pos h2]];simp
   ·rw [if_neg h2];exact B0 fun j _=>by rw [if_pos h1,if_neg h2]
  ·rw [if_neg h1];rw [B0 (g:=fun _=>[]) fun j _=>by rw [if_neg h1]];simp
 rw [e1,Q1,Q1];refine B0 fun j hj=>?_;rw [<-key j (mem_range.1 hj)];by_cases h1:(i:Int)∈s9 c
 ·rw [if_pos h1,if_pos h1];by_cases h2:x.neg=true
  ·rw [if_pos h2,if_pos h2];rfl
  ·rw [if_neg h2,if_neg h2]
 ·rw [if_neg h1,if_neg h1];rfl
set_option maxHeartbeats 1000000 in
theorem a2v (W:World) (s:List Bd) (c:List Lt) (hs:s.length<=1000000) (hl:c.length<=1000000) (hc:∀ l∈c,(l.a.rng/\l.a.ok)/\l.b.rng/\l.b.ok):AFun Tryz.prog W 32 [.lst (s.map Bd.cv),.lst (c.map Lt.cv)] (.val (.lst ((c.map (a1c s)).map Lt.cv))):=by
 have kD:=Lt.size_all c;refine a9 (rs:=[.lst ((c.map (a1c s)).map Lt.cv)]) Tryz.func32 Tryz.ntmps32 rfl rfl rfl rfl ?_;intro w U hW;refine aS (aR ?_);refine nc ze ?_;refine aS (aR ?_);refine nc ze ?_;refine aS (aS (aR ?_));refine nc ze ?_;refine aB (b9 c.length (fun k=>[(0,.val (.lst (s.map Bd.cv))),(1,.val (.lst (c.map Lt.cv))),(5,.own (.lst (((c.take k).map (a1c s)).map Lt.cv)) 200035),(200035,.tok 53 5),(6,.val (.i k))]) ((v9 5 200035 53 5 rfl rfl rfl rfl rfl rfl rfl).trans (a7 ⟨rfl,rfl,rfl,rfl,rfl,trivial⟩)) ?_);intro k hk;have iN:=Lt.size_all ((c.take k).map (a1c s));refine aS (aS (aR ?_));refine nc zl (nc zl (nc zp (nc zi ?_)));refine aC rfl (fun kA=>?_) (fun kA=>?_)
 ·have kB:k<c.length:=by simpa using kA
  obtain ⟨x,hx⟩:∃ x,c[k]?=some x:=⟨c[k],getElem?_eq_getElem kB⟩
  have kI:=Lt.map_at hx;have cD:=mem_of_getElem? hx;obtain ⟨⟨r1,o1⟩,r2,o2⟩:=hc x cD;have fA:(((c.take k).map (a1c s)).map Lt.cv).length<=1000000:=by rw [length_map,length_map,length_take];omega
  have dN:((c.take (k+1)).map (a1c s)).map Lt.cv=((c.take k).map (a1c s)).map Lt.cv++[(a1c s x).cw]:=by rw [take_add_one,hx,Option.toList_some,map_append,map_append];rfl
  refine aK ?_;refine aS (aB (aD (by kernel_rfl) (by kernel_rfl) ?_));refine nc zl (nc zl (nc zl (nc (zq (j:=k) (H:=kI) (hz:=kD)) (nc zN (nc zr (nc zl (nc zl (nc zl (nc (zq (j:=k) (H:=kI) (hz:=kD)) (nc zN (nc zr (nc (zw (z:=y9 w s (by omega) x.a r1 o1)) (nc zl (nc zl (nc zl (nc (zq (j:=k) (H:=kI) (hz:=kD)) (nc zN (nc zr (nc (zw (z:=y9 w s (by omega) x.b r2 o2)) (nc zn (nc zC (nc zD (nc ze ?_)))))))))))))))))))))));refine ⟨by kernel_rfl,?_⟩;refine aR ?_;refine nc zl (nc zu (nc ze ?_));refine ⟨kB,Wk.trans (a7 (s':=[(0,.val (.lst (s.map Bd.cv))),(1,.val (.lst (c.map Lt.cv))),(5,.own (.lst (((c.take (k+1)).map (a1c s)).map Lt.cv)) 300035),(300035,.tok 53 5),(6,.val (.i ((k+1:Nat):Int)))]) ⟨rfl,rfl,?_,rfl,rfl,trivial⟩) (o8 300035 200035 rfl rfl rfl rfl)⟩;rw [dN];rfl
 ·have kB:k=c.length:=by
   have:¬ k<c.length:=by simpa using kA
   omega
  subst kB;rw [take_length];refine aE ?_;refine aS (aR ?_);refine nc zl (nc ze ?_);exact aT (And.intro (.inr rfl) rfl)
theorem a1b (W:World) (c:List Lt) (i:Int) (hl:c.length<=100000):AFun Tryz.prog W 19 [.lst (c.map Lt.cv),.i i] (.val (.lst ((P6 c i c.length).map Lt.cv))):=by
 have kD:=Lt.size_all c;refine a9 (rs:=[.lst ((P6 c i c.length).map Lt.cv)]) Tryz.func19 Tryz.ntmps19 rfl rfl rfl rfl ?_;intro w U hW;refine aS (aR ?_);refine nc ze ?_;refine aS (aR ?_);refine nc ze ?_;refine aS (aS (aR ?_));refine nc ze ?_;refine aB (b9 c.length (fun k=>[(0,.val (.lst (c.map Lt.cv))),(1,.val (.i i)),(5,.own (.lst ((P6 c i k).map Lt.cv)) 200022),(200022,.tok 53 5),(6,.val (.i k))]) ((v9 5 200022 53 5 rfl rfl rfl rfl rfl rfl rfl).trans (a7 ⟨rfl,rfl,rfl,rfl,rfl,trivial⟩)) ?_);intro k hk;have iN:=Lt.size_all (P6 c i k);refine aS (aS (aR ?_));refine nc zl (nc zl (nc zp (nc zi ?_)));refine aC rfl (fun kA=>?_) (fun kA=>?_)
 ·have kB:k<c.length:=by simpa using kA
  obtain ⟨x,hx⟩:∃ x,c[k]?=some x:=⟨c[k],getElem?_eq_getElem kB⟩
  have kI:=Lt.map_at hx;have hS:=a2f (i:=i) hx;have tP:(P6 c i k).length<=100000:=Nat.le_trans (a9I c i k) (by omega);have fA:((P6 c i k).map Lt.cv).length<=100000:=by rw [length_map];exact tP
  refine aK ?_;refine aS (aB (aS (aR ?_)));refine nc zl (nc zl (nc zE ?_));refine aC rfl (fun hq=>?_) (fun hq=>?_)
  ·have hq:¬ (k:Int)=i:=by simpa using hq
   rw [if_neg hq] at hS;refine aR ?_;refine nc zl (nc zl (nc zl (nc (zq (j:=k) (H:=kI) (hz:=kD)) (nc zr (nc zC (nc zD (nc ze ?_)))))));refine aR ?_;refine nc zl (nc zu (nc ze ?_));refine ⟨kB,Wk.trans (a7 (s':=[(0,.val (.lst (c.map Lt.cv))),(1,.val (.i i)),(5,.own (.lst ((P6 c i (k+1)).map Lt.cv)) 300022),(300022,.tok 53 5),(6,.val (.i ((k+1:Nat):Int)))]) ⟨rfl,rfl,?_,rfl,rfl,trivial⟩) (o8 300022 200022 rfl rfl rfl rfl)⟩;show some (AV.own (.lst _) _)=some (AV.own (.lst _) _);rw [hS,map_append];rfl
  ·have hq:(k:Int)=i:=by simpa using hq
   rw [if_pos hq,append_nil] at hS;refine aK ?_;refine aR ?_;refine nc zl (nc zu (nc ze ?_));refine ⟨kB,a7 ⟨rfl,rfl,?_,rfl,rfl,trivial⟩⟩;show some (AV.own (.lst _) _)=some (AV.own (.lst _) _);rw [hS]
 ·have kB:k=c.length:=by
   have:¬ k<c.length:=by simpa using kA
   omega
  subst kB;refine aE ?_;refine aS (aR ?_);refine nc zl (nc ze ?_);exact aT (And.intro (.inr rfl) rfl)
theorem a5s (c:List Lt) (i:Int) (hl:c.length<=100000):p9 Tryz.prog 19 [] [.val (.lst (c.map Lt.cv)),.val (.i i)] (.sl 300107 0 (P6 c i c.length).length 5) [(300107,.mrow 53 5 ((P6 c i c.length).map Lt.cv))]:=by
 have kD:=Lt.size_all c;refine k6 Tryz.func19 Tryz.ntmps19 rfl rfl rfl rfl rfl rfl ?_;intro w U hU;refine aS (aR ?_);refine nc ze ?_;refine aS (aR ?_);refine nc ze ?_;refine aS (aS (aR ?_));refine nc ze ?_;refine aB (b9 c.length (fun k=>[(0,.val (.lst (c.map Lt.cv))),(1,.val (.i i)),(5,.sl 300107 0 (P6 c i k).length 5),(300107,.mrow 53 5 ((P6 c i k).map Lt.cv)),(6,.val (.i k))]) ((b2d 5 300107 53 5 rfl rfl rfl rfl rfl).trans (a7 ⟨rfl,rfl,rfl,rfl,rfl,trivial⟩)) ?_);intro k hk;have iN:=Lt.size_all (P6 c i k);refine aS (aS (aR ?_));refine nc zl (nc zl (nc zp (nc zi ?_)));refine aC rfl (fun kA=>?_) (fun kA=>?_)
 ·have kB:k<c.length:=by simpa using kA
  obtain ⟨x,hx⟩:∃ x,c[k]?=some x:=⟨c[k],getElem?_eq_getElem kB⟩
  have kI:=Lt.map_at hx;have hS:=a2f (i:=i) hx;have jX:((P6 c i k).map Lt.cv).length=(P6 c i k).length:=length_map ..;have fA:(P6 c i k).length<=100000:=Nat.le_trans (a9I c i k) (by omega);refine aK ?_;refine aS (aB (aS (aR ?_)));refine nc zl (nc zl (nc zE ?_));refine aC rfl (fun hq=>?_) (fun hq=>?_)
  ·have hq:¬ (k:Int)=i:=by simpa using hq
   rw [if_neg hq] at hS;refine aR ?_;refine nc zl (nc zl (nc zl (nc (zq (j:=k) (H:=kI) (hz:=kD)) (nc zr (nc zC (nc (zbb 300108) (nc ze ?_)))))));refine aR ?_;refine nc zl (nc zu (nc ze ?_));refine ⟨kB,Wk.trans (a7 (s':=[(0,.val (.lst (c.map Lt.cv))),(1,.val (.i i)),(5,.sl 300108 0 (P6 c i (k+1)).length 5),(300108,.mrow 53 5 ((P6 c i (k+1)).map Lt.cv)),(6,.val (.i ((k+1:Nat):Int)))]) ⟨rfl,rfl,?_,?_,rfl,trivial⟩) (o8 300108 300107 rfl rfl (by kernel_rfl) (by kernel_rfl))⟩
   ·show some (AV.sl _ _ _ _)=some (AV.sl _ _ _ _);rw [hS,length_append,<-jX];rfl
   ·show some (AV.mrow _ _ _)=some (AV.mrow _ _ _);rw [hS,map_append];rfl
  ·have hq:(k:Int)=i:=by simpa using hq
   rw [if_pos hq,append_nil] at hS;refine aK ?_;refine aR ?_;refine nc zl (nc zu (nc ze ?_));refine ⟨kB,a7 ⟨rfl,rfl,?_,?_,rfl,trivial⟩⟩
   ·show some (AV.sl _ _ _ _)=some (AV.sl _ _ _ _);rw [hS]
   ·show some (AV.mrow _ _ _)=some (AV.mrow _ _ _);rw [hS]
 ·have kB:k=c.length:=by
   have:¬ k<c.length:=by simpa using kA
   omega
  subst kB;refine aE ?_;refine aS (aR ?_);refine nc zl (nc ze ?_);exact aT ⟨.inr rfl,_,Wk.refl _,rfl,rfl,trivial⟩
theorem a2L (W:World) (c:List Lt) (i:Int) (hl:c.length<=100) (hc:∀ l∈c,l.fit):AFun Tryz.prog W 31 [.lst (c.map Lt.cv),.i i] (.val (.b (decide (i∈s9 c)))):=by
 have fX:=fun w=>a8g w c (by omega) hc;have xQ:(s9 c).length<=101:=by
  unfold s9;split
  ·simp
  ·have:=a0f c c.length;omega
 obtain ⟨L,hL⟩:∃ L,L=s9 c:=⟨_,rfl⟩
 rw [<-hL] at fX xQ |-;have oX:=b8 L;refine a9 (rs:=[.b (decide (i∈L))]) Tryz.func31 Tryz.ntmps31 rfl rfl rfl rfl ?_;intro w U hW;refine aS (aR ?_);refine nc ze ?_;refine aS (aR ?_);refine nc zl (nc (zw (z:=fX w)) (nc ze ?_));refine aS (aS (aR ?_));refine nc ze ?_;refine aB (l7 L.length (fun k=>i∉L.take k) (fun k=>[(1,.val (.i i)),(5,.val (.lst (L.map CV.i))),(6,.val (.i k))]) (a7 ⟨rfl,rfl,rfl,trivial⟩) (by simp) ?_);intro k hk hI;refine aS (aS (aR ?_));refine nc zl (nc zl (nc zp (nc zi ?_)));refine aC rfl (fun kA=>?_) (fun kA=>?_)
 ·have kB:k<L.length:=by simpa using kA
  obtain ⟨u,hu⟩:∃ u,L[k]?=some u:=⟨L[k],getElem?_eq_getElem kB⟩
  have sT:=b1I hu;refine aK ?_;refine aS (aB (aS (aR ?_)));refine nc zl (nc zl (nc (zq (j:=k) (H:=sT) (hz:=oX)) (nc zr (nc zl (nc zt ?_)))));refine aC rfl (fun hq=>?_) (fun hq=>?_)
  ·have hq:u=i:=by simpa using hq
   rw [decide_eq_true (by rw [<-hq];exact mem_of_getElem? hu)];refine aS (aR ?_);refine nc ze ?_;exact aT (And.intro (.inr rfl) rfl)
  ·have hq:¬ u=i:=by simpa using hq
   refine aK ?_;refine aR ?_;refine nc zl (nc zu (nc ze ?_));refine ⟨kB,?_,a7 ⟨rfl,rfl,rfl,trivial⟩⟩;show i∉L.take (k+1);rw [take_add_one,hu,mem_append];rintro (h | h)
   ·exact hI h
   ·simp at h;exact hq h.symm
 ·have kB:k=L.length:=by
   have:¬ k<L.length:=by simpa using kA
   omega
  subst kB;rw [take_length] at hI;rw [decide_eq_false hI];refine aE ?_;refine aS (aR ?_);refine nc ze ?_;exact aT (And.intro (.inr rfl) rfl)
theorem Y6 (W:World) (l:Lt) (n:Nat):AFun Tryz.prog W 34 [l.cw,.i (n:Int)] (.val (sdT l n).cw):=by
 refine a9 (rs:=[(sdT l n).cw]) Tryz.func34 Tryz.ntmps34 rfl rfl rfl rfl ?_;intro w U hW;refine aS (aR ?_);refine nc zd (nc zk ?_);refine aS (aS (aR ?_));refine nc zl (nc zt ?_);refine aC rfl (fun hc=>?_) (fun hc=>?_)
 ·have hc:(n:Int)=0:=by simpa using hc
  have e:sdT l n=l.a:=by unfold sdT;rw [if_pos (by omega)]
  rw [e];refine aS (aR ?_);refine nc zg (nc zh (nc zo ?_));exact aT (And.intro (.inr rfl) rfl)
 ·have hc:¬ (n:Int)=0:=by simpa using hc
  have e:sdT l n=l.b:=by unfold sdT;rw [if_neg (by omega)]
  rw [e];refine aK ?_;refine aS (aR ?_);refine nc zg (nc zh (nc zo ?_));exact aT (And.intro (.inr rfl) rfl)
abbrev sv (l:List UInt8):CV := .sc (.string ⟨l.toArray⟩)
section
variable {P:Program} {w0:World} {U0:UX} {nt:Nat} {ops:Array Oper} {o:Oper} {S:Nat->Option AV} {gs:List Nat} {d:Nat}
end
section
variable {P:Program} {w0:World} {U0:UX} {nt:Nat} {ops:Array Oper} {o:Oper} {S:Nat->Option AV} {gs:List Nat} {d:Nat}
theorem c2i (hg:Gd w0 U0 nt ops o gs S) (hd:o.dst=some d) (hn:Nat.blt d nt=true) (h5:Nat.blt d 100000=true) {x y:Operand} {t1 t2:TypeId} {k:IntKind} {i j:Int} {n q p n' q' p'} (ho:o.op = .binOp .quo t1 x y t2) (hx:ev S x=some ⟨0,.sc (.int k i),n,q,p⟩) (hy:ev S y=some ⟨0,.sc (.int k j),n',q',p'⟩) (hr:j≠0) (hw:k.wrap (i.tdiv j)=i.tdiv j):AOp P w0 U0 nt ops o (gs++(rd x++rd y)) [] S [(d,.val (.sc (.int k (i.tdiv j))))]:=
 B6 hg hd hn h5 ho hx hy (fun w=>by simp [binOp,Op.intDiv,hr,hw,go_sem]) rfl
theorem zbN {P:Program} {w0:World} {U0:UX} {nt:Nat} {ops:Array Oper} {o:Oper} {S:Nat->Option AV} {gs:List Nat} {d:Nat} {x:Operand} {y:Operand} {t1:TypeId} {t2:TypeId} {k:IntKind} {i:Int} {j:Int} {n} {q} {p} {n'} {q'} {p'} (r:Gd w0 U0 nt ops o gs S:=by exact gN rfl) (t:o.dst=some d:=by exact rfl) (u:Nat.blt d nt=true:=by exact rfl) (v:Nat.blt d 100000=true:=by exact rfl) (z:o.op = .binOp .quo t1 x y t2:=by exact rfl) (A:ev S x=some ⟨0,.sc (.int k i),n,q,p⟩:=by exact rfl) (B:ev S y=some ⟨0,.sc (.int k j),n',q',p'⟩:=by exact rfl) (C:j≠0:=by first | decide | assumption) (D:k.wrap (i.tdiv j)=i.tdiv j:=by assumption):AOp P w0 U0 nt ops o (gs++(rd x++rd y)) [] S [(d,.val (.sc (.int k (i.tdiv j))))]:=c2i r t u v z A B C D
end
theorem b4K (c:List Lt) (k:Nat):a2w c (k+1)=a2w c k++(a5J c k).toList:=by
 unfold a2w;rw [range_succ,List.filterMap_append];congr 1
theorem b6l (c:List Lt) (k:Nat):(a2w c k).length<=k:=by
 unfold a2w;exact Nat.le_trans (List.length_filterMap_le _ _) (by rw [List.length_range];omega)
theorem b2M {c:List Lt} (h:∀ l∈c,l.ten):∀ l∈c,l.fit:=fun l hl=>⟨⟨(h l hl).1.1.1,(h l hl).1.1.2,by have:=(h l hl).1.2;omega⟩,(h l hl).2.1.1,(h l hl).2.1.2,by have:=(h l hl).2.2;omega⟩
theorem b1Z {c:List Lt} {k:Nat} (h:k<c.length):P6 c (k:Int) c.length=y7 c k:=by
 rw [b3e,if_pos (by omega),Int.toNat_natCast]
set_option maxHeartbeats 4000000 in
theorem b5w (W:World) (c:List Lt) (hl:c.length<=100) (hc:∀ l∈c,l.ten):AFun Tryz.prog W 13 [.lst (c.map Lt.cv)] (.val (.lst ((a2w c c.length).map V5))):=by
 have kD:=Lt.size_all c;refine a9 (rs:=[.lst ((a2w c c.length).map V5)]) Tryz.func13 Tryz.ntmps13 rfl rfl rfl rfl ?_;intro w U hW;refine aS (aR ?_);refine nc ze ?_;refine aS (aR ?_);refine nc ze ?_;refine aS (aS (aR ?_));refine nc ze ?_
 let st:Nat->AS:=fun k=>[(0,.val (.lst (c.map Lt.cv))),(3,.own (.lst ((a2w c k).map V5)) 200049),(200049,.tok 22 1),(4,.val (.i k))]
 refine aB (b9 c.length st ((v9 3 200049 22 1 rfl rfl rfl rfl rfl rfl rfl).trans (a7 ⟨rfl,rfl,rfl,rfl,trivial⟩)) ?_);intro k hk;refine aS (aS (aR ?_));refine nc zl (nc zl (nc zp (nc zi ?_)));refine aC rfl (fun kA=>?_) (fun kA=>?_)
 ·have kB:k<c.length:=by simpa using kA
  obtain ⟨x,hx⟩:∃ x,c[k]?=some x:=⟨c[k],getElem?_eq_getElem kB⟩
  have kI:=Lt.map_at hx;have dH:=hc x (mem_of_getElem? hx);have hS:=b4K c k;have lV:a5J c k=if x.neg=true/\(mgT x.a x.b).2=true/\(k:Int)∈s9 c then some ((y7 c k).map (a1c (dT x.a x.b))) else none:=by unfold a5J;rw [hx]
  have hA:=b6l c k;obtain ⟨A,tM⟩:∃ A,A=a2w c k:=⟨_,rfl⟩
  rw [<-tM] at hS hA;have hAm:(A.map V5).length<=100:=by rw [length_map];omega
  have oY:=D8 A;have gB:a5J c k=none->∀ s:AS,SubL s [(0,.val (.lst (c.map Lt.cv))),(3,.own (.lst (A.map V5)) 200049),(200049,.tok 22 1),(4,.val (.i ((k+1:Nat):Int)))]->SubL s (st (k+1)):=fun h s hs=>by
   have e2:a2w c (k+1)=A:=by rw [hS,h];simp
   show SubL s [(0,.val (.lst (c.map Lt.cv))),(3,.own (.lst ((a2w c (k+1)).map V5)) 200049),(200049,.tok 22 1),(4,.val (.i ((k+1:Nat):Int)))];rw [e2];exact hs
  refine aK ?_;refine aS (aB (aS (aD (by kernel_rfl) (by kernel_rfl) ?_)));refine nc zl (nc zl (nc (zq (j:=k) (H:=kI) (hz:=kD)) (nc zN (nc zr (nc zC (nc zl (nc zl (nc (zq (j:=k) (H:=kI) (hz:=kD)) (nc zN (nc zr (nc zC (nc (zw (z:=(b1e dH.1 dH.2).1 w)) (nc zl (nc zx (nc zx (nc ze (nc ze ?_)))))))))))))))));refine ⟨by kernel_rfl,?_⟩;obtain ⟨ok,kG⟩:∃ ok,ok=(mgT x.a x.b).2:=⟨_,rfl⟩
  rw [<-kG] at lV;refine AWp.wk (a7 (s':=[(0,.val (.lst (c.map Lt.cv))),(3,.own (.lst (A.map V5)) 200049),(200049,.tok 22 1),(4,.val (.i k)),(5,.val (.lst ((dT x.a x.b).map Bd.cv))),(6,.val (.b ok))]) ⟨rfl,by rw [tM];rfl,rfl,rfl,rfl,by rw [kG];rfl,trivial⟩) ?_;obtain ⟨dd,lM⟩:∃ dd,dd=dT x.a x.b:=⟨_,rfl⟩
  have uN:=b1e dH.1 dH.2;unfold b8V at uN;obtain ⟨_,cH,bT,_⟩:=uN;rw [<-lM] at cH bT lV |-;cases iO:x.neg with
  | false =>
   rw [iO] at lV;have tQ:x.cw = .row [.b false,x.a.cw,x.b.cw]:=by unfold Lt.cw;rw [iO]
   rw [tQ] at kI;refine aS (aR ?_);refine nc zl (nc zl (nc (zq (j:=k) (H:=kI) (hz:=kD)) (nc zN (nc zr (nc zl (nc zH (nc zI (nc zl (nc zH (nc zH (nc zH (nc zI ?_))))))))))));refine aC rfl (fun h=>by cases h) (fun _=>aK ?_);refine aR ?_;refine nc zl (nc zu (nc ze ?_));exact ⟨kB,a7 (gB (by rw [lV,if_neg (by rintro ⟨h,_⟩;cases h)]) _ ⟨rfl,rfl,rfl,rfl,trivial⟩)⟩
  | true =>
   rw [iO] at lV;have tQ:x.cw = .row [.b true,x.a.cw,x.b.cw]:=by unfold Lt.cw;rw [iO]
   rw [tQ] at kI;cases ok with
   | false =>
    refine aS (aR ?_);refine nc zl (nc zl (nc (zq (j:=k) (H:=kI) (hz:=kD)) (nc zN (nc zr (nc zl (nc (zl (p:=gb)) (nc zJ (nc zl (nc zH (nc zH (nc zH (nc zI ?_))))))))))));refine aC rfl (fun h=>by cases h) (fun _=>aK ?_);refine aR ?_;refine nc zl (nc zu (nc ze ?_));exact ⟨kB,a7 (gB (by rw [lV,if_neg (by rintro ⟨_,h,_⟩;cases h)]) _ ⟨rfl,rfl,rfl,rfl,trivial⟩)⟩
   | true =>
    have kC:=fun w=>a2L w c (k:Int) hl (b2M hc);refine aS (aR ?_);refine nc zl (nc zl (nc (zq (j:=k) (H:=kI) (hz:=kD)) (nc zN (nc zr (nc zl (nc (zl (p:=gb)) (nc zJ (nc zl (nc (zl (p:=gb)) (nc (zl (p:=gb)) (nc (zw (p:=gb) (z:=kC w)) (nc zJ ?_))))))))))));refine aC rfl (fun hq=>?_) (fun hq=>?_)
    ·have hq:(k:Int)∈s9 c:=by have h:decide ((k:Int)∈s9 c)=true:=hq;exact of_decide_eq_true h
     rw [if_pos ⟨rfl,rfl,hq⟩] at lV;have uL:=fun w=>a1b w c (k:Int) (by omega);rw [b1Z kB] at uL;have lU:=I7 kB;refine aR ?_;refine nc zl (nc zl (nc zl (nc zl (nc (zw (z:=uL w)) ?_))));refine nc (zw (z:=a2v w dd (y7 c k) cH (by omega) (a1P fun l h=>hc l (W9 h)))) ?_;refine nc zC (nc zD (nc ze ?_));refine aR ?_;refine nc zl (nc zu (nc ze ?_));refine ⟨kB,(a7 (s':=[(0,.val (.lst (c.map Lt.cv))),(3,.own (.lst ((a2w c (k+1)).map V5)) 300049),(300049,.tok 22 1),(4,.val (.i ((k+1:Nat):Int)))]) ⟨rfl,?_,rfl,rfl,trivial⟩).trans (o8 300049 200049 rfl rfl rfl rfl)⟩;show some (AV.own (.lst _) _)=some (AV.own (.lst _) _);rw [hS,lV,map_append (f:=V5)];rfl
    ·have hq:¬ (k:Int)∈s9 c:=by have h:decide ((k:Int)∈s9 c)=false:=hq;exact of_decide_eq_false h
     refine aK ?_;refine aR ?_;refine nc zl (nc zu (nc ze ?_));exact ⟨kB,a7 (gB (by rw [lV,if_neg (fun h=>hq h.2.2)]) _ ⟨rfl,rfl,rfl,rfl,trivial⟩)⟩
 ·have kB:k=c.length:=by
   have:¬ k<c.length:=by simpa using kA
   omega
  subst kB;refine aE ?_;refine aS (aR ?_);refine nc zl (nc ze ?_);exact aT (And.intro (.inr rfl) rfl)
theorem b1G {A:List (List Lt)} {k:Nat} {x:List Lt} (h:A[k]?=some x):(A.map V5)[k]?=some (.lst (x.map Lt.cv)):=by rw [getElem?_map,h];rfl
theorem a2A (W:World) (A B:List (List Lt)) (hAl:A.length<=100000) (hAc:∀ c∈A,c.length<=1000000/\∀ l∈c,l.a.ok/\l.b.ok) (hBc:∀ c∈B,∀ l∈c,l.a.ok/\l.b.ok) (h:stC A=stC B):AFun Tryz.prog W 10 [.lst (A.map V5),.lst (B.map V5)] (.val (.b true)):=by
 have kF:A.length=B.length:=by have:=congrArg List.length h;unfold stC at this;rw [length_map,length_map] at this;exact this
 have oY:=D8 A;have xS:=D8 B;refine a9 (rs:=[.b true]) Tryz.func10 Tryz.ntmps10 rfl rfl rfl rfl ?_;intro w U hW;refine aS (aR ?_);refine nc ze ?_;refine aS (aS (aR ?_));refine nc zl (nc zp (nc zl (nc zp (nc zE ?_))));refine aC rfl (fun hc=>?_) (fun hc=>aK ?_)
 ·exfalso;have hc:¬ ((A.length:Int)=(B.length:Int)):=by simpa using hc
  omega
 refine aS (aS (aR ?_));refine nc ze ?_;refine aB (b9 A.length (fun k=>[(0,.val (.lst (A.map V5))),(1,.val (.lst (B.map V5))),(5,.val (.i k))]) (a7 ⟨rfl,rfl,rfl,trivial⟩) ?_);intro k hk;refine aS (aS (aR ?_));refine nc zl (nc zl (nc zp (nc zi ?_)));refine aC rfl (fun kA=>?_) (fun kA=>?_)
 ·have kB:k<A.length:=by simpa using kA
  obtain ⟨x,hx⟩:∃ x,A[k]?=some x:=⟨A[k],getElem?_eq_getElem kB⟩
  obtain ⟨y,hy⟩:∃ y,B[k]?=some y:=⟨B[k]'(by omega),getElem?_eq_getElem (by omega)⟩
  have kI:=b1G hx;have gO:=b1G hy;have iD:Z3 x y=true:=by
   rw [H9];have h1:(stC A)[k]?=some (x.map Lt.strip):=by unfold stC;rw [getElem?_map,hx];rfl
   have h2:(stC B)[k]?=some (y.map Lt.strip):=by unfold stC;rw [getElem?_map,hy];rfl
   rw [h,h2] at h1;exact (Option.some.inj h1).symm
  obtain ⟨g1,g2⟩:=hAc x (mem_of_getElem? hx);have hs:=fun w=>a0H w x y g1 g2 (hBc y (mem_of_getElem? hy));rw [iD] at hs;refine aK ?_;refine aS (aB (aS (aD (by kernel_rfl) (by kernel_rfl) ?_)));refine nc zl (nc zl (nc (zq (j:=k) (H:=kI) (hz:=oY)) (nc zr (nc zl (nc zl (nc (zq (j:=k) (H:=gO) (hz:=xS)) (nc zr (nc (zw (z:=hs w)) (nc zF ?_)))))))));refine ⟨by kernel_rfl,?_⟩;refine aC rfl (fun h=>by cases h) (fun _=>aK ?_);refine aR ?_;refine nc zl (nc zu (nc ze ?_));exact ⟨kB,a7 ⟨rfl,rfl,rfl,trivial⟩⟩
 ·have kB:k=A.length:=by
   have:¬ k<A.length:=by simpa using kA
   omega
  subst kB;refine aE ?_;refine aS (aR ?_);refine nc ze ?_;exact aT (And.intro (.inr rfl) rfl)
theorem a9f (W:World) (A:List (List Lt)) (hAl:A.length<=100000) (hAc:∀ c∈A,c.length<=1000000/\∀ l∈c,l.a.ok/\l.b.ok):AFun Tryz.prog W 11 [.lst (A.map V5)] (.val (.lst ((stC A).map V5))):=by
 have oY:=D8 A;refine a9 (rs:=[.lst ((stC A).map V5)]) Tryz.func11 Tryz.ntmps11 rfl rfl rfl rfl ?_;intro w U hW;refine aS (aR ?_);refine nc ze ?_;refine aS (aR ?_);refine nc ze ?_;refine aS (aS (aR ?_));refine nc ze ?_;refine aB (b9 A.length (fun k=>[(0,.val (.lst (A.map V5))),(3,.own (.lst ((stC (A.take k)).map V5)) 200018),(200018,.tok 22 1),(4,.val (.i k))]) ((v9 3 200018 22 1 rfl rfl rfl rfl rfl rfl rfl).trans (a7 ⟨rfl,rfl,rfl,rfl,trivial⟩)) ?_);intro k hk;refine aS (aS (aR ?_));refine nc zl (nc zl (nc zp (nc zi ?_)));refine aC rfl (fun kA=>?_) (fun kA=>?_)
 ·have kB:k<A.length:=by simpa using kA
  obtain ⟨x,hx⟩:∃ x,A[k]?=some x:=⟨A[k],getElem?_eq_getElem kB⟩
  have kI:=b1G hx;obtain ⟨g1,g2⟩:=hAc x (mem_of_getElem? hx);have yP:=D8 (stC (A.take k));have tP:(stC (A.take k)).length<=100000:=by unfold stC;rw [length_map,length_take];omega
  have fA:((stC (A.take k)).map V5).length<=100000:=by rw [length_map];exact tP
  have hS:stC (A.take (k+1))=stC (A.take k)++[x.map Lt.strip]:=by unfold stC;rw [take_add_one,hx,map_append];rfl
  refine aK ?_;refine aS (aB (aR ?_));refine nc zl (nc zl (nc zl (nc (zq (j:=k) (H:=kI) (hz:=oY)) (nc zr (nc (zw (z:=a5b w x g1 g2)) (nc zC (nc zD (nc ze ?_))))))));refine aR ?_;refine nc zl (nc zu (nc ze ?_));refine ⟨kB,(a7 (s':=[(0,.val (.lst (A.map V5))),(3,.own (.lst ((stC (A.take (k+1))).map V5)) 300018),(300018,.tok 22 1),(4,.val (.i ((k+1:Nat):Int)))]) ⟨rfl,?_,rfl,rfl,trivial⟩).trans (o8 300018 200018 rfl rfl rfl rfl)⟩;show some (AV.own (.lst _) _)=some (AV.own (.lst _) _);rw [hS,map_append (f:=V5)];rfl
 ·have kB:k=A.length:=by
   have:¬ k<A.length:=by simpa using kA
   omega
  subst kB;rw [take_length];refine aE ?_;refine aS (aR ?_);refine nc zl (nc ze ?_);exact aT (And.intro (.inr rfl) rfl)
end Go.Proofs.YtglmoficcjphaaaGreat
