/-
 EqRes EqDoc ClNmX ClTtM ClRefN EqRef AbStr PrQuo EqRef2 EqRef3 EqAlive EqLw MtMath MtMath2 EqVnt
-/
import Derived.Test.YtglmoficcjphaaaGreatMg11
import Derived.Test.YtglmoficcjphaaaGreatMg9
import Derived.Test.YtglmoficcjphaaaGreatMg4
import Derived.Laws.Strings
import Derived.Laws.Strings3
import Derived.Laws.Concat
import Derived.Lib.Strings
import Derived.Laws.BytesArg
import Derived.Test.YtglmoficcjphaaaGreatMg5
namespace Go.Proofs.YtglmoficcjphaaaGreat
open List (append_nil flatMap_cons getElem?_eq_getElem getElem?_map length_append length_map map_append map_cons mem_flatMap mem_map mem_of_getElem? take_length)
open Go.RowKit
set_option linter.unusedVariables false
set_option linter.unusedSimpArgs false
set_option maxRecDepth 100000
theorem b7g (c:List Lt):∀ k:Nat,-1<=(hvK c k).1/\(hvK c k).1<k
 | 0=>⟨by show (-1:Int) <= -1;omega,by show (-1:Int)<_;omega⟩
 | k+1=>by
  obtain ⟨h1,h2⟩:=b7g c k;unfold hvK;split
  ·omega
  ·split
   ·simp only;omega
   ·omega
theorem a8i {c:List Lt} {z:Int} (h:z∈I2 c):0<=z/\z<c.length:=by
 unfold I2 at h;split at h
 ·rw [List.mem_singleton] at h;have:=b7g c c.length;omega
 ·unfold gsK at h;obtain ⟨i,hi,rfl⟩:=mem_map.1 h;have:=List.mem_range.1 (List.mem_filter.1 hi).1;omega
theorem a9Q {c:List Lt} (h:∀ l∈c,l.ten):∀ l∈c,l.fit:=fun l hl=>⟨⟨(h l hl).1.1.1,(h l hl).1.1.2,by have:=(h l hl).1.2;omega⟩,(h l hl).2.1.1,(h l hl).2.1.2,by have:=(h l hl).2.2;omega⟩
noncomputable def a0y (c:List Lt) (L:List Int) (k:Nat):List (List Lt):=(L.take k).filterMap fun z=>b1h c z.toNat
theorem b5v (c:List Lt) (L:List Int) (k:Nat):(a0y c L k).length<=L.length:=by
 unfold a0y;exact Nat.le_trans (List.length_filterMap_le _ _) (by rw [List.length_take];omega)
theorem b3o {c:List Lt} {L:List Int} {k:Nat} {n:Nat} (h:L[k]?=some (n:Int)):a0y c L (k+1)=a0y c L k++(b1h c n).toList:=by
 unfold a0y;rw [List.take_add_one,h,List.filterMap_append];congr 1
theorem a4d {c:List Lt} (h:∀ l∈c,l.ten) (n:Nat):∀ l∈I8 c n,l.ten:=fun l hl=>h l (b5r hl)
set_option maxHeartbeats 4000000 in
theorem a1v (W:World) (c:List Lt) (hl:c.length<=100) (hc:∀ l∈c,l.ten):AFun Tryz.prog W 12 [.lst (c.map Lt.cv)] (.val (.lst ((E7 c).map clC))):=by
 have hsz:=Lt.size_all c;have hLk:=fun w=>a6c w c (by omega) (a9Q hc);have hLat:∀ z∈I2 c,0<=z/\z<c.length:=fun z hz=>a8i hz;have hLl:(I2 c).length<=101:=by have:=a7b c;omega
 have hres:E7 c=a0y c (I2 c) (I2 c).length:=by unfold E7 a0y;rw [take_length]
 rw [hres];obtain ⟨L,hL⟩:∃ L,L=I2 c:=⟨_,rfl⟩
 rw [<-hL] at hLk hLat hLl |-;have hszL:=q9 L;refine b9 (rs:=[.lst ((a0y c L L.length).map clC)]) Tryz.func12 Tryz.ntmps12 rfl rfl rfl rfl ?_;intro w U hW;refine aS (aR ?_);refine nc ze ?_;refine aS (aR ?_);refine nc ze ?_;refine aS (aS (aR ?_));refine nc zl (nc (zw (z:=hLk w)) (nc zp (nc zl ?_)))
 let st:Nat->AS:=fun k=>[(0,.val (.lst (c.map Lt.cv))),(3,.own (.lst ((a0y c L k).map clC)) 200043),(200043,.tok 26 1),(9,.val (.lst (L.map CV.i))),(10,.val (.i (L.map CV.i).length)),(11,.val (.i k))]
 refine aB (p6 L.length st ((K5 3 200043 26 1 rfl rfl rfl rfl rfl rfl rfl).trans (a7 ⟨rfl,rfl,rfl,rfl,rfl,rfl,trivial⟩)) ?_);intro k hk;refine aS (aR ?_);refine nc zi ?_;refine aS (aC rfl (fun hlt=>?_) (fun hlt=>?_))
 ·have hkl:k<L.length:=by simpa using hlt
  obtain ⟨z,hz⟩:∃ z,L[k]?=some z:=⟨L[k],getElem?_eq_getElem hkl⟩
  obtain ⟨hz0,hz1⟩:=hLat z (mem_of_getElem? hz);obtain ⟨n,rfl⟩:∃ n:Nat,z=(n:Int):=⟨z.toNat,by omega⟩
  have hz':=b7q hz;have hn:n<c.length:=by omega
  obtain ⟨x,hx⟩:∃ x,c[n]?=some x:=⟨c[n],getElem?_eq_getElem hn⟩
  have hx':=Lt.map_at hx;have hxt:=hc x (mem_of_getElem? hx);have hS:=b3o (c:=c) hz;have hrc:b1h c n=if x.neg=true/\(mgT x.a x.b).2=true then some ((I8 c n).map (Lt.rep (mgS x.a x.b))) else none:=by unfold b1h;rw [hx]
  have hlen3:=b5v c L k;have hlen4:((a0y c L k).map clC).length<=101:=by rw [length_map];omega
  have hsz3:=J1 (a0y c L k);refine aK ?_;refine aS (aB (aS (aR ?_)));refine nc (zq (j:=k) (H:=hz') (hz:=hszL)) (nc zr (nc ze ?_));refine aS (aS (aR ?_));refine nc zl (nc zl (nc (zq (j:=n) (H:=hx') (hz:=hsz)) (nc zbM (nc zr (nc z0 ?_)))));refine aC rfl (fun hb=>?_) (fun hb=>?_)
  ·have hb:(!x.neg)=true:=hb;have hng:x.neg=false:=by simpa using hb
   have e:a0y c L (k+1)=a0y c L k:=by rw [hS,hrc,if_neg (by rw [hng];rintro ⟨h,_⟩;cases h)];simp
   refine aE ?_;refine aR ?_;refine nc zu (nc zl ?_);refine ⟨hkl,a7 ⟨rfl,?_,rfl,rfl,rfl,rfl,trivial⟩⟩;rw [e];rfl
  ·have hb:(!x.neg)=false:=hb;have hng:x.neg=true:=by simpa using hb
   refine aK ?_;refine aS (aD (by kernel_rfl) (by kernel_rfl) ?_);refine nc zl (nc zl (nc (zq (j:=n) (H:=hx') (hz:=hsz)) (nc zbM (nc zr (nc zl (nc zl (nc (zq (j:=n) (H:=hx') (hz:=hsz)) (nc zbM (nc zr (nc (zw (z:=a4e w hxt.1 hxt.2)) (nc zl (nc zx (nc zx (nc ze (nc ze ?_)))))))))))))));refine ⟨by kernel_rfl,?_⟩;obtain ⟨ok,hok⟩:∃ ok,ok=(mgT x.a x.b).2:=⟨_,rfl⟩
   rw [<-hok] at hrc;refine aS (aR ?_);refine nc zl ?_;refine AWp.wk (a7 (s':=[(0,.val (.lst (c.map Lt.cv))),(3,.own (.lst ((a0y c L k).map clC)) 200043),(200043,.tok 26 1),(9,.val (.lst (L.map CV.i))),(10,.val (.i (L.map CV.i).length)),(11,.val (.i k)),(5,.val (.i (n:Int))),(6,.val (.lst ((mgT x.a x.b).1.map Bd.cv))),(35,.val (.b ok))]) ⟨rfl,rfl,rfl,rfl,rfl,rfl,rfl,rfl,by rw [hok];rfl,trivial⟩) ?_;cases ok with
   | false =>
    have e:a0y c L (k+1)=a0y c L k:=by rw [hS,hrc,if_neg (by rintro ⟨_,h⟩;cases h)];simp
    refine aC rfl (fun h=>by cases h) (fun _=>aK ?_);refine aR ?_;refine nc zu (nc zl ?_);refine ⟨hkl,a7 ⟨rfl,?_,rfl,rfl,rfl,rfl,trivial⟩⟩;rw [e];rfl
   | true =>
    have e:a0y c L (k+1)=a0y c L k++[(I8 c n).map (Lt.rep (mgS x.a x.b))]:=by rw [hS,hrc,if_pos ⟨hng,rfl⟩];rfl
    have hol:=a1l hn;refine aC rfl (fun _=>?_) (fun h=>by cases h);refine aR ?_;refine nc zl (nc zl (nc zl (nc zl (nc (zw (z:=a2t w c n hn (by omega))) (nc (zw (z:=a0r w hxt.1 hxt.2 (I8 c n) (by omega) (a7H (a4d hc n)))) (nc zD (nc zE (nc ze ?_))))))));refine aR ?_;refine nc zu (nc zl ?_);refine ⟨hkl,(a7 (s':=[(0,.val (.lst (c.map Lt.cv))),(3,.own (.lst ((a0y c L (k+1)).map clC)) 300043),(300043,.tok 26 1),(9,.val (.lst (L.map CV.i))),(10,.val (.i (L.map CV.i).length)),(11,.val (.i ((k+1:Nat):Int)))]) ⟨rfl,?_,rfl,rfl,rfl,rfl,trivial⟩).trans (A3 300043 200043 rfl rfl rfl rfl)⟩;show some (AV.own (.lst _) _)=some (AV.own (.lst _) _);rw [e,map_append (f:=clC)];rfl
 ·have hkl:k=L.length:=by
   have:¬ k<L.length:=by simpa using hlt
   omega
  subst hkl;refine aE ?_;refine aS (aR ?_);refine nc zl (nc ze ?_);exact aT (And.intro (.inr rfl) rfl)
noncomputable def a0I (c:List Lt) (L:List Int) (k:Nat):List (List Lt):=(L.take k).flatMap fun z=>a7C c z.toNat
theorem b3q {c:List Lt} {L:List Int} {k:Nat} {n:Nat} (h:L[k]?=some (n:Int)):a0I c L (k+1)=a0I c L k++a7C c n:=by
 unfold a0I;rw [List.take_add_one,h,List.flatMap_append];simp
noncomputable def a2P (c:List Lt) (l:Lt) (n m:Nat):List (List Lt):=(List.range m).flatMap fun j=>a7R c l n j
theorem a5O (c:List Lt) (l:Lt) (n m:Nat):a2P c l n (m+1)=a2P c l n m++a7R c l n m:=by
 unfold a2P;rw [List.range_succ,List.flatMap_append];simp
theorem b5V (c:List Lt) (l:Lt) (n m:Nat):(a7R c l n m).length<=4:=by
 unfold a7R;split
 ·split
  ·exact a1d _ _ _
  ·exact Nat.zero_le _
 ·exact Nat.zero_le _
theorem a4Q (c:List Lt) (l:Lt) (n:Nat):∀ m,(a2P c l n m).length<=4*m
 | 0=>Nat.le_refl _
 | m+1=>by
  have h1:=a4Q c l n m;have h2:=b5V c l n m;rw [a5O,length_append];omega
theorem b6B (c:List Lt) (n:Nat):(a7C c n).length<=4*c.length:=by
 unfold a7C;split
 ·split
  ·exact Nat.zero_le _
  ·exact a4Q c _ n c.length
 ·exact Nat.zero_le _
theorem a4J (c:List Lt):∀ (L:List Int) (k:Nat),(a0I c L k).length<=4*c.length*k
 | L,0=>by simp [a0I]
 | [],k+1=>by simp [a0I]
 | z::L,k+1=>by
  have h1:=a4J c L k;have h2:=b6B c z.toNat;have e:a0I c (z::L) (k+1)=a7C c z.toNat++a0I c L k:=by unfold a0I;rw [List.take_succ_cons,flatMap_cons]
  rw [e,length_append,Nat.mul_add,Nat.mul_one];omega
set_option maxHeartbeats 8000000 in
theorem U9 (W:World) (c:List Lt) (hl:c.length<=100) (hc:∀ l∈c,l.ten):AFun Tryz.prog W 14 [.lst (c.map Lt.cv)] (.val (.lst ((U6 c).map clC))):=by
 have hsz:=Lt.size_all c;have hLk:=fun w=>a6c w c (by omega) (a9Q hc);have hLat:∀ z∈I2 c,0<=z/\z<c.length:=fun z hz=>a8i hz;have hLl:(I2 c).length<=101:=by have:=a7b c;omega
 have hres:U6 c=a0I c (I2 c) (I2 c).length:=by unfold U6 a0I;rw [take_length]
 rw [hres];obtain ⟨L,hL⟩:∃ L,L=I2 c:=⟨_,rfl⟩
 rw [<-hL] at hLk hLat hLl |-;have hszL:=q9 L;have hclm:(c.map Lt.cv).length=c.length:=length_map ..;refine b9 (rs:=[.lst ((a0I c L L.length).map clC)]) Tryz.func14 Tryz.ntmps14 rfl rfl rfl rfl ?_;intro w U hW;refine aS (aR ?_);refine nc ze ?_;refine aS (aR ?_);refine nc ze ?_;refine aS (aS (aR ?_));refine nc zl (nc (zw (z:=hLk w)) (nc zp (nc zl ?_)))
 let st:Nat->AS:=fun k=>[(0,.val (.lst (c.map Lt.cv))),(3,.own (.lst ((a0I c L k).map clC)) 200047),(200047,.tok 26 1),(10,.val (.lst (L.map CV.i))),(11,.val (.i (L.map CV.i).length)),(12,.val (.i k))]
 refine aB (p6 L.length st ((K5 3 200047 26 1 rfl rfl rfl rfl rfl rfl rfl).trans (a7 ⟨rfl,rfl,rfl,rfl,rfl,rfl,trivial⟩)) ?_);intro k hk;refine aS (aR ?_);refine nc zi ?_;refine aS (aC rfl (fun hlt=>?_) (fun hlt=>?_))
 ·have hkl:k<L.length:=by simpa using hlt
  obtain ⟨z,hz⟩:∃ z,L[k]?=some z:=⟨L[k],getElem?_eq_getElem hkl⟩
  obtain ⟨hz0,hz1⟩:=hLat z (mem_of_getElem? hz);obtain ⟨n,rfl⟩:∃ n:Nat,z=(n:Int):=⟨z.toNat,by omega⟩
  have hz':=b7q hz;have hn:n<c.length:=by omega
  obtain ⟨x,hx⟩:∃ x,c[n]?=some x:=⟨c[n],getElem?_eq_getElem hn⟩
  have hx':=Lt.map_at hx;have hxt:=hc x (mem_of_getElem? hx);have hS:=b3q (c:=c) hz;have hfl:a7C c n=if x.neg=true then [] else a2P c x n c.length:=by unfold a7C a2P;rw [hx]
  obtain ⟨A,hA⟩:∃ A,A=a0I c L k:=⟨_,rfl⟩
  have hAl:A.length<=40400:=by
   have h1:=a4J c L k;have h2:4*c.length*k<=400*101:=Nat.mul_le_mul (by omega) (by omega);rw [hA];omega
  rw [<-hA] at hS;refine aK ?_;refine aS (aB (aS (aR ?_)));refine nc (zq (j:=k) (H:=hz') (hz:=hszL)) (nc zr (nc ze ?_));refine aS (aS (aR ?_));refine nc zl (nc zl (nc (zq (j:=n) (H:=hx') (hz:=hsz)) (nc zbM (nc zr ?_))));refine AWp.wk (a7 (s':=[(0,.val (.lst (c.map Lt.cv))),(3,.own (.lst (A.map clC)) 200047),(200047,.tok 26 1),(10,.val (.lst (L.map CV.i))),(11,.val (.i (L.map CV.i).length)),(12,.val (.i k)),(5,.val (.i (n:Int))),(20,.val (.b x.neg))]) ⟨rfl,by rw [hA];rfl,rfl,rfl,rfl,rfl,rfl,rfl,trivial⟩) ?_;refine aC rfl (fun hb=>?_) (fun hb=>?_)
  ·have hb:x.neg=true:=hb;have e:a0I c L (k+1)=A:=by rw [hS,hfl,if_pos hb,append_nil]
   refine aE ?_;refine aR ?_;refine nc zu (nc zl ?_);refine ⟨hkl,a7 ⟨rfl,?_,rfl,rfl,rfl,rfl,trivial⟩⟩;rw [e];rfl
  ·have hb:x.neg=false:=hb;have e:a0I c L (k+1)=A++a2P c x n c.length:=by rw [hS,hfl,if_neg (by rw [hb];decide)]
   have hol:=a1l hn;refine aK ?_;refine aS (aR ?_);refine nc zl (nc zl (nc (zw (z:=a2t w c n hn (by omega))) (nc ze ?_)));refine aS (aR ?_);refine nc zl (nc zp (nc zl ?_))
   let st2:Nat->AS:=fun m=>[(0,.val (.lst (c.map Lt.cv))),(3,.own (.lst ((A++a2P c x n m).map clC)) 200047),(200047,.tok 26 1),(10,.val (.lst (L.map CV.i))),(11,.val (.i (L.map CV.i).length)),(12,.val (.i k)),(5,.val (.i (n:Int))),(6,.val (.lst ((I8 c n).map Lt.cv))),(24,.val (.lst (c.map Lt.cv))),(25,.val (.i (c.map Lt.cv).length)),(26,.val (.i m))]
   refine aB (p6 c.length st2 (a7 ⟨rfl,by show some (AV.own (.lst _) _)=some (AV.own (.lst _) _);rw [show a2P c x n 0=[] from rfl,append_nil],rfl,rfl,rfl,rfl,rfl,rfl,rfl,rfl,rfl,trivial⟩) ?_);intro m hm;refine aS (aR ?_);refine nc zi ?_;refine aS (aC rfl (fun hlt2=>?_) (fun hlt2=>?_))
   ·have hml:m<c.length:=by simpa using hlt2
    obtain ⟨y,hy⟩:∃ y,c[m]?=some y:=⟨c[m],getElem?_eq_getElem hml⟩
    have hy':=Lt.map_at hy;have hyt:=hc y (mem_of_getElem? hy);have hMs:=a5O c x n m;have hfn:a7R c x n m=if m≠n/\y.neg=false then a1B (J6 x) y (I8 c n) else []:=by unfold a7R;rw [hy]
    obtain ⟨B,hB⟩:∃ B,B=A++a2P c x n m:=⟨_,rfl⟩
    have hBl:B.length<=50000:=by
     have:=a4Q c x n m;rw [hB,length_append];omega
    have hMs':A++a2P c x n (m+1)=B++a7R c x n m:=by rw [hMs,hB,List.append_assoc]
    have hBm:(B.map clC).length<=50000:=by rw [length_map];exact hBl
    have hszB:=J1 B;have hszO:=J1 (a1B (J6 x) y (I8 c n));have hOl:((a1B (J6 x) y (I8 c n)).map clC).length<=4:=by rw [length_map];exact a1d _ _ _
    refine aK ?_;refine aS (aB (aS (aR ?_)));refine nc zl (nc (zq (j:=m) (H:=hy') (hz:=hsz)) (nc zr (nc (zbP b7k) (nc ze (nc zo ?_)))));refine AWp.wk (a7 (s':=[(0,.val (.lst (c.map Lt.cv))),(3,.own (.lst (B.map clC)) 200047),(200047,.tok 26 1),(10,.val (.lst (L.map CV.i))),(11,.val (.i (L.map CV.i).length)),(12,.val (.i k)),(5,.val (.i (n:Int))),(6,.val (.lst ((I8 c n).map Lt.cv))),(24,.val (.lst (c.map Lt.cv))),(25,.val (.i (c.map Lt.cv).length)),(26,.val (.i m)),(7,.val (.i m)),(8,.bp 8 0 []),(100008,.bx y.cw)]) ⟨rfl,by rw [hB];rfl,rfl,rfl,rfl,rfl,rfl,rfl,rfl,rfl,rfl,rfl,rfl,rfl,trivial⟩) ?_
    have hno:a7R c x n m=[]->∀ s:AS,SubL s [(0,.val (.lst (c.map Lt.cv))),(3,.own (.lst (B.map clC)) 200047),(200047,.tok 26 1),(10,.val (.lst (L.map CV.i))),(11,.val (.i (L.map CV.i).length)),(12,.val (.i k)),(5,.val (.i (n:Int))),(6,.val (.lst ((I8 c n).map Lt.cv))),(24,.val (.lst (c.map Lt.cv))),(25,.val (.i (c.map Lt.cv).length)),(26,.val (.i ((m+1:Nat):Int)))]->SubL s (st2 (m+1)):=fun h s hs=>by
     have e2:A++a2P c x n (m+1)=B:=by rw [hMs',h,append_nil]
     show SubL s [(0,.val (.lst (c.map Lt.cv))),(3,.own (.lst ((A++a2P c x n (m+1)).map clC)) 200047),(200047,.tok 26 1),(10,.val (.lst (L.map CV.i))),(11,.val (.i (L.map CV.i).length)),(12,.val (.i k)),(5,.val (.i (n:Int))),(6,.val (.lst ((I8 c n).map Lt.cv))),(24,.val (.lst (c.map Lt.cv))),(25,.val (.i (c.map Lt.cv).length)),(26,.val (.i ((m+1:Nat):Int)))];rw [e2];exact hs
    by_cases hmn:m=n
    ·have g:decide ((m:Int)=(n:Int))=true:=decide_eq_true (by omega);have g2:decide ((m:Int)≠(n:Int))=false:=decide_eq_false (by omega);refine aS (aR ?_);refine nc zl (nc zl (nc zba (nc zl (nc zR (nc zR (nc zR (nc zS ?_)))))));refine aC rfl (fun h=>by cases h) (fun _=>aK ?_);refine aR ?_;refine nc zu (nc zl ?_);exact ⟨hml,a7 (hno (by rw [hfn,if_neg (fun h=>h.1 hmn)]) _ ⟨rfl,rfl,rfl,rfl,rfl,rfl,rfl,rfl,rfl,rfl,rfl,trivial⟩)⟩
    ·have g:decide ((m:Int)=(n:Int))=false:=decide_eq_false (by omega);have g2:decide ((m:Int)≠(n:Int))=true:=decide_eq_true (by omega);refine aS (aR ?_);refine nc zl (nc zl (nc zba (nc zl (nc (zg (r:=gb)) (nc (zh (r:=gb)) (nc (z0 (r:=gb)) (nc zP ?_)))))));refine aC rfl (fun hq=>?_) (fun hq=>?_)
     ·have hq:(!y.neg)=true:=hq;have hyn:y.neg=false:=by simpa using hq
      have e2:A++a2P c x n (m+1)=B++a1B (J6 x) y (I8 c n):=by rw [hMs',hfn,if_pos ⟨hmn,hyn⟩]
      refine aD (by kernel_rfl) (by kernel_rfl) ?_;refine nc zl (nc zl (nc zl (nc (zq (j:=n) (H:=hx') (hz:=hsz)) (nc zr (nc zy (nc zl (nc (zw (z:=a6F w x y (I8 c n) hxt hyt (a4d hc n) (by omega))) (nc zE (nc ze ?_)))))))));refine ⟨by kernel_rfl,?_⟩;refine aR ?_;refine nc zu (nc zl ?_);refine ⟨hml,(a7 (s':=[(0,.val (.lst (c.map Lt.cv))),(3,.own (.lst ((A++a2P c x n (m+1)).map clC)) 300047),(300047,.tok 26 1),(10,.val (.lst (L.map CV.i))),(11,.val (.i (L.map CV.i).length)),(12,.val (.i k)),(5,.val (.i (n:Int))),(6,.val (.lst ((I8 c n).map Lt.cv))),(24,.val (.lst (c.map Lt.cv))),(25,.val (.i (c.map Lt.cv).length)),(26,.val (.i ((m+1:Nat):Int)))]) ⟨rfl,?_,rfl,rfl,rfl,rfl,rfl,rfl,rfl,rfl,rfl,trivial⟩).trans (A3 300047 200047 rfl rfl rfl rfl)⟩;show some (AV.own (.lst _) _)=some (AV.own (.lst _) _);rw [e2,map_append (f:=clC)]
     ·have hq:(!y.neg)=false:=hq;have hyn:y.neg=true:=by simpa using hq
      refine aK ?_;refine aR ?_;refine nc zu (nc zl ?_);exact ⟨hml,a7 (hno (by rw [hfn,if_neg (fun h=>by rw [hyn] at h;cases h.2)]) _ ⟨rfl,rfl,rfl,rfl,rfl,rfl,rfl,rfl,rfl,rfl,rfl,trivial⟩)⟩
   ·have hml:m=c.length:=by
     have:¬ m<c.length:=by simpa using hlt2
     omega
    subst hml;refine aE ?_;refine aR ?_;refine nc zu (nc zl ?_);refine ⟨hkl,a7 ⟨rfl,?_,rfl,rfl,rfl,rfl,trivial⟩⟩;rw [e];rfl
 ·have hkl:k=L.length:=by
   have:¬ k<L.length:=by simpa using hlt
   omega
  subst hkl;refine aE ?_;refine aS (aR ?_);refine nc zl (nc ze ?_);exact aT (And.intro (.inr rfl) rfl)
def c4j (a b:Tm) (d:List Bd):Prop:=(∀ W,AFun Tryz.prog W 30 [.lst [a.cw],.lst [b.cw]] (.tup [.lst (d.map Bd.cv),.b (mgT a b).2]))/\d.length<=1000000/\(∀ x∈d,x.t.rng/\x.t.ok)/\d.map Bd.strip=(mgT a b).1.map Bd.strip
noncomputable def dT (a b:Tm):List Bd:=open Classical in if h:∃ d,c4j a b d then Classical.choose h else []
def c4S (c:List Lt) (i:Int) (k:Nat):List Lt:=(List.range k).filterMap fun j:Nat=>if (j:Int)=i then none else c[j]?
noncomputable def c2z (c:List Lt) (i:Nat):Option (List Lt):=match c[i]? with
 | some x=>if x.neg=true/\(mgT x.a x.b).2=true/\(i:Int)∈I2 c then some ((I8 c i).map (c1O (dT x.a x.b))) else none
 | none=>none
noncomputable def c5u (c:List Lt) (k:Nat):List (List Lt):=(List.range k).filterMap (c2z c)
def sdT (l:Lt) (n:Nat):Tm:=if n=0 then l.a else l.b
noncomputable def c3b (c:List Lt) (i j p q:Nat):Option (List Lt):=match c[i]?,c[j]? with
 | some x,some y =>
  if i=j\/x.neg=true\/y.neg=true\/(i:Int)∉I2 c then none
  else if (mgT (sdT x p) (sdT y q)).2=true/\a1i (a8 (mgS (sdT x p) (sdT y q)) (sdT x p)) (a8 (mgS (sdT x p) (sdT y q)) (sdT x (1-p)))=true then some ((I8 c i++[(⟨true,sdT x (1-p),sdT y (1-q)⟩:Lt)]).map (c1O (dT (sdT x p) (sdT y q))))
  else none
 | _,_=>none
noncomputable def c2K (c:List Lt) (N:Nat):Option (List Lt):=c3b c (N / 4 / c.length) (N / 4 % c.length) (N / 2 % 2) (N % 2)
noncomputable def c5w (c:List Lt) (k:Nat):List (List Lt):=(List.range k).filterMap (c2K c)
def stC (L:List (List Lt)):List (List Lt):=L.map (List.map Lt.strip)
theorem b9s {L:List Bd} (h:∀ b∈L,∃ u,b.t=l9 u) (v:Int):∃ u,c9 L v=l9 u:=by
 unfold c9;cases hf:b7 L v with
 | none=>exact ⟨v,rfl⟩
 | some t =>
  have:∃ b∈L,b.t=t:=by
   clear h
   induction L with
   | nil=>cases hf
   | cons b L ih =>
    unfold b7 at hf;split at hf
    ·exact ⟨b,by simp,by injection hf⟩
    ·obtain ⟨x,hx,e⟩:=ih hf;exact ⟨x,List.mem_cons_of_mem _ hx,e⟩
  obtain ⟨b,hb,rfl⟩:=this;obtain ⟨u,e⟩:=h b hb;exact ⟨u,e⟩
theorem b3X {img:Int->Tm} (h:∀ v,∃ u,img v=l9 u) (t:Tm):(a8 img t).size=t.size:=by
 have:=a1Q img t;have e:(t.vs.map fun v=>(((img v).size:Nat):Int)-1).sum=0:=by
  generalize t.vs=l
  induction l with
  | nil=>rfl
  | cons v l ih =>
   obtain ⟨u,hu⟩:=h v;rw [map_cons,List.sum_cons,ih,hu,K6];rfl
 rw [e] at this;omega
theorem okCl.rep {c:List Lt} (hn:okCl c) {L:List Bd} (hL:∀ b∈L,∃ u,b.t=l9 u/\0<=u/\u<=24001):okCl (c.map (Lt.rep (c9 L))):=by
 refine ⟨by rw [length_map];exact hn.1,fun l hl=>?_⟩;obtain ⟨x,hx,rfl⟩:=mem_map.1 hl;have hv:∀ v,∃ u,c9 L v=l9 u:=b9s fun b hb=>by obtain ⟨u,e,_⟩:=hL b hb;exact ⟨u,e⟩
 have hb:bdsOk L:=fun b hb=>by
  obtain ⟨u,e,h1,h2⟩:=hL b hb;rw [e];exact ⟨X4 h1 (by omega),by rw [K6];omega⟩
 have key:∀ t:Tm,(t.rng/\t.ok/\t.size<=1000)->((a8 (c9 L) t).rng/\(a8 (c9 L) t).ok/\(a8 (c9 L) t).size<=1000):=fun t ht=>by
  refine ⟨a1q ht.1 fun v h1 h2=>(a1H hb h1 h2).1,a7G ht.2.1 fun v=>?_,by rw [b3X hv];exact ht.2.2⟩;obtain ⟨u,hu⟩:=hv v;rw [hu];exact a7O u
 exact ⟨key _ (hn.2 x hx).1,key _ (hn.2 x hx).2⟩
def snL (c:List Lt):List Sn:=c.map fun l=>c3h l (lkL l)
def alk (x y:Lt):Prop:=(x.a.strip=y.a.strip/\x.b.strip=y.b.strip)\/(x.a.strip=y.b.strip/\x.b.strip=y.a.strip)
def TautQ (c:List Lt):Prop:=(∃ l∈c,l.neg=false/\l.a.strip=l.b.strip)\/∃ x∈c,∃ y∈c,x.neg≠y.neg/\alk x y
def c3T (x y:Lt):Bool:=(x.neg&&!y.neg)&&(b4H x ⟨true,y.a,y.b⟩||b4H x ⟨true,y.b,y.a⟩)
def ttD (c:List Lt):Bool:=c.any fun x=>(!x.neg&&s8 x.a x.b)||c.any (c3T x)
theorem TautQ.rep {c:List Lt} (h:TautQ c) (img:Int->Tm):TautQ (c.map (Lt.rep img)):=by
 have key:∀ s t:Tm,s.strip=t.strip->(a8 img s).strip=(a8 img t).strip:=fun s t e=>by
  rw [<-C1 img s,<-C1 img t,e]
 rcases h with ⟨l,hl,hn,he⟩ | ⟨x,hx,y,hy,hn,he⟩
 ·exact .inl ⟨_,List.mem_map_of_mem hl,hn,key _ _ he⟩
 ·refine .inr ⟨_,List.mem_map_of_mem hx,_,List.mem_map_of_mem hy,hn,?_⟩;rcases he with ⟨p,q⟩ | ⟨p,q⟩
  ·exact .inl ⟨key _ _ p,key _ _ q⟩
  ·exact .inr ⟨key _ _ p,key _ _ q⟩
def c4V (t:Tm):Tm:=n5 (a3Y t.nv ((b7b t.nv.length).map fun _=>0)) t
def okL (l:Lt):Prop:=(l.a.rng/\l.a.ok/\l.a.size<=1000)/\(l.b.rng/\l.b.ok/\l.b.size<=1000)
abbrev sv (l:List UInt8):CV := .sc (.string ⟨l.toArray⟩)
section
variable {P:Program} {w0:World} {U0:UX} {nt:Nat} {ops:Array Oper} {o:Oper} {S:Nat->Option AV} {gs:List Nat} {d:Nat}
end
section
variable {P:Program} {w0:World} {U0:UX} {nt:Nat} {ops:Array Oper} {o:Oper} {S:Nat->Option AV} {gs:List Nat} {d:Nat}
end
theorem a8d {A:List (List Lt)} {k:Nat} {x:List Lt} (h:A[k]?=some x):(A.map clC)[k]?=some (.lst (x.map Lt.cv)):=by rw [getElem?_map,h];rfl
def fa5:Tm:=⟨2,[⟨1,[]⟩]⟩
def vx5:Tm:=⟨-1,[]⟩
def px5:Tm:=⟨3,[⟨-1,[]⟩]⟩
def tt5:Tm:=⟨0,[]⟩
def cl5:List Lt:=[⟨true,vx5,fa5⟩,⟨false,px5,tt5⟩]
theorem c0A {t:Tm} (h1:t.rng) (h2:t.ok) (h3:t.size<=10):t.ten:=⟨⟨h1,h2⟩,h3⟩
theorem b1Q:fa5.ten:=c0A (by simp [fa5,Tm.rng]) (by simp [fa5,Tm.ok]) (by simp [fa5,Tm.size,Tm.flat])
theorem b2z:vx5.ten:=c0A (by simp [vx5,Tm.rng]) (by simp [vx5,Tm.ok]) (by simp [vx5,Tm.size,Tm.flat])
theorem b9A:px5.ten:=c0A (by simp [px5,Tm.rng]) (by simp [px5,Tm.ok]) (by simp [px5,Tm.size,Tm.flat])
theorem b9m:tt5.ten:=c0A (by simp [tt5,Tm.rng]) (by simp [tt5,Tm.ok]) (by simp [tt5,Tm.size,Tm.flat])
theorem b9p:∀ l∈cl5,l.ten:=fun l hl=>by
 simp only [cl5,List.mem_cons,List.not_mem_nil,or_false] at hl;rcases hl with rfl | rfl
 ·exact ⟨b2z,b1Q⟩
 ·exact ⟨b9A,b9m⟩
theorem mg5:(mgT vx5 fa5).2=true/\mgS vx5 fa5 0=fa5:=by
 have hT:=T8 b2z b1Q;have hfr:∀ σ:Int->Tm,a8 σ fa5=fa5:=fun σ=>by simp [fa5,a8]
 have hvr:∀ σ:Int->Tm,a8 σ vx5=(σ 0).strip:=fun σ=>by simp [vx5,a8]
 have hfs:fa5.strip=fa5:=by simp [fa5,Tm.strip]
 have h2:(mgT vx5 fa5).2=true:=by
  cases h:(mgT vx5 fa5).2 with
  | true=>rfl
  | false =>
   exfalso;refine (hT.no h).2 (fun _=>fa5) ?_;rw [C9,hfr,hvr,hfs]
 refine ⟨h2,?_⟩;have hm:=hT.yes h2;have hu:=hm.uni;rw [C9,hfr,hvr,hm.bare 0 (by omega)] at hu;exact hu
theorem hv5:I2 cl5=[0]:=by
 have h:hvK cl5 2=(0,wtL ⟨true,vx5,fa5⟩):=by
  have h1:hvK cl5 1=(0,wtL ⟨true,vx5,fa5⟩):=by
   unfold hvK;show (if (⟨true,vx5,fa5⟩:Lt).neg=true/\(hvK cl5 0).2<wtL ⟨true,vx5,fa5⟩ then _ else _)=_;rw [if_pos ⟨rfl,b9d _⟩];rfl
  unfold hvK;show (if (⟨false,px5,tt5⟩:Lt).neg=true/\_ then _ else hvK cl5 1)=_;rw [if_neg (by intro h;cases h.1),h1]
 unfold I2;show (if (hvK cl5 2).1>=0 then _ else _)=_;rw [h,if_pos (by decide)];show [(hvK cl5 2).1]=[0];rw [h]
theorem c4i:E7 cl5=[[⟨false,⟨3,[fa5]⟩,tt5⟩]]:=by
 obtain ⟨h1,h2⟩:=mg5;unfold E7;rw [hv5];have h3:b1h cl5 (0:Int).toNat=some [⟨false,⟨3,[fa5]⟩,tt5⟩]:=by
  unfold b1h;show (if (⟨true,vx5,fa5⟩:Lt).neg=true/\(mgT vx5 fa5).2=true then some ((I8 cl5 0).map (Lt.rep (mgS vx5 fa5))) else none)=_;rw [if_pos ⟨rfl,h1⟩];have e:I8 cl5 0=[⟨false,px5,tt5⟩]:=rfl;rw [e];have e2:a8 (mgS vx5 fa5) px5=⟨3,[fa5]⟩:=by
   simp [px5,a8,h2];simp [fa5,Tm.strip]
  have e3:a8 (mgS vx5 fa5) tt5=tt5:=by simp [tt5,a8]
  simp only [map_cons,List.map_nil,Lt.rep,e2,e3]
 rw [List.filterMap_cons];simp only [h3];rfl
set_option maxHeartbeats 2000000 in
theorem a8C (W:World):AFun Tryz.prog W 7 [] (.val (.b true)):=by
 have hR:=fun w=>a1v w cl5 (by simp [cl5]) b9p;rw [c4i] at hR;have hc5:cl5.map Lt.cv=[.row [.b true,.row [.i (-1),.lst []],.row [.i 2,.lst [.row [.i 1,.lst []]]]],.row [.b false,.row [.i 3,.lst [.row [.i (-1),.lst []]]],.row [.i 0,.lst []]]]:=by simp [cl5,vx5,fa5,px5,tt5,Lt.cv,Tm.cv_eq]
 have hr5:([[⟨false,⟨3,[fa5]⟩,tt5⟩]]:List (List Lt)).map clC=[.lst [.row [.b false,.row [.i 3,.lst [.row [.i 2,.lst [.row [.i 1,.lst []]]]]],.row [.i 0,.lst []]]]]:=by simp [clC,fa5,tt5,Lt.cv,Tm.cv_eq]
 rw [hc5,hr5] at hR;refine b9 (rs:=[.b true]) Tryz.func7 Tryz.ntmps7 rfl rfl rfl rfl ?_;intro w U hW;refine aS (aR ?_);refine nc ze ?_;refine aS (aR ?_);refine nc zbQ (nc zD (nc zn (nc zk (nc zo ?_))));refine aS (aR ?_);refine nc zbQ (nc zy (nc (zbO b7k) (nc zbQ (nc zD (nc (zbO [.i 0,.lst []]) (nc (zbO b7k) (nc zD (nc (zw (z:=hR w)) (nc ze ?_)))))))));refine aS (aR ?_);refine nc zl (nc zp (nc zt (nc zl (nc (zl (p:=gb)) (nc (zq (j:=0) (r:=gb) (H:=rfl) (hz:=sZ rfl)) (nc (zr (r:=gb)) (nc (zp (r:=gb)) (nc (zt (r:=gb)) (nc zP (nc zl (nc (zl (p:=gb)) (nc (zq (j:=0) (r:=gb) (H:=rfl) (hz:=sZ rfl)) (nc (zr (r:=gb)) (nc (zq (j:=0) (r:=gb) (H:=rfl) (hz:=sZ rfl)) (nc (zbM (r:=gb)) (nc (zbM (r:=gb)) (nc (zr (r:=gb)) (nc (zq (j:=0) (r:=gb) (H:=rfl) (hz:=sZ rfl)) (nc (zbM (r:=gb)) (nc (zr (r:=gb)) (nc (zt (r:=gb)) (nc zP (nc ze ?_)))))))))))))))))))))));exact aT (And.intro (.inr rfl) rfl)
theorem b5e {c:List Lt} {most:Nat} {size:Int} (h0:0<=size) (h1:size<=10) (h:Y4 c most size=true):c.length<=most/\∀ l∈c,l.ten:=by
 obtain ⟨h2,h3⟩:=a2j h0 (by omega) h;refine ⟨h2,fun l hl=>?_⟩;obtain ⟨⟨⟨_,a1,a2⟩,_,a3⟩,⟨⟨_,b1,b2⟩,_,b3⟩⟩:=h3 l hl;exact ⟨⟨⟨a1,a2⟩,by omega⟩,⟨b1,b2⟩,by omega⟩
def Tm.big5 (t:Tm):Prop:=t.rng/\t.ok/\t.size<=29550
def Lt.big5 (l:Lt):Prop:=l.a.big5/\l.b.big5
theorem a9x {a b:Tm} (ha:a.ten) (hb:b.ten) {c:List Lt} (hc:∀ l∈c,l.ten):∀ l∈c.map (Lt.rep (mgS a b)),l.big5:=fun l hl=>by
 obtain ⟨x,hx,rfl⟩:=mem_map.1 hl;exact ⟨b1J ha hb (hc x hx).1,b1J ha hb (hc x hx).2⟩
theorem b2Q {c d:List Lt} (h:d∈E7 c):∃ n x,n<c.length/\(n:Int)∈I2 c/\c[n]?=some x/\x.neg=true/\(mgT x.a x.b).2=true/\d=(I8 c n).map (Lt.rep (mgS x.a x.b)):=by
 obtain ⟨z,hz,he⟩:=List.mem_filterMap.1 h;obtain ⟨h0,h1⟩:=a8i hz;unfold b1h at he;split at he
 ·rename_i x hx;split at he
  ·rename_i hg;exact ⟨z.toNat,x,by omega,by rw [Int.toNat_of_nonneg h0];exact hz,hx,hg.1,hg.2,(Option.some.inj he).symm⟩
  ·cases he
 ·cases he
theorem b2w {c d:List Lt} (hc:∀ l∈c,l.ten) (h:d∈E7 c):d.length+1=c.length/\∀ l∈d,l.big5:=by
 obtain ⟨n,x,hn,_,hx,_,_,rfl⟩:=b2Q h;have hxt:=hc x (mem_of_getElem? hx);exact ⟨by rw [length_map];exact a1l hn,a9x hxt.1 hxt.2 (a4d hc n)⟩
theorem b8M {c d:List Lt} (hc:∀ l∈c,l.ten) (h:d∈U6 c):∃ (n:Nat) (p q:Tm×Tm),n<c.length/\(p.1.ten/\p.2.ten)/\(q.1.ten/\q.2.ten)/\(mgT p.1 q.1).2=true/\d=(I8 c n++[(⟨true,p.2,q.2⟩:Lt)]).map (Lt.rep (mgS p.1 q.1)):=by
 obtain ⟨z,hz,he⟩:=mem_flatMap.1 h;obtain ⟨h0,h1⟩:=a8i hz;unfold a7C at he;split at he
 ·rename_i x hx;split at he
  ·cases he
  ·obtain ⟨m,hm,he⟩:=mem_flatMap.1 he;unfold a7R at he;split at he
   ·rename_i y hy;split at he
    ·obtain ⟨p,hp,he⟩:=mem_flatMap.1 he;obtain ⟨q,hq,he⟩:=List.mem_filterMap.1 he;unfold a7k at he;split at he
     ·rename_i hg;exact ⟨z.toNat,p,q,by omega,a3W (hc x (mem_of_getElem? hx)) p hp,a3W (hc y (mem_of_getElem? hy)) q hq,hg.1,(Option.some.inj he).symm⟩
     ·cases he
    ·cases he
   ·cases he
 ·cases he
theorem b2n {c d:List Lt} (hc:∀ l∈c,l.ten) (h:d∈U6 c):d.length=c.length/\(∀ l∈d,l.big5)/\∃ l,d[c.length-1]?=some l/\l.neg=true:=by
 obtain ⟨n,p,q,hn,hp,hq,_,rfl⟩:=b8M hc h;have hol:=a1l hn;refine ⟨by rw [length_map,length_append];simp;omega,a9x hp.1 hq.1 fun l hl=>?_,Lt.rep (mgS p.1 q.1) ⟨true,p.2,q.2⟩,?_,rfl⟩
 ·rcases List.mem_append.1 hl with h | h
  ·exact a4d hc n l h
  ·rw [List.mem_singleton] at h;subst h;exact ⟨hp.2,hq.2⟩
 ·rw [getElem?_map,List.getElem?_append_right (by omega),show c.length-1-(I8 c n).length=0 by omega];rfl
theorem b9L (c:List Lt):(U6 c).length<=4*c.length*(c.length+1):=by
 have h:U6 c=a0I c (I2 c) (I2 c).length:=by unfold U6 a0I;rw [take_length]
 rw [h];exact Nat.le_trans (a4J c _ _) (Nat.mul_le_mul_left _ (a7b c))
def c0q (L:List Bd) (v:Int) (t:Tm):Bool×List Bd:=
 match b7 L v with
 | some u=>(s8 u t,L)
 | none=>(true,L++[⟨v,t⟩])
def c0w (r:Bool×List Bd) (k:List Bd->Bool×List Bd):Bool×List Bd:=match r with
 | (true,L)=>k L
 | (false,L)=>(false,L)
noncomputable def mt (p:Tm):Tm->List Bd->Bool×List Bd:=
 Tm.rec (motive_1:=fun _=>Tm->List Bd->Bool×List Bd) (motive_2:=fun _=>List Tm->List Bd->Bool×List Bd)
  (fun f l ih t L=>if f<0 then c0q L (-1-f) t else if f≠t.f\/l.length≠t.l.length then (false,L) else ih t.l L)
  (fun _ L=>(true,L))
  (fun _ _ ih1 ih2 ts L=>match ts with | []=>(true,L) | t::ts=>c0w (ih1 t L) (ih2 ts)) p
noncomputable def mts (ps:List Tm):List Tm->List Bd->Bool×List Bd:=
 Tm.rec_1 (motive_1:=fun _=>Tm->List Bd->Bool×List Bd) (motive_2:=fun _=>List Tm->List Bd->Bool×List Bd)
  (fun f l ih t L=>if f<0 then c0q L (-1-f) t else if f≠t.f\/l.length≠t.l.length then (false,L) else ih t.l L)
  (fun _ L=>(true,L))
  (fun _ _ ih1 ih2 ts L=>match ts with | []=>(true,L) | t::ts=>c0w (ih1 t L) (ih2 ts)) ps
def Grw (L L':List Bd) (n:Nat):Prop:=∃ N,L'=L++N/\N.length<=n
theorem b3V (L N:List Bd) (v:Int):b7 (L++N) v=(b7 L v).or (b7 N v):=by
 induction L with
 | nil=>simp [b7]
 | cons b L ih =>
  rw [List.cons_append,b7,b7];split
  ·rfl
  ·exact ih
def Ext (L:List Bd) (M:Int->Tm):Prop:=∀ v u,b7 L v=some u->(M v).strip=u.strip
theorem c2B {f g:Int} {l m:List Tm} (h:(⟨f,l⟩:Tm)=⟨g,m⟩):f=g/\l=m:=by cases h;exact ⟨rfl,rfl⟩
theorem Grw.some {L L':List Bd} {n:Nat} (h:Grw L L' n) {v:Int} (hv:(b7 L v).isSome):b7 L' v=b7 L v:=by
 obtain ⟨N,e,_⟩:=h;obtain ⟨u,hu⟩:=Option.isSome_iff_exists.1 hv;rw [e,b3V,hu];rfl
theorem b9B {f g:Int->Tm} {t:Tm} (h:a8 f t=a8 g t):∀ v∈t.vs,(f v).strip=(g v).strip:=by
 induction t using Tm.ind with
 | h k l ih =>
  intro v hv;by_cases hk:k<0
  ·rw [i8 hk,i8 hk] at h;rw [Tm.vs_var hk,List.mem_singleton] at hv;rw [hv];exact h
  ·rw [b8 hk,b8 hk] at h;obtain ⟨_,h2⟩:=c2B h;rw [Tm.vs_sym hk,mem_flatMap] at hv;obtain ⟨s,hs,hvs⟩:=hv;exact ih s hs (List.map_inj_left.1 h2 s hs) v hvs
theorem b0o (a b:Tm):a7v a b.strip=a7v a b:=by
 unfold a7v Tm.nv;rw [Tm.strip_vs,Bool.eq_iff_iff,Bool.and_eq_true,Bool.and_eq_true,k9,k9,Tm.strip_strip]
theorem b6o {x y:Tm} {σ τ:Int->Tm} (h1:a8 σ x=y.strip) (h2:a8 τ y=x.strip):a7v x y=true:=by
 have h3:a8 (fun v=>a8 τ (σ v)) x=a8 l9 x:=by rw [<-a1F,h1,C1,h2,a7Y]
 have h4:=b9B h3;have h5:∀ v∈x.vs,(σ v).f<0/\(τ (-1-(σ v).f)).strip=l9 v:=fun v hv=>by
  have h6:=h4 v hv;rw [v8,r9] at h6;have h0:=n9 x v hv;by_cases hf:(σ v).f<0
  ·rw [i8 hf] at h6;exact ⟨hf,h6⟩
  ·rw [b8 hf] at h6;have:=congrArg Tm.f h6;have e:(σ v).f = -1-v:=this;omega
 have h7:y.strip=a8 (fun v=>l9 (-1-(σ v).f)) x:=by
  rw [<-h1];refine b0N fun v hv=>?_;rw [r9,Tm.strip_eq,Tm.ps_of_var (h5 v hv).1];show (⟨(σ v).f,[]⟩:Tm)=⟨-1-(-1-(σ v).f),[]⟩;rw [show -1-(-1-(σ v).f)=(σ v).f by omega]
 rw [<-b0o,h7];refine b8W x _ (fun v hv=>?_) fun a ha b hb e=>?_
 ·have:=(h5 v hv).1;omega
 ·have e1:=(h5 a ha).2;have e2:=(h5 b hb).2;rw [e,e2] at e1;have:=congrArg Tm.f e1;have e3 : -1-b = -1-a:=this;omega
abbrev O8 (n:Int):Int->Tm:=fun v=>l9 (v+n)
theorem a7X (τ:Int->Tm) {n:Int} (hn:0<=n) (t:Tm):a8 τ (a8 (O8 n) t)=a8 (fun v=>τ (v+n)) t:=
 b6t τ (fun v=>v+n) fun v hv=>by have:=n9 t v hv;omega
theorem a3w (τ:Int->Tm) {n:Int} (hn:0<=n) (t:Tm):a8 (fun v=>τ (v-n)) (a8 (O8 n) t)=a8 τ t:=by
 rw [a7X _ hn];exact F5 fun v _=>by show τ (v+n-n)=τ v;rw [show v+n-n=v by omega]
theorem b8t {n:Int} (hn:0<=n) (t:Tm):a8 (fun v=>l9 (v-n)) (a8 (O8 n) t)=t.strip:=by
 rw [a3w l9 hn,a7Y]
theorem a6V {n:Int} (hn:0<=n) (t:Tm):(a8 (O8 n) t).size=t.size:=b4U (g:=fun v=>v+n) fun v hv=>by have:=n9 t v hv;omega
structure Twin (n:Int) (σ σ':Int->Tm):Prop where
 to:∃ α,∀ t:Tm,a8 α (a8 σ t)=a8 σ' (a8 (O8 n) t)
 back:∃ β,∀ t:Tm,a8 β (a8 σ' (a8 (O8 n) t))=a8 σ t
theorem b2m {n:Int} (hn:0<=n) {a b:Tm} (ha:a.ten) (hb:b.ten) (ha':(a8 (O8 n) a).ten) (hb':(a8 (O8 n) b).ten):(mgT (a8 (O8 n) a) (a8 (O8 n) b)).2=(mgT a b).2/\((mgT a b).2=true->Twin n (mgS a b) (mgS (a8 (O8 n) a) (a8 (O8 n) b))):=by
 have hT:=T8 ha hb;have hT':=T8 ha' hb';have up:∀ τ,uni τ [(a,b)]->uni (fun v=>τ (v-n)) [(a8 (O8 n) a,a8 (O8 n) b)]:=fun τ h=>by
  rw [C9] at h |-;rw [a3w τ hn,a3w τ hn,h]
 have dn:∀ τ,uni τ [(a8 (O8 n) a,a8 (O8 n) b)]->uni (fun v=>τ (v+n)) [(a,b)]:=fun τ h=>by
  rw [C9] at h |-;rw [<-a7X τ hn,<-a7X τ hn,h]
 have e:(mgT (a8 (O8 n) a) (a8 (O8 n) b)).2=(mgT a b).2:=by
  cases h:(mgT a b).2 with
  | true =>
   cases h':(mgT (a8 (O8 n) a) (a8 (O8 n) b)).2 with
   | true=>rfl
   | false=>exact absurd (up _ (hT.yes h).uni) ((hT'.no h').2 _)
  | false =>
   cases h':(mgT (a8 (O8 n) a) (a8 (O8 n) b)).2 with
   | false=>rfl
   | true=>exact absurd (dn _ (hT'.yes h').uni) ((hT.no h).2 _)
 refine ⟨e,fun h=>?_⟩;have m:=hT.yes h;have m':=hT'.yes (e.trans h);exact ⟨⟨_,fun t=>by unfold mgS;rw [m.rep (dn _ m'.uni) t,<-a7X _ hn]⟩,⟨_,fun t=>by unfold mgS;rw [m'.rep (up _ m.uni) (a8 (O8 n) t),a3w _ hn]⟩⟩
theorem Twin.vnt {n:Int} {σ σ':Int->Tm} (h:Twin n σ σ') (L:List Lt):b7F (L.map (Lt.rep σ)) ((L.map (Lt.rep (O8 n))).map (Lt.rep σ'))=true:=by
 unfold b7F;rw [Bool.and_eq_true,decide_eq_true_eq,a1D,a1D,a1D];refine ⟨rfl,?_⟩;obtain ⟨α,ha⟩:=h.to;obtain ⟨β,hb⟩:=h.back;rw [<-a7M,<-a7M,<-a7M];exact b6o (σ:=α) (τ:=β) (by rw [ha,v8]) (by rw [hb,v8])
theorem Twin.kb {n:Int} {σ σ':Int->Tm} (h:Twin n σ σ') (x y:Tm):kb (a8 σ' (a8 (O8 n) x)) (a8 σ' (a8 (O8 n) y))=kb (a8 σ x) (a8 σ y):=by
 obtain ⟨α,ha⟩:=h.to;obtain ⟨β,hb⟩:=h.back;by_cases h1:Go.Proofs.YtglmoficcjphaaaGreat.kb (a8 σ x) (a8 σ y)=2
 ·rw [h1];apply Classical.byContradiction;intro h2;have h3:=b7a β h2;rw [hb,hb,h1] at h3;exact h2 h3.symm
 ·have h3:=b7a α h1;rw [ha,ha] at h3;exact h3
theorem a5H (s:Tm) (l:List Tm):cn s (l.map Tm.strip)=cn s l:=by
 unfold cn;rw [List.countP_map];refine List.countP_congr fun z _=>?_;rw [Function.comp_apply,k9,k9,Tm.strip_strip]
theorem c1h {n:Int} (hn:0<=n) (A B:List Tm):a4S (A.map (a8 (O8 n))) (B.map (a8 (O8 n)))=a4S A B:=by
 rw [Bool.eq_iff_iff,a9X,a9X];refine ⟨fun h=>?_,b2Z _⟩;have h1:=b2Z (fun v=>l9 (v-n)) h;have e:∀ L:List Tm,(L.map (a8 (O8 n))).map (a8 fun v=>l9 (v-n))=L.map Tm.strip:=fun L=>by
  rw [List.map_map];exact List.map_congr_left fun t _=>b8t hn t
 rw [e,e] at h1;exact (a5N (fun s=>a5H s A) (fun s=>a5H s B)).1 h1
theorem b7G (n:Int) (l:Lt):F7 (Lt.rep (O8 n) l)=(F7 l).map (a8 (O8 n)):=by
 unfold F7;show (if l.neg=true then _ else _)=_;cases l.neg<;>rfl
theorem c0l {n:Int} (hn:0<=n) (c:List Lt):∀ k,hvK (c.map (Lt.rep (O8 n))) k=hvK c k
 | 0=>rfl
 | k+1=>by
  have ih:=c0l hn c k;have hw:∀ l:Lt,wtL (Lt.rep (O8 n) l)=wtL l:=fun l=>by
   unfold wtL;show (((a8 (O8 n) l.a).size:Nat):Int)+(((a8 (O8 n) l.b).size:Nat):Int)=_;rw [a6V hn,a6V hn]
  unfold hvK;rw [getElem?_map,ih];cases c[k]? with
  | none=>rfl
  | some l =>
   show (if l.neg=true/\(hvK c k).2<wtL (Lt.rep (O8 n) l) then ((k:Int),wtL (Lt.rep (O8 n) l)) else hvK c k)=_;rw [hw]
theorem b7y {n:Int} (hn:0<=n) (c:List Lt):I2 (c.map (Lt.rep (O8 n)))=I2 c:=by
 have hg:∀ i,a2z (c.map (Lt.rep (O8 n))) i=a2z c i:=fun i=>by
  unfold a2z c3j;rw [getElem?_map];cases c[i.toNat]? with
  | none=>rfl
  | some x =>
   simp only [Option.map_some,List.any_map];congr 3;funext l;show a4S (F7 (Lt.rep (O8 n) l)) (F7 (Lt.rep (O8 n) x))=_;rw [b7G,b7G,c1h hn]
 unfold I2 gsK;rw [length_map,c0l hn];simp only [hg]
def VL (A B:List (List Lt)):Prop:=A.length=B.length/\∀ (i:Nat) d e,A[i]?=some d->B[i]?=some e->b7F d e=true
theorem VL.nil:VL [] []:=⟨rfl,fun i d e h=>by cases h⟩
theorem VL.one {d e:List Lt} (h:b7F d e=true):VL [d] [e]:=⟨rfl,fun i d' e' h1 h2=>by
 cases i with
 | zero =>
  simp only [List.getElem?_cons_zero,Option.some.injEq] at h1 h2;rw [<-h1,<-h2];exact h
 | succ i=>simp at h1⟩
theorem VL.app {A B C D:List (List Lt)} (h:VL A B) (g:VL C D):VL (A++C) (B++D):=⟨by rw [length_append,length_append,h.1,g.1],fun i d e h1 h2=>by
 have hl:=h.1;by_cases hi:i<A.length
 ·rw [List.getElem?_append_left hi] at h1;rw [List.getElem?_append_left (by omega)] at h2;exact h.2 i d e h1 h2
 ·rw [List.getElem?_append_right (by omega)] at h1;rw [List.getElem?_append_right (by omega),<-hl] at h2;exact g.2 _ d e h1 h2⟩
theorem VL.flat {α:Type} {f g:α->List (List Lt)}:∀ L:List α,(∀ x∈L,VL (f x) (g x))->VL (L.flatMap f) (L.flatMap g)
 | [],_=>VL.nil
 | x::L,h=>by
  rw [flatMap_cons,flatMap_cons];exact (h x (by simp)).app (VL.flat L fun y hy=>h y (List.mem_cons_of_mem _ hy))
theorem VL.filt {α:Type} {f g:α->Option (List Lt)} (L:List α) (h:∀ x∈L,VL (f x).toList (g x).toList):VL (L.filterMap f) (L.filterMap g):=by
 have e:∀ (f:α->Option (List Lt)) (L:List α),L.filterMap f=L.flatMap fun x=>(f x).toList:=fun f L=>by
  induction L with
  | nil=>rfl
  | cons x L ih =>
   rw [flatMap_cons,<-ih,List.filterMap_cons];cases f x<;>rfl
 rw [e,e];exact VL.flat L h
theorem b7w (img:Int->Tm) (c:List Lt) (k:Nat):I8 (c.map (Lt.rep img)) k=(I8 c k).map (Lt.rep img):=by
 unfold I8;rw [map_append,List.map_take,List.map_drop]
theorem c0R {n:Int} (hn:0<=n) {c:List Lt} (hc:∀ l∈c,l.ten) (hc':∀ l∈c,(Lt.rep (O8 n) l).ten):VL (E7 c) (E7 (c.map (Lt.rep (O8 n)))):=by
 unfold E7;rw [b7y hn];refine VL.filt _ fun z _=>?_;unfold b1h;rw [getElem?_map];cases hx:c[z.toNat]? with
 | none=>exact VL.nil
 | some x =>
  have hm:=mem_of_getElem? hx;obtain ⟨e,ht⟩:=b2m hn (hc x hm).1 (hc x hm).2 (hc' x hm).1 (hc' x hm).2;show VL (Option.toList (if x.neg=true/\(mgT x.a x.b).2=true then some ((I8 c z.toNat).map (Lt.rep (mgS x.a x.b))) else none)) (Option.toList (if x.neg=true/\(mgT (a8 (O8 n) x.a) (a8 (O8 n) x.b)).2=true then some ((I8 (c.map (Lt.rep (O8 n))) z.toNat).map (Lt.rep (mgS (a8 (O8 n) x.a) (a8 (O8 n) x.b)))) else none));rw [e,b7w];by_cases h:x.neg=true/\(mgT x.a x.b).2=true
  ·rw [if_pos h,if_pos h];exact VL.one ((ht h.2).vnt _)
  ·rw [if_neg h,if_neg h];exact VL.nil
def prS (n:Int) (p:Tm×Tm):Tm×Tm:=(a8 (O8 n) p.1,a8 (O8 n) p.2)
theorem b8w {n:Int} (hn:0<=n) {p q:Tm×Tm} (rest:List Lt) (hp:p.1.ten) (hq:q.1.ten) (hp':(prS n p).1.ten) (hq':(prS n q).1.ten):VL (a7k p q rest).toList (a7k (prS n p) (prS n q) (rest.map (Lt.rep (O8 n)))).toList:=by
 obtain ⟨e,ht⟩:=b2m hn hp hq hp' hq';unfold a7k;show VL _ (Option.toList (if (mgT (a8 (O8 n) p.1) (a8 (O8 n) q.1)).2=true/\a1i (a8 (mgS (a8 (O8 n) p.1) (a8 (O8 n) q.1)) (a8 (O8 n) p.1)) (a8 (mgS (a8 (O8 n) p.1) (a8 (O8 n) q.1)) (a8 (O8 n) p.2))=true then some ((rest.map (Lt.rep (O8 n))++[(⟨true,p.2,q.2⟩:Lt)].map (Lt.rep (O8 n))).map (Lt.rep (mgS (a8 (O8 n) p.1) (a8 (O8 n) q.1)))) else none));rw [e,<-map_append];by_cases h:(mgT p.1 q.1).2=true
 ·have hw:=ht h;have hl:a1i (a8 (mgS (a8 (O8 n) p.1) (a8 (O8 n) q.1)) (a8 (O8 n) p.1)) (a8 (mgS (a8 (O8 n) p.1) (a8 (O8 n) q.1)) (a8 (O8 n) p.2))=a1i (a8 (mgS p.1 q.1) p.1) (a8 (mgS p.1 q.1) p.2):=by
   unfold a1i;rw [hw.kb]
  rw [hl];by_cases h2:(mgT p.1 q.1).2=true/\a1i (a8 (mgS p.1 q.1) p.1) (a8 (mgS p.1 q.1) p.2)=true
  ·rw [if_pos h2,if_pos h2];exact VL.one (hw.vnt _)
  ·rw [if_neg h2,if_neg h2];exact VL.nil
 ·rw [if_neg fun k=>h k.1,if_neg fun k=>h k.1];exact VL.nil
theorem b7p (n:Int) (l:Lt):J6 (Lt.rep (O8 n) l)=(J6 l).map (prS n):=rfl
theorem a2Y {n:Int} {l:Lt} (h:l.ten) (h':(Lt.rep (O8 n) l).ten):∀ p∈J6 l,p.1.ten/\(prS n p).1.ten:=fun p hp=>by
 simp only [J6,List.mem_cons,List.not_mem_nil,or_false] at hp;rcases hp with rfl | rfl
 ·exact ⟨h.1,h'.1⟩
 ·exact ⟨h.2,h'.2⟩
theorem c1k {n:Int} (hn:0<=n) {c:List Lt} (hc:∀ l∈c,l.ten) (hc':∀ l∈c,(Lt.rep (O8 n) l).ten):VL (U6 c) (U6 (c.map (Lt.rep (O8 n)))):=by
 unfold U6;rw [b7y hn];refine VL.flat _ fun z _=>?_;unfold a7C;rw [getElem?_map,length_map];cases hx:c[z.toNat]? with
 | none=>exact VL.nil
 | some x =>
  have hm:=mem_of_getElem? hx;show VL (if x.neg=true then [] else _) (if x.neg=true then [] else _);by_cases h:x.neg=true
  ·rw [if_pos h,if_pos h];exact VL.nil
  ·rw [if_neg h,if_neg h];refine VL.flat _ fun m _=>?_;unfold a7R;rw [getElem?_map];cases hy:c[m]? with
   | none=>exact VL.nil
   | some o =>
    have hmo:=mem_of_getElem? hy;show VL (if m≠z.toNat/\o.neg=false then _ else []) (if m≠z.toNat/\o.neg=false then _ else []);by_cases h2:m≠z.toNat/\o.neg=false
    ·rw [if_pos h2,if_pos h2,b7p,b7w];unfold a1B;rw [List.flatMap_map];refine VL.flat _ fun p hp=>?_;unfold a8T;rw [b7p,List.filterMap_map];refine VL.filt _ fun q hq=>?_;have hp2:=a2Y (hc x hm) (hc' x hm) p hp;have hq2:=a2Y (hc o hmo) (hc' o hmo) q hq;exact b8w hn _ hp2.1 hq2.1 hp2.2 hq2.2
    ·rw [if_neg h2,if_neg h2];exact VL.nil
theorem b6V (c:List Lt):∀ k,k<=c.length->(0<=(hvK c k).1->∃ x,c[(hvK c k).1.toNat]?=some x/\x.neg=true)/\((hvK c k).1<0->(hvK c k).2=0/\∀ j,j<k->∀ x,c[j]?=some x->x.neg=false)
 | 0,_=>⟨fun h=>absurd h (by show ¬ (0:Int) <= -1;decide),fun _=>⟨rfl,fun j hj=>absurd hj (by omega)⟩⟩
 | k+1,hk=>by
  obtain ⟨h1,h2⟩:=b6V c k (by omega);obtain ⟨x,hx⟩:∃ x,c[k]?=some x:=⟨c[k],getElem?_eq_getElem (by omega)⟩
  have e:hvK c (k+1)=if x.neg=true/\(hvK c k).2<wtL x then ((k:Int),wtL x) else hvK c k:=by conv=>lhs;unfold hvK;rw [hx]
  rw [e];by_cases h:x.neg=true/\(hvK c k).2<wtL x
  ·rw [if_pos h];exact ⟨fun _=>⟨x,by rw [Int.toNat_natCast];exact hx,h.1⟩,fun hl=>by
    have:(k:Int)<0:=hl;omega⟩
  ·rw [if_neg h];refine ⟨h1,fun hl=>⟨(h2 hl).1,fun j hj y hy=>?_⟩⟩;obtain ⟨h3,h4⟩:=h2 hl;by_cases hjk:j<k
   ·exact h4 j hjk y hy
   ·have:j=k:=by omega
    subst this;rw [hx] at hy;cases hy;cases hg:x.neg with
    | false=>rfl
    | true =>
     exfalso;apply h;have:=x.a.size_pos;refine ⟨hg,?_⟩;rw [h3];unfold wtL;omega
theorem b9l (c:List Lt):(E7 c).length<=1/\(E7 c=[]\/U6 c=[]):=by
 obtain ⟨h1,h2⟩:=b6V c c.length (Nat.le_refl _);by_cases h:(hvK c c.length).1>=0
 ·obtain ⟨x,hx,hg⟩:=h1 h;have e:I2 c=[(hvK c c.length).1]:=by unfold I2;rw [if_pos h]
  unfold E7 U6;rw [e];refine ⟨List.length_filterMap_le _ _,.inr ?_⟩;rw [flatMap_cons,List.flatMap_nil,append_nil];unfold a7C;rw [hx];show (if x.neg=true then _ else _)=_;rw [if_pos hg]
 ·have hr:E7 c=[]:=by
   cases hr:E7 c with
   | nil=>rfl
   | cons d L =>
    obtain ⟨n,x,hn,_,hx,hg,_,_⟩:=b2Q (c:=c) (d:=d) (by rw [hr];simp);rw [(h2 (by omega)).2 n hn x hx] at hg;cases hg
  rw [hr];exact ⟨Nat.zero_le _,.inl rfl⟩
def okC5 (c:List Lt):Prop:=c.length<=12/\∀ l∈c,l.big5
theorem okC5.sid {c:List Lt} (h:okC5 c):(T9 c).rng/\(T9 c).ok/\(T9 c).size<=709201:=by
 have hm:∀ s∈A4 c,s.rng/\s.ok/\s.size<=29550:=fun s hs=>by
  obtain ⟨l,hl,e⟩:=a4L.1 hs;rcases e with rfl | rfl
  ·exact (h.2 l hl).1
  ·exact (h.2 l hl).2
 have hl:=a1m c;have h1:=h.1;refine ⟨(Tm.rng_iff _).2 ⟨by show _<=(0:Int)/\(0:Int)<=_;omega,fun s hs=>(hm s hs).1⟩,(Tm.ok_iff _).2 ⟨by show (A4 c).length<=_;omega,fun s hs=>(hm s hs).2.1⟩,?_⟩;rw [Tm.size_sym (show ¬ (T9 c).f<0 by show ¬ (0:Int)<0;decide)];show 1+((A4 c).map Tm.size).sum<=_;have:∀ L:List Tm,(∀ s∈L,s.size<=29550)->(L.map Tm.size).sum<=29550*L.length:=fun L=>by
  induction L with
  | nil=>intro _;exact Nat.zero_le _
  | cons x L ih =>
   intro g;rw [map_cons,List.sum_cons,List.length_cons];have a1:=g x (by simp);have a2:=ih fun s hs=>g s (List.mem_cons_of_mem _ hs);omega
 have:=this (A4 c) fun s hs=>(hm s hs).2.2;omega
theorem a5w (W:World) (c d:List Lt) (hc:okC5 c) (hd:okC5 d):AFun Tryz.prog W 21 [.lst (c.map Lt.cv),.lst (d.map Lt.cv)] (.val (.b (b7F c d))):=by
 have n1:=Nat.le_trans (b1E (T9 c)) hc.sid.2.2;have n2:=Nat.le_trans (b1E (T9 d)) hd.sid.2.2;have h:=fun w=>b9H w (fun x y=>x.neg == y.neg) (.sc (.func (.func 43) #[] #[])) c d (by have:=hc.1;omega) (fun W x hx y hy => .inr ⟨_,rfl,b0I W x y⟩);rw [b6A] at h;have h2:=fun w=>a6G w (T9 c) (T9 d) hc.sid.1 hd.sid.1 hc.sid.2.1 (by have:=hc.sid.2.2;omega) (by have:=hd.sid.2.2;omega) (by omega) (by omega);have s1:=fun w=>S5 w c (by have:=hc.1;omega);have s2:=fun w=>S5 w d (by have:=hd.1;omega);unfold b7F;refine b9 (rs:=[.b (decide (c.map Lt.neg=d.map Lt.neg)&&a7v (T9 c) (T9 d))]) Tryz.func21 Tryz.ntmps21 rfl rfl rfl rfl ?_;intro w U hW;have h:=h w;refine aS (aR ?_);refine nc ze ?_;cases hs:decide (c.map Lt.neg=d.map Lt.neg) with
 | true =>
  rw [hs] at h;refine aS (aR ?_);refine nc zl (nc zl (nc (zw (z:=h)) (nc zl (nc (zl (p:=gb)) (nc (zw (p:=gb) (z:=s1 w)) (nc (zl (p:=gb)) (nc (zw (p:=gb) (z:=s2 w)) (nc (zw (p:=gb) (z:=h2 w)) (nc zP (nc ze ?_))))))))));exact aT (And.intro (.inr rfl) rfl)
 | false =>
  rw [hs] at h;refine aS (aR ?_);refine nc zl (nc zl (nc (zw (z:=h)) (nc zl (nc zR (nc zR (nc zR (nc zR (nc zR (nc zS (nc ze ?_))))))))));exact aT (And.intro (.inr rfl) rfl)
end Go.Proofs.YtglmoficcjphaaaGreat
