/-
 OrFns2 ClLen TmAlive TmAb6 ClTaut OrFns3 AbMapT AbQ SbQ AbBackB SbImg SbApM ClSides ClWith SrtGen ClNmM AbKind CodeMath CodeLen CodePut CodePutMore RefSame CodeRef CodeAlive CodeReadMath CodeRead CodeUint CodeText CodeBackMath ClBy ClCode ClPut ClGet ClGet2 ClA ClB ClNmN
-/
import Derived.Test.YtglmoficcjphaaaGreatMg9
import Derived.Test.YtglmoficcjphaaaGreatMg2
import Derived.Test.YtglmoficcjphaaaGreatMg4
import Derived.Test.YtglmoficcjphaaaGreatMg3
import Derived.Test.YtglmoficcjphaaaGreatMg7
import Derived.WalkKit
import Derived.Test.YtglmoficcjphaaaGreatChecked
import Derived.WalkLawsBesides
import Derived.WalkSpells
import Derived.Test.YtglmoficcjphaaaGreatMg1
import Derived.Laws.BitsAllLaws
import Derived.Deep.QuietTactic
import Derived.BigQuiet
import Derived.Laws.BytesArg
import Derived.Test.YtglmoficcjphaaaGreatMg8
namespace Go.Proofs.YtglmoficcjphaaaGreat
open List (append_nil append_toArray cons_append getElem?_eq_getElem length_append length_cons length_map length_nil length_take map_append map_cons map_nil mem_append_left mem_append_right mem_of_getElem? nil_append push_toArray replicate_zero size_toArray take_add_one take_length)
open Go.RowKit
set_option linter.unusedVariables false
set_option linter.unusedSimpArgs false
set_option maxRecDepth 100000
def Tm.fit (t:Tm):Prop:=t.rng/\t.ok/\t.size<=90000000000
theorem b5i (W:World) (t u:Tm) (ht:t.fit) (hu:u.fit):AFun Tryz.prog W 150 [u.cw,.ptr t.cw] (.val (.b (decide (kb u t=1)))):=by
 refine a9 (rs:=[.b (decide (kb u t=1))]) Tryz.func150 Tryz.ntmps150 rfl rfl rfl rfl ?_;intro w U hW;refine aS (aR ?_);refine nc zd (nc ze ?_);refine aS (aR ?_);refine nc zy (nc zbC (nc (zw (z:=a6T w u t hu.1 hu.2.1 (Nat.le_trans hu.2.2 (by omega)) ht.1 ht.2.1 (Nat.le_trans ht.2.2 (by omega)))) (nc ze ?_)));exact aT (And.intro (.inr rfl) rfl)
theorem b3Y (W:World) (t:Tm) (l:List Tm) (ht:t.fit) (hl:∀ u∈l,u.fit) (hn:l.length<=100000):AFun Tryz.prog W 125 [t.cw,.lst (l.map Tm.cv)] (.val (.b (l.any fun u=>decide (kb u t=1)))):=by
 refine a9 (rs:=[.b (l.any fun u=>decide (kb u t=1))]) Tryz.func125 Tryz.ntmps125 rfl rfl rfl rfl ?_;intro w U hW;refine aS (aR ?_);refine nc zd (nc ze ?_);refine AWp.wk (A4 2 rfl rfl rfl (s':=[(1,.val (.lst (l.map Tm.cv)))]) ⟨rfl,trivial⟩ rfl rfl rfl) ?_;refine aS (aR ?_);refine nc zl (nc zA ?_);refine nc (zw (z:=a9A w (fun u=>decide (kb u t=1)) (.fn 150 0 [.ptr t.cw]) l (by omega) (fun w x hx => .inl ⟨_,_,_,rfl,b5i w t x ht (hl x hx)⟩))) ?_;refine nc ze ?_;exact aT (And.intro (.inr rfl) rfl)
theorem b6g (W:World) (t:Tm) (l:List Tm) (ht:t.fit) (hl:∀ u∈l,u.fit) (hn:l.length<=100000):AFun Tryz.prog W 124 [t.cw,.ptr (.lst (l.map Tm.cv))] (.val (.b (!(l.any fun u=>decide (kb u t=1))))):=by
 refine a9 (rs:=[.b (!(l.any fun u=>decide (kb u t=1)))]) Tryz.func124 Tryz.ntmps124 rfl rfl rfl rfl ?_;intro w U hW;refine aS (aR ?_);refine nc zd (nc ze ?_);refine aS (aR ?_);refine nc zy (nc zbC (nc (zw (z:=b3Y w t l ht hl hn)) (nc zF (nc ze ?_))));exact aT (And.intro (.inr rfl) rfl)
theorem b6m (a b:List Tm) (ha:∀ t∈a,t.fit) (hb:∀ t∈b,t.fit) (fT:a.length<=100000) (mJ:b.length<=100000) :
  p9 Tryz.prog 97 [rwT 400001 a 0,rwT 400002 b 0] [.sl 400001 0 a.length 2,.sl 400002 0 b.length 2] (.val (.b (a1O a b))) [rwT 400001 (C6 a.length a b).1 (a.length-(C6 a.length a b).1.length),rwT 400002 (C6 a.length a b).2 (b.length-(C6 a.length a b).2.length)]:=by
 have hC:=b6b a b (fun t h=>(ha t h).1) (fun t h=>(hb t h).1) fT mJ;have jP:=a4D a.length a b;have nM:=a4g a.length a b;have hmB:a1O a b=a5W (C6 a.length a b).1 (C6 a.length a b).2:=rfl;rw [hmB];obtain ⟨X,Y,yR⟩:∃ X Y,C6 a.length a b=(X,Y):=⟨_,_,rfl⟩
 rw [yR] at hC jP nM |-;simp only at hC jP nM |-;have hX:∀ t∈X,t.fit:=fun t h=>ha t (nM.1 t h);have hY:∀ t∈Y,t.fit:=fun t h=>hb t (nM.2 t h);refine k6 Tryz.func97 Tryz.ntmps97 rfl rfl rfl rfl rfl rfl ?_;intro w U hU;refine AWp.hdl 20 400001 rfl rfl rfl fun v1=>?_;refine AWp.hdl 21 400002 rfl rfl rfl fun v2=>?_;refine AWp.wk ((a4c 0 400001 20 rfl rfl rfl).trans ((a4c 1 400002 21 rfl rfl rfl).trans (a7 (s':=[(20,.hdl v1 400001),(21,.hdl v2 400002),(0,.val (.sc (a5l v1 a.length))),(1,.val (.sc (a5l v2 b.length))),rwT 400001 a 0,rwT 400002 b 0]) ⟨rfl,rfl,rfl,rfl,rfl,rfl,trivial⟩))) ?_;refine aS (aR ?_);refine nc zd (nc ze ?_);refine aS (aR ?_);refine nc zy (nc zl (nc (zbD 20 21 (x:=hC) (hnb:=j8 (by first | rfl | kernel_rfl))) (nc zl (nc zx (nc zx (nc zo (nc ze ?_)))))));obtain ⟨kx,pB⟩:∃ kx,kx=a.length-X.length:=⟨_,rfl⟩
 obtain ⟨ky,hky⟩:∃ ky,ky=b.length-Y.length:=⟨_,rfl⟩
 rw [<-pB,<-hky];refine AWp.wk (a7 (s':=[(20,.hdl v1 400001),(21,.hdl v2 400002),(1,.val (.sc (a5l v2 Y.length))),(2,.bp 2 0 []),(100002,.bx (.sc (a5l v1 X.length))),rwT 400001 X kx,rwT 400002 Y ky]) ⟨rfl,rfl,rfl,rfl,rfl,rfl,rfl,trivial⟩) ?_;refine b5e (R:=fun e=>e = .normal\/e = .ret) [(1,.lst (Y.map Tm.cv)),(2,.ptr (.lst (X.map Tm.cv)))] 4 (.bool (a5W X Y)) [rwT 400001 X kx,rwT 400002 Y ky] ?_ ?_ ⟨rfl,rfl,trivial⟩ rfl rfl rfl (fun e he=>⟨he,_,Wk.refl _,rfl,rfl,rfl,trivial⟩)
 ·intro a w D hv h q hq;obtain ⟨_,_,jU,lT⟩:∃ u,a.tmps[20]?=some u/\RN 400001/\hv 400001=v1:=h.slot 20 _ rfl (by omega);obtain ⟨_,_,jB,oM⟩:∃ u,a.tmps[21]?=some u/\RN 400002/\hv 400002=v2:=h.slot 21 _ rfl (by omega);have w1:=h.view (n:=400001) (e:=42) (z:=2) (l:=(X++List.replicate kx zTm).map Tm.cv) (len:=X.length) rfl jU (by simp);have w2:=h.view (n:=400002) (e:=42) (z:=2) (l:=(Y++List.replicate ky zTm).map Tm.cv) (len:=Y.length) rfl jB (by simp);rw [a7A,lT] at w1;rw [a7A,oM] at w2;rcases List.mem_cons.1 hq with rfl | hq
  ·obtain ⟨u,g1,g2⟩:=h.slot 1 _ rfl (by omega);obtain ⟨rfl,_⟩:=n7.1 g2.1;exact ⟨_,g1,w2⟩
  ·rcases List.mem_cons.1 hq with rfl | hq
   ·exact h.viewBox 2 rfl rfl (by omega) (by show (1:Nat)≠2;decide) w1
   ·cases hq
 ·intro w;have hW:Hw w w c1B:=⟨fun _=>rfl,fun _ h=>h⟩
  refine aS (aR ?_);refine nc zA (nc ze ?_);have hcon:=a9A w (fun t=>!(X.any fun u=>decide (kb u t=1))) (.fn 124 0 [.ptr (.lst (X.map Tm.cv))]) Y (by omega) (fun w x hx => .inl ⟨_,_,_,rfl,b6g w x X (hY x hx) hX (by omega)⟩);by_cases hX0:0<X.length
  ·have g:decide (((X.map Tm.cv).length:Int)>0)=true:=by simp;omega
   have e:a5W X Y=!(Y.any fun t=>!(X.any fun u=>decide (kb u t=1))):=by unfold a5W;rw [decide_eq_true hX0,Bool.true_and]
   rw [e];refine aS (aR ?_);refine nc zbC (nc zp (nc zO (nc zl (nc (zl (p:=gb)) (nc (zl (p:=gb)) (nc (zw (p:=gb) (z:=hcon)) (nc (zF (r:=gb)) (nc zJ (nc ze ?_)))))))));exact aT ⟨.inr rfl,rfl⟩
  ·have g:decide (((X.map Tm.cv).length:Int)>0)=false:=decide_eq_false (by rw [length_map];omega);have e:a5W X Y=false:=by unfold a5W;rw [decide_eq_false hX0,Bool.false_and]
   rw [e];refine aS (aR ?_);refine nc zbC (nc zp (nc zO (nc zl (nc zH (nc zH (nc zH (nc zH (nc zI (nc ze ?_)))))))));exact aT ⟨.inr rfl,rfl⟩
def y8 (l:Lt):List Tm:=if l.neg then [l.a,l.a,l.b,l.b] else [l.a,l.b]
theorem a1E {l:Lt} {p:Tm->Prop} (h:p l.a/\p l.b):∀ t∈y8 l,p t:=by
 intro t ht;unfold y8 at ht;split at ht<;>simp at ht<;>rcases ht with rfl | rfl
 all_goals first | exact h.1 | exact h.2
theorem a1t (l:Lt):(y8 l).length<=4:=by unfold y8;split<;>simp
theorem a8o (l:Lt):p9 Tryz.prog 98 [] [.val l.cw] (.sl 400001 0 (y8 l).length 2) [rwT 400001 (y8 l) 0]:=by
 refine k6 Tryz.func98 Tryz.ntmps98 rfl rfl rfl rfl rfl rfl ?_;intro w U hU;have sS:U.f 400001=none:=by
  cases e:U.f 400001 with
  | none=>rfl
  | some v=>have:=hU _ v e;cases this
 have e1:l.a.cw=l.a.cv:=(Tm.cv_eq _).symm;have e2:l.b.cw=l.b.cv:=(Tm.cv_eq _).symm;refine aS (aR ?_);refine nc zd (nc ze ?_);refine aS (aS (aR ?_));refine nc zg (nc zh ?_);refine aC rfl (fun hc=>?_) (fun hc=>?_)
 ·have e:y8 l=[l.a,l.a,l.b,l.b]:=by unfold y8;rw [if_pos hc]
  rw [e];refine aS (aR ?_);refine nc zg (nc zh (nc zg (nc zh (nc zg (nc zh (nc zg (nc zh (nc (zbE 250007) (nc ze ?_)))))))));refine aT ⟨.inr rfl,_,(a7 (s':=[(2,.sl 250007 0 4 2),(250007,.mrow 42 2 (([l.a,l.a,l.b,l.b]++List.replicate 0 zTm).map Tm.cv))]) ⟨rfl,?_,trivial⟩).trans (t9 250007 400001 rfl rfl sS rfl rfl rfl),rfl,rfl,trivial⟩;show some (AV.mrow _ _ _)=some (AV.mrow _ _ _);simp only [replicate_zero,append_nil,map_cons,map_nil,Tm.cv_eq];rfl
 ·have e:y8 l=[l.a,l.b]:=by unfold y8;rw [if_neg (by rw [hc];decide)]
  rw [e];refine aK ?_;refine aS (aR ?_);refine nc zg (nc zh (nc zg (nc zh (nc (zbE 250007) (nc ze ?_)))));refine aT ⟨.inr rfl,_,(a7 (s':=[(2,.sl 250007 0 2 2),(250007,.mrow 42 2 (([l.a,l.b]++List.replicate 0 zTm).map Tm.cv))]) ⟨rfl,?_,trivial⟩).trans (t9 250007 400001 rfl rfl sS rfl rfl rfl),rfl,rfl,trivial⟩;show some (AV.mrow _ _ _)=some (AV.mrow _ _ _);simp only [replicate_zero,append_nil,map_cons,map_nil,Tm.cv_eq];rfl
theorem a8K (l:Lt):p9 Tryz.prog 98 [] [.val l.cw] (.sl 400002 0 (y8 l).length 2) [rwT 400002 (y8 l) 0]:=by
 refine k6 Tryz.func98 Tryz.ntmps98 rfl rfl rfl rfl rfl rfl ?_;intro w U hU;have sS:U.f 400002=none:=by
  cases e:U.f 400002 with
  | none=>rfl
  | some v=>have:=hU _ v e;cases this
 have e1:l.a.cw=l.a.cv:=(Tm.cv_eq _).symm;have e2:l.b.cw=l.b.cv:=(Tm.cv_eq _).symm;refine aS (aR ?_);refine nc zd (nc ze ?_);refine aS (aS (aR ?_));refine nc zg (nc zh ?_);refine aC rfl (fun hc=>?_) (fun hc=>?_)
 ·have e:y8 l=[l.a,l.a,l.b,l.b]:=by unfold y8;rw [if_pos hc]
  rw [e];refine aS (aR ?_);refine nc zg (nc zh (nc zg (nc zh (nc zg (nc zh (nc zg (nc zh (nc (zbE 250007) (nc ze ?_)))))))));refine aT ⟨.inr rfl,_,(a7 (s':=[(2,.sl 250007 0 4 2),(250007,.mrow 42 2 (([l.a,l.a,l.b,l.b]++List.replicate 0 zTm).map Tm.cv))]) ⟨rfl,?_,trivial⟩).trans (t9 250007 400002 rfl rfl sS rfl rfl rfl),rfl,rfl,trivial⟩;show some (AV.mrow _ _ _)=some (AV.mrow _ _ _);simp only [replicate_zero,append_nil,map_cons,map_nil,Tm.cv_eq];rfl
 ·have e:y8 l=[l.a,l.b]:=by unfold y8;rw [if_neg (by rw [hc];decide)]
  rw [e];refine aK ?_;refine aS (aR ?_);refine nc zg (nc zh (nc zg (nc zh (nc (zbE 250007) (nc ze ?_)))));refine aT ⟨.inr rfl,_,(a7 (s':=[(2,.sl 250007 0 2 2),(250007,.mrow 42 2 (([l.a,l.b]++List.replicate 0 zTm).map Tm.cv))]) ⟨rfl,?_,trivial⟩).trans (t9 250007 400002 rfl rfl sS rfl rfl rfl),rfl,rfl,trivial⟩;show some (AV.mrow _ _ _)=some (AV.mrow _ _ _);simp only [replicate_zero,append_nil,map_cons,map_nil,Tm.cv_eq];rfl
theorem b9X (W:World) (x y:Lt) (hx:x.a.fit/\x.b.fit) (hy:y.a.fit/\y.b.fit):AFun Tryz.prog W 69 [x.cw,y.cw] (.val (.b (a1O (y8 x) (y8 y)))):=by
 have hT1:=a8o x;have hT2:=a8K y;have l1:=a1t x;have l2:=a1t y;have hO:=b6m (y8 x) (y8 y) (a1E hx) (a1E hy) (by omega) (by omega);refine a9 (rs:=[.b (a1O (y8 x) (y8 y))]) Tryz.func69 Tryz.ntmps69 rfl rfl rfl rfl ?_;intro w U hW;refine aS (aR ?_);refine nc zd (nc zd (nc ze ?_));refine aS (aD (by kernel_rfl) (by kernel_rfl) ?_);refine nc zy ?_;refine nc (zX (z:=hT1) (G:=fun k v h=>by first | (rw [hW.1] at h;cases h) | (have h2:=hU k v h;cases h2))) ?_;refine nc zy ?_;refine nc (zX (z:=hT2) (G:=fun k v h=>by first | (rw [hW.1] at h;cases h) | (have h2:=hU k v h;cases h2))) ?_;refine nc (zX (z:=hO) (G:=j8 (by first | rfl | kernel_rfl))) (nc ze ?_);refine ⟨by kernel_rfl,?_⟩;exact aT (And.intro (.inr rfl) rfl)
def okC (c:List Lt):Prop:=∀ l∈c,l.a.rng/\l.b.rng
theorem b6Y (W:World) (p:Lt->Bool) (fc:CV) (c:List Lt) (hl:c.length<=1000000) (hc:∀ W,∀ x∈c,Y5 Tryz.prog W fc [x.cw] (.val (.b (p x)))):AFun Tryz.prog W 96 [.lst (c.map Lt.cv),fc] (.val (.i (match c.findIdx? p with | some i=>(i:Int) | none => -1))):=by
 have kD:=Lt.size_all c;obtain ⟨R,hR⟩:∃ R:Int,R=match c.findIdx? p with | some i=>(i:Int) | none => -1:=⟨_,rfl⟩
 rw [<-hR];refine a9 (rs:=[.i R]) Tryz.func96 Tryz.ntmps96 rfl rfl rfl rfl ?_;intro w U hW;refine aS (aR ?_);refine nc ze ?_;refine aS (aS (aR ?_));refine nc zl (nc zp (nc zl ?_));refine aB (l7 c.length (fun k=>∀ x∈c.take k,p x=false) (fun k=>[(0,.val (.lst (c.map Lt.cv))),(1,.val fc),(7,.val (.i (c.map Lt.cv).length)),(8,.val (.i k))]) (a7 ⟨rfl,rfl,rfl,rfl,trivial⟩) (by simp) ?_);intro k hk hI;refine aS (aR ?_);refine nc zi ?_;refine aS (aC rfl (fun kA=>?_) (fun kA=>?_))
 ·have kB:k<c.length:=by simpa using kA
  obtain ⟨x,hx⟩:∃ x,c[k]?=some x:=⟨c[k],getElem?_eq_getElem kB⟩
  have kI:=Lt.map_at hx;have cD:=mem_of_getElem? hx;refine aK ?_;refine aS (aB (aS (aR ?_)));refine nc zl (nc ze ?_);refine aS (aR ?_);refine nc zl (nc zl (nc zl (nc (zq (j:=k) (H:=kI) (hz:=kD)) (nc zr (nc (zR (E:=hc w x cD)) ?_)))));refine aC rfl (fun hp=>?_) (fun hp=>?_)
  ·have oP:R=k:=by
    rw [hR];have:c.findIdx? p=some k:=by rw [List.findIdx?_eq_some_iff_getElem];obtain ⟨bB,e⟩:=List.getElem?_eq_some_iff.1 hx;refine ⟨bB,by rw [e];exact hp,fun j hj=>?_⟩;have:=hI c[j] (List.mem_take_iff_getElem.2 ⟨j,by omega,rfl⟩);simpa using this
    rw [this]
   rw [oP];refine aS (aR ?_);refine nc zl (nc ze ?_);exact aT (And.intro (.inr rfl) rfl)
  ·refine aK ?_;refine aR ?_;refine nc zu (nc zl ?_);refine ⟨kB,?_,a7 ⟨rfl,rfl,rfl,rfl,trivial⟩⟩;intro y hy;rw [take_add_one,hx,List.mem_append] at hy;rcases hy with hy | hy
   ·exact hI y hy
   ·simp at hy;rw [hy];exact hp
 ·have kB:k=c.length:=by
   have:¬ k<c.length:=by simpa using kA
   omega
  subst kB;rw [take_length] at hI;have hRn:R = -1:=by rw [hR,List.findIdx?_eq_none_iff.2 fun x hx=>by rw [hI x hx]]
  rw [hRn];refine aE ?_;refine aS (aR ?_);refine nc ze ?_;exact aT (And.intro (.inr rfl) rfl)
theorem b5R (W:World) (p:Lt->Bool) (fc:CV) (c:List Lt) (hl:c.length<=1000000) (hc:∀ W,∀ x∈c,Y5 Tryz.prog W fc [x.cw] (.val (.b (p x)))):AFun Tryz.prog W 67 [.lst (c.map Lt.cv),fc] (.val (.b (c.any p))):=by
 have e:decide ((match c.findIdx? p with | some i=>(i:Int) | none => -1)>=0)=c.any p:=by
  cases h:c.findIdx? p with
  | none =>
   have h1:=List.findIdx?_eq_none_iff.1 h;have:c.any p=false:=by rw [List.any_eq_false];intro x hx;rw [h1 x hx];simp
   rw [this];rfl
  | some i =>
   obtain ⟨hi,hp,_⟩:=List.findIdx?_eq_some_iff_getElem.1 h;have:c.any p=true:=List.any_eq_true.2 ⟨_,List.getElem_mem hi,hp⟩;rw [this];simp
 refine a9 (rs:=[.b (c.any p)]) Tryz.func67 Tryz.ntmps67 rfl rfl rfl rfl ?_;intro w U hW;refine aS (aR ?_);refine nc ze ?_;refine aS (aR ?_);refine nc zl (nc zl (nc (zw (z:=b6Y w p fc c hl hc)) (nc zG (nc ze ?_))));rw [e];exact aT (And.intro (.inr rfl) rfl)
def Lt.fit (l:Lt):Prop:=l.a.fit/\l.b.fit
def wtL (l:Lt):Int:=(l.a.size:Int)+(l.b.size:Int)
theorem b9A (W:World) (l:Lt) (h:l.fit):AFun Tryz.prog W 66 [l.cw] (.val (.i (wtL l))):=by
 have h1:=h.1.2.2;have h2:=h.2.2.2;refine a9 (rs:=[.i (wtL l)]) Tryz.func66 Tryz.ntmps66 rfl rfl rfl rfl ?_;intro w U hW;refine aS (aR ?_);refine nc zd (nc ze ?_);refine aS (aD (by kernel_rfl) (by kernel_rfl) ?_);refine nc zg (nc zh (nc (zw (z:=a9p w h.1.1 (by omega))) (nc zg (nc zh (nc (zw (z:=a9p w h.2.1 (by omega))) (nc zu (nc ze ?_)))))));refine ⟨by kernel_rfl,?_⟩;exact aT (And.intro (.inr rfl) rfl)
def hvK (c:List Lt):Nat->Int×Int
 | 0=>(-1,0)
 | k+1=>match c[k]? with
  | none=>hvK c k
  | some l=>if l.neg=true/\(hvK c k).2<wtL l then ((k:Int),wtL l) else hvK c k
theorem b8Z (W:World) (c:List Lt) (hn:c.length<=100000) (hc:∀ l∈c,l.fit):AFun Tryz.prog W 47 [.lst (c.map Lt.cv)] (.val (.i (hvK c c.length).1)):=by
 have kD:=Lt.size_all c;refine a9 (rs:=[.i (hvK c c.length).1]) Tryz.func47 Tryz.ntmps47 rfl rfl rfl rfl ?_;intro w U hW;refine aS (aR ?_);refine nc ze ?_;refine aS (aR ?_);refine nc ze (nc ze ?_);refine aS (aS (aR ?_));refine nc zl (nc zp (nc zl ?_))
 let st:Nat->AS:=fun k=>[(3,.val (.i (hvK c k).1)),(4,.val (.i (hvK c k).2)),(8,.val (.lst (c.map Lt.cv))),(9,.val (.i (c.map Lt.cv).length)),(10,.val (.i k))]
 refine aB (b9 c.length st (a7 ⟨rfl,rfl,rfl,rfl,rfl,trivial⟩) ?_);intro k hk;refine aS (aR ?_);refine nc zi ?_;refine aS (aC rfl (fun kA=>?_) (fun kA=>?_))
 ·have kB:k<c.length:=by simpa using kA
  obtain ⟨x,hx⟩:∃ x,c[k]?=some x:=⟨c[k],getElem?_eq_getElem kB⟩
  have kI:=Lt.map_at hx;have lD:=hc x (mem_of_getElem? hx);have hK:hvK c (k+1)=if x.neg=true/\(hvK c k).2<wtL x then ((k:Int),wtL x) else hvK c k:=by conv=>lhs;unfold hvK;rw [hx]
  refine aK ?_;refine aS (aB (aS (aR ?_)));refine nc zl (nc (zq (j:=k) (H:=kI) (hz:=kD)) (nc zr (nc zk (nc ze (nc zo ?_)))));refine AWp.wk (a7 (s':=[(3,.val (.i (hvK c k).1)),(4,.val (.i (hvK c k).2)),(5,.val (.i k)),(6,.bp 6 0 []),(100006,.bx x.cw),(8,.val (.lst (c.map Lt.cv))),(9,.val (.i (c.map Lt.cv).length)),(10,.val (.i k))]) ⟨rfl,rfl,rfl,rfl,rfl,rfl,rfl,rfl,trivial⟩) ?_;refine aS (aS (aR ?_));refine nc zg (nc zh (nc zF ?_));refine aC rfl (fun hb=>?_) (fun hb=>?_)
  ·have hb:(!x.neg)=true:=hb;have iO:x.neg=false:=by simpa using hb
   have e:hvK c (k+1)=hvK c k:=by rw [hK,if_neg (by rw [iO];simp)]
   refine aE ?_;refine aR ?_;refine nc zu (nc zl ?_);refine ⟨kB,a7 ⟨?_,?_,rfl,rfl,rfl,trivial⟩⟩
   ·rw [e];rfl
   ·rw [e];rfl
  ·have hb:(!x.neg)=false:=hb;have iO:x.neg=true:=by simpa using hb
   refine aK ?_;refine aS (aR ?_);refine nc zy (nc (zw (z:=b9A w x lD)) (nc ze ?_));refine aS (aR ?_);refine nc zl (nc zl (nc zO ?_));refine aC rfl (fun hg=>?_) (fun hg=>?_)
   ·have hg:decide (wtL x>(hvK c k).2)=true:=hg;have hg:=of_decide_eq_true hg;have e:hvK c (k+1)=((k:Int),wtL x):=by rw [hK,if_pos ⟨iO,by omega⟩]
    refine aR ?_;refine nc zl (nc zl (nc ze (nc ze ?_)));refine aR ?_;refine nc zu (nc zl ?_);refine ⟨kB,a7 ⟨?_,?_,rfl,rfl,rfl,trivial⟩⟩
    ·rw [e];rfl
    ·rw [e];rfl
   ·have hg:decide (wtL x>(hvK c k).2)=false:=hg;have hg:=of_decide_eq_false hg;have e:hvK c (k+1)=hvK c k:=by rw [hK,if_neg (fun h=>by have:=h.2;omega)]
    refine aK ?_;refine aR ?_;refine nc zu (nc zl ?_);refine ⟨kB,a7 ⟨?_,?_,rfl,rfl,rfl,trivial⟩⟩
    ·rw [e];rfl
    ·rw [e];rfl
 ·have kB:k=c.length:=by
   have:¬ k<c.length:=by simpa using kA
   omega
  subst kB;refine aE ?_;refine aS (aR ?_);refine nc zl (nc ze ?_);exact aT (And.intro (.inr rfl) rfl)
noncomputable def a9Z (c:List Lt) (x:Lt):Bool:=!(c.any fun l=>a1O (y8 l) (y8 x))
noncomputable def a0Z (c:List Lt) (i:Int):Bool:=if 0<=i then (match c[i.toNat]? with | some x=>a9Z c x | none=>false) else false
theorem b4g (W:World) (c:List Lt) (k:Nat) (x l:Lt) (hx:c[k]?=some x) (lD:x.fit) (hl:l.fit):AFun Tryz.prog W 68 [l.cw,.ptr (.lst (c.map Lt.cv)),.ptr (.i (k:Int))] (.val (.b (a1O (y8 l) (y8 x)))):=by
 have kD:=Lt.size_all c;have kI:=Lt.map_at hx;refine a9 (rs:=[.b (a1O (y8 l) (y8 x))]) Tryz.func68 Tryz.ntmps68 rfl rfl rfl rfl ?_;intro w U hW;refine aS (aR ?_);refine nc zd (nc ze ?_);refine aS (aD (by kernel_rfl) (by kernel_rfl) ?_);refine nc zy (nc zbC (nc zbC (nc (zq (j:=k) (H:=kI) (hz:=kD)) (nc zr (nc (zw (z:=b9X w l x hl lD)) (nc ze ?_))))));refine ⟨by kernel_rfl,?_⟩;exact aT (And.intro (.inr rfl) rfl)
theorem b6F (W:World) (c:List Lt) (i:Int) (hn:c.length<=100000) (hc:∀ l∈c,l.fit):AFun Tryz.prog W 48 [.lst (c.map Lt.cv),.i i] (.val (.b (a0Z c i))):=by
 refine a9 (rs:=[.b (a0Z c i)]) Tryz.func48 Tryz.ntmps48 rfl rfl rfl rfl ?_;intro w U hW;refine aS (aR ?_);refine nc zd (nc zd (nc ze ?_));by_cases hi:i<0
 ·have g:decide (i<0)=true:=decide_eq_true hi;have e:a0Z c i=false:=by unfold a0Z;rw [if_neg (by omega)]
  rw [e];refine aS (aS (aR ?_));refine nc zy (nc zi (nc zl (nc zH (nc zH (nc zH (nc zH (nc zJ ?_)))))));refine aC rfl (fun _=>?_) (fun h=>by cases h);refine aS (aR ?_);refine nc ze ?_;exact aT (And.intro (.inr rfl) rfl)
 ·have g:decide (i<0)=false:=decide_eq_false hi;refine aS (aS (aR ?_));refine nc zy (nc zi (nc zl (nc (zy (p:=gb)) (nc (zy (p:=gb)) (nc (zp (r:=gb)) (nc (zG (r:=gb)) (nc zI ?_)))))));refine aC rfl (fun h=>?_) (fun h=>?_)
  ·have h:decide (i>=((c.map Lt.cv).length:Int))=true:=h;have h:=of_decide_eq_true h;rw [length_map] at h;have e:a0Z c i=false:=by unfold a0Z;rw [if_pos (by omega),List.getElem?_eq_none (by omega)]
   rw [e];refine aS (aR ?_);refine nc ze ?_;exact aT (And.intro (.inr rfl) rfl)
  ·have h:decide (i>=((c.map Lt.cv).length:Int))=false:=h;have h:=of_decide_eq_false h;rw [length_map] at h;obtain ⟨k,rfl⟩:∃ k:Nat,i=(k:Int):=⟨i.toNat,by omega⟩
   have kB:k<c.length:=by omega
   obtain ⟨x,hx⟩:∃ x,c[k]?=some x:=⟨c[k],getElem?_eq_getElem kB⟩
   have lD:=hc x (mem_of_getElem? hx);have e:a0Z c (k:Int)=!(c.any fun l=>a1O (y8 l) (y8 x)):=by unfold a0Z;rw [if_pos (by omega),Int.toNat_natCast,hx];rfl
   rw [e];refine aK ?_;refine AWp.wk ((A4 2 rfl rfl rfl (s':=[(3,.bp 3 0 []),(100003,.bx (.i (k:Int)))]) ⟨rfl,rfl,trivial⟩ rfl rfl rfl).trans (A4 3 rfl rfl rfl (s':=[(2,.val (.ptr (.lst (c.map Lt.cv))))]) ⟨rfl,trivial⟩ rfl rfl rfl)) ?_;refine aS (aR ?_);refine nc zbC (nc zA ?_);refine nc (zw (z:=b5R w (fun l=>a1O (y8 l) (y8 x)) (.fn 68 0 [.ptr (.lst (c.map Lt.cv)),.ptr (.i (k:Int))]) c (by omega) (fun w l hl => .inl ⟨_,_,_,rfl,b4g w c k x l hx lD (hc l hl)⟩))) ?_;refine nc zF (nc ze ?_);exact aT (And.intro (.inr rfl) rfl)
noncomputable def gsK (c:List Lt) (k:Nat):List Int:=((List.range k).filter fun i:Nat=>a0Z c (i:Int)).map fun i:Nat=>(i:Int)
theorem a0f (c:List Lt) (k:Nat):(gsK c k).length<=k:=by
 unfold gsK;rw [length_map];exact Nat.le_trans (List.length_filter_le _ _) (by rw [List.length_range];exact Nat.le_refl _)
theorem a1J (c:List Lt) (k:Nat):gsK c (k+1)=gsK c k++(if a0Z c (k:Int)=true then [(k:Int)] else []):=by
 unfold gsK;rw [List.range_succ,List.filter_append,map_append];congr 1;by_cases h:a0Z c (k:Int)=true
 ·rw [if_pos h,List.filter_cons_of_pos (by exact h)];rfl
 ·rw [if_neg h,List.filter_cons_of_neg (by exact h)];rfl
noncomputable def s9 (c:List Lt):List Int:=if (hvK c c.length).1>=0 then [(hvK c c.length).1] else gsK c c.length
theorem a5P (W:World) (c:List Lt) (hn:c.length<=100000) (hc:∀ l∈c,l.fit):AFun Tryz.prog W 26 [.lst (c.map Lt.cv)] (.val (.lst ((s9 c).map CV.i))):=by
 refine a9 (rs:=[.lst ((s9 c).map CV.i)]) Tryz.func26 Tryz.ntmps26 rfl rfl rfl rfl ?_;intro w U hW;obtain ⟨mM,bI⟩:∃ z,z=(hvK c c.length).1:=⟨_,rfl⟩
 have kC:s9 c=if mM>=0 then [mM] else gsK c c.length:=by unfold s9;rw [bI]
 have hH:=b8Z w c hn hc;rw [<-bI] at hH;refine aS (aR ?_);refine nc ze ?_;refine aS (aS (aR ?_));refine nc zl (nc (zw (z:=hH)) (nc ze ?_));refine aS (aR ?_);refine nc zl (nc zG ?_);refine aC rfl (fun h=>?_) (fun h=>?_)
 ·have h:decide (mM>=0)=true:=h;rw [kC,if_pos (of_decide_eq_true h)];refine aS (aR ?_);refine nc zl (nc zC (nc ze ?_));exact aT (And.intro (.inr rfl) rfl)
 ·have h:decide (mM>=0)=false:=h;rw [kC,if_neg (of_decide_eq_false h)];refine aK ?_;refine aS (aR ?_);refine nc ze ?_;refine aS (aS (aR ?_));refine nc zl (nc zp (nc zl ?_))
  let st:Nat->AS:=fun k=>[(0,.val (.lst (c.map Lt.cv))),(4,.own (.lst ((gsK c k).map CV.i)) 200023),(200023,.tok 3 1),(13,.val (.i (c.map Lt.cv).length)),(14,.val (.i k))]
  refine aB (b9 c.length st ((v9 4 200023 3 1 rfl rfl rfl rfl rfl rfl rfl).trans (a7 ⟨rfl,rfl,rfl,rfl,rfl,trivial⟩)) ?_);intro k hk;refine aS (aR ?_);refine nc zi ?_;refine aS (aC rfl (fun kA=>?_) (fun kA=>?_))
  ·have kB:k<c.length:=by simpa using kA
   have fN:((gsK c k).map CV.i).length<=k:=by rw [length_map];exact a0f c k
   have mK:=a0f c k;have xI:∀ x∈(gsK c k).map CV.i,x.size=1:=b8 _;refine aK ?_;refine aS (aB (aS (aR ?_)));refine nc zl (nc ze ?_);refine aS (aR ?_);refine nc zl (nc zl (nc (zw (z:=b6F w c k hn hc)) ?_));refine aC rfl (fun hg=>?_) (fun hg=>?_)
   ·have hg:a0Z c (k:Int)=true:=hg;refine aR ?_;refine nc zl (nc zl (nc zC (nc zD (nc ze ?_))));refine AWp.wk ((a7 (s':=[(0,.val (.lst (c.map Lt.cv))),(4,.own (.lst ((gsK c k).map CV.i++[CV.i (k:Int)])) 300023),(300023,.tok 3 1),(13,.val (.i (c.map Lt.cv).length)),(14,.val (.i k))]) ⟨rfl,rfl,rfl,rfl,rfl,trivial⟩).trans (o8 300023 200023 rfl rfl rfl rfl)) ?_;refine aR ?_;refine nc zu (nc zl ?_);refine ⟨kB,a7 ⟨rfl,?_,rfl,rfl,rfl,trivial⟩⟩;show some (AV.own (.lst _) _)=some (AV.own (.lst _) _);rw [a1J,if_pos hg,map_append];rfl
   ·have hg:a0Z c (k:Int)=false:=hg;refine aK ?_;refine aR ?_;refine nc zu (nc zl ?_);refine ⟨kB,a7 ⟨rfl,?_,rfl,rfl,rfl,trivial⟩⟩;show some (AV.own (.lst _) _)=some (AV.own (.lst _) _);rw [a1J,if_neg (by rw [hg];decide),append_nil]
  ·have kB:k=c.length:=by
    have:¬ k<c.length:=by simpa using kA
    omega
   subst kB;refine aE ?_;refine aS (aR ?_);refine nc zl (nc ze ?_);exact aT (And.intro (.inr rfl) rfl)
section
open Go.RowKit Go.MapKept
section
variable {P:Program} {w0:World} {U0:UX} {nt:Nat} {ops:Array Oper} {o:Oper} {S:Nat->Option AV} {gs:List Nat} {d:Nat} {s:AS} {a:Act} {w:World} {D:Nat->Nat->Prop} {hv:Nat->Value}
theorem b8W {U:Nat->Nat->Prop} {w:World} {v:Value} {et:TypeId} (eC:(P.info? et).map (·.zero)=some (some (.agg #[.int .i64 0,.slice none 0 0]))) (hr:Rep U w (.row [.i 0,.lst []]) v.cells.toList) (hh:∃ it,P.info? et=some it/\it.zero=some v):VRep U w (.row [.i 0,.lst []]) v:=by
 obtain ⟨it,h1,h2⟩:=hh;rw [h1,Option.map_some,h2] at eC;injection eC with eC;injection eC with eC;subst eC;exact ⟨_,rfl,hr⟩
end
end
section
open Go.RowKit Go.MapKept
def QUp (q:(Nat->Nat->Prop)->World->Prop):Prop:=∀ (U V:Nat->Nat->Prop) (w w':World),q U w->Below w.heap.size w w'->(∀ b o,b<w.heap.size->U b o->V b o)->q V w'
def a7U (P:Program) (q:(Nat->Nat->Prop)->World->Prop) (f:FuncId) (args:List CV) (r:AV):Prop:=
 a9T P f/\(r.t=0\/r.t=4)/\r.n=0/\∀ (U:Nat->Nat->Prop) (w:World) (vs:List Value),q U w->VReps U w args vs ->
  Calls P f vs.toArray w fun e w'=>∃ v,e = .returned v/\RR (fun b o=>U b o\/w.heap.size<=b) w' r v/\Below w.heap.size w w'
def a8a (P:Program) (q:(Nat->Nat->Prop)->World->Prop) (fc:CV) (args:List CV) (r:AV):Prop:=∃ f n l,fc = .fn f n l/\a7U P q f (l.take n++(args++l.drop n)) r
section
variable {P:Program} {w0:World} {U0:UX} {nt:Nat} {ops:Array Oper} {o:Oper} {S:Nat->Option AV} {gs:List Nat} {d:Nat} {s:AS} {a:Act} {w:World} {D:Nat->Nat->Prop} {hv:Nat->Value} {q:(Nat->Nat->Prop)->World->Prop}
theorem SimG.atQ {W:World} (h:SimG w0 U0 nt s a w D hv) (hQ:QUp q) (hW:Hw W w0 U0) (hq:q U0.m w0):q (Us w0 U0 D) w:=
 hQ _ _ _ _ hq (h.below.below hW.2) fun b o hb hu => .inl ⟨hb,hu,hW.2 b⟩
theorem b9v {W:World} (hQ:QUp q) (hW:Hw W w0 U0) (hq:q U0.m w0) {f:FuncId} {xs:Array Operand} {ts:Array TypeId} {cs:List CV} {r:AV} (hg:Gd w0 U0 nt ops o gs S) (hd:o.dst=some d) (hn:Nat.blt d nt=true) (h5:Nat.blt d 100000=true)
  (ho:o.op = .call { callee := .value (.func f),args:=xs,argTypes:=ts }) (hx:V1 S xs.toList=some cs) (hc:a7U P q f cs r):AOp P w0 U0 nt ops o (gs++rdl xs.toList) [] S [(d,r)]:=by
 intro s hs _ a w ⟨D,hv,h⟩ Q K hK;rw [if_pos (hg s (fun k hk=>hs k (mem_append_left _ hk)) a w D hv h)];have hargs:=D7 h (fun k hk=>hs k (mem_append_right _ hk)) hx;obtain ⟨h1,h2,h3,h4⟩:=hc;have gD:=h4 _ w _ (h.atQ hQ hW hq) hargs;have he:(execOp a.eval o).run P w = .ok (.enter f (xs.toList.map a.eval).toArray) w:=by
  have hf:a.eval (.func f) = .func (.func f) #[] #[]:=rfl;have dR:=h1 (xs.map a.eval) w;have cL:(xs.toList.map a.eval).toArray=xs.map a.eval:=by apply Array.ext';simp
  rw [cL];generalize a.eval=ρ at hf dR |-;simp [execOp,ho,resolve,invoke,Deferred.ofValue,hf,dR]
 unfold Oper.wp;rw [he,Oper.upon_enter];refine gD.mono ?_;rintro e w' ⟨v,rfl,h6,h7⟩;rw [hd];refine hK _ _ ⟨Dn D w w',hv,(h.growN h7).put (bL hn) (bL h5) (Q5 h2 h3 (X8 rfl h7.size h.below.size h6))⟩
theorem zbI {P:Program} {w0:World} {U0:UX} {nt:Nat} {ops:Array Oper} {o:Oper} {S:Nat->Option AV} {gs:List Nat} {d:Nat} {q:(Nat->Nat->Prop)->World->Prop} {W:World} {f:FuncId} {xs:Array Operand} {ts:Array TypeId} {cs:List CV} {r:AV} (hQ:QUp q) (hW:Hw W w0 U0) (hq:q U0.m w0) (p:Gd w0 U0 nt ops o gs S:=by exact gN rfl) (t:o.dst=some d:=by exact rfl) (u:Nat.blt d nt=true:=by exact rfl) (x:Nat.blt d 100000=true:=by exact rfl) (y:o.op = .call { callee := .value (.func f),args:=xs,argTypes:=ts }:=by exact rfl) (z:V1 S xs.toList=some cs:=by exact rfl) (A:a7U P q f cs r):AOp P w0 U0 nt ops o (gs++rdl xs.toList) [] S [(d,r)]:=b9v hQ hW hq p t u x y z A
theorem b5o {W:World} (hQ:QUp q) (hW:Hw W w0 U0) (hq:q U0.m w0) {x:Operand} {xs:Array Operand} {ts:Array TypeId} {fc:CV} {cs:List CV} {r:AV} {n q' p} (hg:Gd w0 U0 nt ops o gs S) (hd:o.dst=some d) (hn:Nat.blt d nt=true) (h5:Nat.blt d 100000=true)
  (ho:o.op = .call { callee := .value x,args:=xs,argTypes:=ts }) (hf:ev S x=some ⟨0,fc,n,q',p⟩) (hx:V1 S xs.toList=some cs) (hc:a8a P q fc cs r):AOp P w0 U0 nt ops o (gs++(rd x++rdl xs.toList)) [] S [(d,r)]:=by
 intro s hs _ a w ⟨D,hv,h⟩ Q K hK;rw [if_pos (hg s (fun k hk=>hs k (mem_append_left _ hk)) a w D hv h)];have hargs:=D7 h (fun k hk=>hs k (mem_append_right _ (mem_append_right _ hk))) hx;have tU:=A0 h (fun k hk=>hs k (mem_append_right _ (mem_append_left _ hk))) hf;obtain ⟨f,m,l,rfl,h1,h2,h3,h4⟩:=hc;obtain ⟨ys,zs,e1,e2,e3,e4⟩:=T6.1 tU;obtain ⟨s1,s2⟩:=VReps.split (P7 e4 e3);rw [e2] at s1 s2;have gD:=h4 _ w _ (h.atQ hQ hW hq) (s1.append (hargs.append s2));have he:(execOp a.eval o).run P w = .ok (.enter f (ys++(xs.toList.map a.eval++zs)).toArray) w:=by
  have dR:=h1 (ys.toArray++(xs.map a.eval++zs.toArray)) w;have cL:(ys++(xs.toList.map a.eval++zs)).toArray=ys.toArray++(xs.map a.eval++zs.toArray):=by apply Array.ext';simp
  rw [cL];generalize a.eval=ρ at e1 dR |-;simp [execOp,ho,resolve,invoke,Deferred.ofValue,e1,dR]
 unfold Oper.wp;rw [he,Oper.upon_enter];refine gD.mono ?_;rintro e w' ⟨v,rfl,h6,h7⟩;rw [hd];refine hK _ _ ⟨Dn D w w',hv,(h.growN h7).put (bL hn) (bL h5) (Q5 h2 h3 (X8 rfl h7.size h.below.size h6))⟩
theorem zbH {P:Program} {w0:World} {U0:UX} {nt:Nat} {ops:Array Oper} {o:Oper} {S:Nat->Option AV} {gs:List Nat} {d:Nat} {q:(Nat->Nat->Prop)->World->Prop} {W:World} {x:Operand} {xs:Array Operand} {ts:Array TypeId} {fc:CV} {cs:List CV} {r:AV} {n} {q'} {p} (hQ:QUp q) (hW:Hw W w0 U0) (hq:q U0.m w0) (t:Gd w0 U0 nt ops o gs S:=by exact gN rfl) (u:o.dst=some d:=by exact rfl) (y:Nat.blt d nt=true:=by exact rfl) (z:Nat.blt d 100000=true:=by exact rfl) (A:o.op = .call { callee := .value x,args:=xs,argTypes:=ts }:=by exact rfl) (B:ev S x=some ⟨0,fc,n,q',p⟩:=by exact rfl) (C:V1 S xs.toList=some cs:=by exact rfl) (E:a8a P q fc cs r):AOp P w0 U0 nt ops o (gs++(rd x++rdl xs.toList)) [] S [(d,r)]:=b5o hQ hW hq t u y z A B C E
def b0n (b g:Nat) (l:List CV) (U:Nat->Nat->Prop) (w:World):Prop:=
 w.cell? ⟨b,0,none⟩=some (.map (some g))/\∃ es clock,w.heap[g]?=some (.map es clock)/\Ents U w l es.toList
theorem a3M (b g:Nat) (l:List CV):QUp (b0n b g l):=by
 rintro U V w w' ⟨h1,es,clock,h2,h3⟩ hb hU;have kU:∀ (b o:Nat) (v:Value),w.cell? ⟨b,o,none⟩=some v->b<w.heap.size/\w'.cell? ⟨b,o,none⟩=some v:=fun b o v hc=>by have kA:=World.block_lt_of_cell? w _ hc;refine ⟨kA,?_⟩;have:=hb.block b kA;simp only [World.cell?] at hc |-;rw [this];exact hc
 have hg:g<w.heap.size:=by
  rcases Nat.lt_or_ge g w.heap.size with h | h
  ·exact h
  ·rw [Array.getElem?_eq_none h] at h2;cases h2
 exact ⟨(kU _ _ _ h1).2,es,clock,by rw [hb.block g hg];exact h2,h3.keep fun b o v hu hc=>⟨hU b o (kU b o v hc).1 hu,(kU b o v hc).2⟩⟩
theorem b9u {W:World} {b g:Nat} {l:List CV} (hW:Hw W w0 U0) (hq:b0n b g l U0.m w0) (hg:Gd w0 U0 nt ops o gs S) (hd:o.dst=some d) (hn:Nat.blt d nt=true) (h5:Nat.blt d 100000=true) {x:Operand} {ty:TypeId} {ds:TypeDesc} {n q p} (ho:o.op = .load ty x) (hu:P.underlying ty=some ds) (hi:(P.info? ty).map (·.size)=some 1) (hx:ev S x=some ⟨0,.sc (.pointer (some ⟨b,0,none⟩)),n,q,p⟩) (hk:T7 ds=false):AOp P w0 U0 nt ops o (gs++rd x) [] S [(d,.val (.sc (.map (some g))))]:=
 i9 hg hd hn h5 (fun k hk=>mem_append_left _ hk) fun s hs a w D hv hm=>by
  have h1:=v7 hm (fun k hk=>hs k (mem_append_right _ hk)) hx;obtain ⟨h2,_⟩:=hm.atQ (a3M b g l) hW hq;obtain ⟨v,h4,h6,_⟩:=B4 (c := .sc (.map (some g))) (U:=Us w0 U0 D) (w:=w) (b:=b) (off:=0) (xs:=[.map (some g)]) hu hi hk rfl (N0.2 ⟨rfl,rfl⟩) (fun i hi=>by
   have:i=0:=by simp at hi;omega
   subst this;exact h2)
  refine ⟨v,?_,l5 h6⟩;generalize a.eval=ρ at h1 |-;simp [execOp,ho,Instr.loadAt,Instr.sureAddr,h1,h4]
theorem zbF {P:Program} {w0:World} {U0:UX} {nt:Nat} {ops:Array Oper} {o:Oper} {S:Nat->Option AV} {gs:List Nat} {d:Nat} {q} {W:World} {b:Nat} {g:Nat} {l:List CV} {x:Operand} {ty:TypeId} {ds:TypeDesc} {n} {p} (hW:Hw W w0 U0) (hq:b0n b g l U0.m w0) (r:Gd w0 U0 nt ops o gs S:=by exact gN rfl) (t:o.dst=some d:=by exact rfl) (u:Nat.blt d nt=true:=by exact rfl) (y:Nat.blt d 100000=true:=by exact rfl) (z:o.op = .load ty x:=by exact rfl) (A:P.underlying ty=some ds:=by exact rfl) (B:(P.info? ty).map (·.size)=some 1:=by exact rfl) (C:ev S x=some ⟨0,.sc (.pointer (some ⟨b,0,none⟩)),n,q,p⟩:=by exact rfl) (E:T7 ds=false:=by exact rfl):AOp P w0 U0 nt ops o (gs++rd x) [] S [(d,.val (.sc (.map (some g))))]:=b9u hW hq r t u y z A B C E
theorem b4L {W:World} {b g:Nat} {l:List CV} (hW:Hw W w0 U0) (hq:b0n b g l U0.m w0) (hg:Gd w0 U0 nt ops o gs S) (hd:o.dst=some d) (hn:Nat.blt d nt=true) (h5:Nat.blt d 100000=true) {x y:Operand} {t kt et:TypeId} {k:IntKind} {i:Int} {n0 q0 p0 n' q' p'} (ho:o.op = .lookup t x y true) (hu:P.underlying t=some (.map kt et)) (eY:P.underlying kt=some (.int k)) (eC:(P.info? et).map (·.zero)=some (some (.agg #[.int .i64 0,.slice none 0 0]))) (oA:U5 P et=some (.row [.i 0,.lst []])) (hx:ev S x=some ⟨0,.sc (.map (some g)),n0,q0,p0⟩) (hy:ev S y=some ⟨0,.sc (.int k i),n',q',p'⟩) (hik:x6 k l) {r:Option CV} (hlr:E3 k i l=r):AOp P w0 U0 nt ops o (gs++(rd x++rd y)) [] S [(d,.tup [r.getD (.row [.i 0,.lst []]),.b r.isSome])]:=
 i9 hg hd hn h5 (fun k hk=>mem_append_left _ hk) fun s hs a w D hv hm=>by
  have h1:=v7 hm (fun k hk=>hs k (mem_append_right _ (mem_append_left _ hk))) hx;have e2:=v7 hm (fun k hk=>hs k (mem_append_right _ (mem_append_right _ hk))) hy;subst hlr;obtain ⟨_,es,clock,g2,g3⟩:=hm.atQ (a3M b g l) hW hq;obtain ⟨it,zv,i1,i2,i3⟩:=K6 oA;have eZ:=run_checkKey (P:=P) (w:=w) eY (k := .int k i) rfl es.isEmpty 9999;have hge:=Go.MapKept.run_getObj_map (P:=P) g2;rcases J7 0 g3 hik (i:=i) with ⟨f1,f2⟩ | ⟨j,e,c,f1,f2,f3,f4,f5,f6⟩
  ·have dK:=run_findKey (P:=P) (w:=w) eY f1;have sH:(zeroValue et).run P w = .ok zv w:=by simp [zeroValue,typeInfo,i1,i2]
   refine ⟨.tuple #[zv,.bool false],?_,?_⟩
   ·generalize a.eval=ρ at h1 e2 |-;simp [execOp,ho,Instr.lookup,run_underlying hu,h1,e2,hge,eZ,dK,sH]
   ·rw [f2];have hr:=i3 (Us w0 U0 D) w;exact ⟨[zv,.bool false],rfl,zv,[.bool false],rfl,b8W eC hr ⟨it,i1,i2⟩,.bool false,[],rfl,n7.2 ⟨rfl,rfl⟩,rfl⟩
  ·have dK:=run_findKey (P:=P) (w:=w) eY f1;refine ⟨.tuple #[e.val,.bool true],?_,?_⟩
   ·generalize a.eval=ρ at h1 e2 |-;simp [execOp,ho,Instr.lookup,run_underlying hu,h1,e2,hge,eZ,dK]
   ·rw [f6];exact ⟨[e.val,.bool true],rfl,e.val,[.bool true],rfl,f4,.bool true,[],rfl,n7.2 ⟨rfl,rfl⟩,rfl⟩
theorem zbG {P:Program} {w0:World} {U0:UX} {nt:Nat} {ops:Array Oper} {o:Oper} {S:Nat->Option AV} {gs:List Nat} {d:Nat} {W:World} {b:Nat} {g:Nat} {l:List CV} {x:Operand} {y:Operand} {t:TypeId} {kt:TypeId} {et:TypeId} {k:IntKind} {i:Int} {n0} {q0} {p0} {n'} {q'} {p'} {r:Option CV} (hW:Hw W w0 U0) (hq:b0n b g l U0.m w0) (p:Gd w0 U0 nt ops o gs S:=by exact gN rfl) (u:o.dst=some d:=by exact rfl) (v:Nat.blt d nt=true:=by exact rfl) (z:Nat.blt d 100000=true:=by exact rfl) (A:o.op = .lookup t x y true:=by exact rfl) (B:P.underlying t=some (.map kt et):=by exact rfl) (C:P.underlying kt=some (.int k):=by exact rfl) (E:(P.info? et).map (·.zero)=some (some (.agg #[.int .i64 0,.slice none 0 0])):=by exact rfl) (F:U5 P et=some (.row [.i 0,.lst []]):=by exact rfl) (G:ev S x=some ⟨0,.sc (.map (some g)),n0,q0,p0⟩:=by exact rfl) (H:ev S y=some ⟨0,.sc (.int k i),n',q',p'⟩:=by exact rfl) (hik:x6 k l) (hlr:E3 k i l=r):AOp P w0 U0 nt ops o (gs++(rd x++rd y)) [] S [(d,.tup [r.getD (.row [.i 0,.lst []]),.b r.isSome])]:=b4L hW hq p u v z A B C E F G H hik hlr
theorem b0m {f : FuncId} {fn : Func} {c : Code} {args rs : List CV} (hf : P.funcs[f]? = some fn) (hn : fn.ntmps = nt) (bF : (fn.name == "runtime.NumGoroutine") = false) (hb : fn.body = some c) (hl : Nat.ble args.length nt = true) (dO : Nat.blt nt 100000 = true)
  (h:∀ (w:World) (U:UX),Hw w w U->q U.m w->AWp P w U nt c (fun e s'=>(e = .normal\/e = .ret)/\a8Y P s' fn.results.toList=some rs) (a6J args 0)):a7U P q f args (J8 rs):=by
 have jB:((J8 rs).t=0\/(J8 rs).t=4)/\(J8 rs).n=0:=by
  unfold J8;split
  ·exact ⟨.inl rfl,rfl⟩
  ·exact ⟨.inr rfl,rfl⟩
 refine ⟨C7 hf bF (by rw [hb];rfl),jB.1,jB.2,fun U w vs hq hargs=>?_⟩;have kF:=hargs.len;refine calls_of_wp hf hb ?_;have cV:=Nat.le_of_ble_eq_true hl;have dO:=bL dO;have gB:∀ {k av},100000<=k->look (a6J args 0) k=some av->False:=fun {k av} h1 h2=>by rw [a6E (by omega)] at h2;cases h2
 obtain ⟨V,hV⟩:∃ V:UX,V=⟨U,fun _=>False,fun _=>none,fun _ _ h=>by cases h⟩:=⟨_,rfl⟩
 have hs:Sim w V nt (a6J args 0) { tmps:=vs.toArray++Array.replicate (fn.ntmps-vs.toArray.size) undef,defers:=[] } w:=by
  refine ⟨fun _ _=>False,fun _ => .slice none 0 0,BelowX.refl _ _,rfl,by simp [hn];omega,fun d av h1 h2=>?_,fun n o av h1=>(gB (by unfold d9;omega) h1).elim,fun n o o' av av' h1=>(gB (by unfold d9;omega) h1).elim,fun k av h1 h2=>(gB h2.1 h1).elim,fun k av g h1 h2=>(gB h2.1 h1).elim,fun k k' av av' g h1 h2 h3=>(gB h3.1 h1).elim,fun n g h1=>(by rw [hV] at h1;cases h1),fun b o hd=>hd.elim⟩;obtain ⟨_,c',h3,rfl⟩:=Y7 h1;rw [Nat.sub_zero] at h3;obtain ⟨v,h4,h5⟩:=hargs.at h3;have hdl:d<vs.length:=by
   rcases Nat.lt_or_ge d vs.length with h | h
   ·exact h
   ·rw [List.getElem?_eq_none h] at h4;cases h4
  refine ⟨v,?_,l5 (h5.keep fun b o v hu hc=>⟨.inl ⟨World.block_lt_of_cell? w _ hc,by rw [hV];exact ⟨hu,fun h=>h⟩⟩,hc⟩)⟩;rw [Array.getElem?_append_left (by simpa using hdl)];simpa using h4
 refine wp_mono ((h w V (by rw [hV];exact ⟨fun _=>rfl,fun _ h=>h⟩) (by rw [hV];exact hq) ⟨none,[]⟩ _ w hs).wp rfl (fun e a w ⟨s,_,h⟩=>h.df)) ?_;rintro e a' w' ⟨s',⟨h1,h2⟩,D,hv,h3⟩;obtain ⟨v,h4,h5⟩:=a7q h3 h2;have hR:RR (fun b o=>U b o\/w.heap.size<=b) w' (J8 rs) v:=by
  have hk:∀ b o u,Us w V D b o->w'.cell? ⟨b,o,none⟩=some u->(U b o\/w.heap.size<=b)/\w'.cell? ⟨b,o,none⟩=some u:=fun b o u hu hc=>⟨hu.imp (fun h=>by rw [hV] at h;exact h.2.1) fun h=>h.1,hc⟩
  unfold RR at h5 |-;split
  ·rename_i ht;rw [if_pos ht] at h5;obtain ⟨vs,h6,h7⟩:=h5;exact ⟨vs,h6,h7.keep hk⟩
  ·rename_i ht;rw [if_neg ht] at h5;exact h5.keep hk
 have mC:Below w.heap.size w w':=h3.below.below (by rw [hV];exact fun _ h=>h);rcases h1 with rfl | rfl
 ·exact ⟨h3.dfr,v,h4,v,rfl,hR,mC⟩
 ·exact ⟨h3.dfr,v,h4,v,rfl,hR,mC⟩
end
end
noncomputable def imR (b:Bd):CV := .row [.sc (.int .i64 b.v),b.t.cw]
theorem a4Q (L:List Bd):x6 .i64 (L.map imR):=fun r hr=>by
 obtain ⟨b,_,rfl⟩:=List.mem_map.1 hr;exact ⟨_,_,rfl⟩
theorem b0c (v:Int):∀ L:List Bd,E3 .i64 v (L.map imR)=(b6 L v).map Tm.cw
 | []=>rfl
 | b::L=>by
  rw [map_cons];unfold imR;rw [O4,b6];by_cases h:b.v=v
  ·rw [if_pos h,if_pos h];rfl
  ·rw [if_neg h,if_neg h];exact b0c v L
theorem b6C (b g:Nat) (L:List Bd) (v:Int) (h1:0<=v) (h2:v<=9223372036854775807):a7U Tryz.prog (b0n b g (L.map imR)) 112 [.i v,.sc (.pointer (some ⟨b,0,none⟩))] (.val (c9 L v).cw):=by
 refine b0m (rs:=[(c9 L v).cw]) Tryz.func112 Tryz.ntmps112 rfl rfl rfl rfl ?_;intro w U hW hq;have hQ:=a3M b g (L.map imR);have kC:=b0c v L;refine aS (aR ?_);refine nc zk ?_;unfold c9;cases hf:b6 L v with
 | none =>
  rw [hf] at kC;refine aS (aS (aR ?_));refine nc (zbF hW hq) (nc zl (nc (zbG hW hq (hik:=a4Q _) (hlr:=kC)) (nc zl (nc zx (nc zx (nc zk (nc zo (nc ze ?_))))))));refine aS (aR ?_);refine nc zl ?_;refine aC rfl (fun hc=>?_) (fun hc=>?_)
  ·cases hc
  ·refine aK ?_;refine aS (aR ?_);refine nc zl (nc (zw (z:=a0p w v h1 h2)) (nc zo ?_));exact aT (And.intro (.inr rfl) rfl)
 | some t =>
  rw [hf] at kC;refine aS (aS (aR ?_));refine nc (zbF hW hq) (nc zl (nc (zbG hW hq (hik:=a4Q _) (hlr:=kC)) (nc zl (nc zx (nc zx (nc zk (nc zo (nc ze ?_))))))));refine aS (aR ?_);refine nc zl ?_;refine aC rfl (fun hc=>?_) (fun hc=>?_)
  ·refine aS (aR ?_);refine nc zy (nc zo ?_);exact aT (And.intro (.inr rfl) rfl)
  ·cases hc
theorem a6O {q:(Nat->Nat->Prop)->World->Prop} (hQ:QUp q) (fc:CV) (img:Int->Tm) (hI:∀ v,0<=v->v<=9223372036854775807->a8a Tryz.prog q fc [.i v] (.val (img v).cw)/\(img v).rng/\(img v).size<=90000000000):∀ t:Tm,t.rng->t.ok->a7U Tryz.prog q 59 [t.cw,fc] (.val (b7 img t).cw):=by
 intro t
 induction t using Tm.ind with
 | h f l ih =>
 intro hr kG;have kG:=(Tm.ok_iff _).1 kG;have hr:=(Tm.rng_iff _).1 hr;simp only at kG hr;have kD:=Tm.size_all l;refine b0m (rs:=[(b7 img ⟨f,l⟩).cw]) Tryz.func59 Tryz.ntmps59 rfl rfl rfl rfl ?_;intro w U hW hq;refine aS (aR ?_);refine nc zd (nc zk ?_);refine aS (aS (aR ?_));refine nc zy ?_;refine nc (zw (z:=S0 w ⟨f,l⟩)) ?_;refine aC rfl (fun hc=>?_) (fun hc=>?_)
 ·have hf:f<0:=by simpa using hc
  rw [j5 hf];obtain ⟨i1,i2,i3⟩:=hI (-1-f) (by omega) (by omega);refine aS (aR ?_);refine nc zl (nc zy ?_);refine nc (zw (z:=W5 w ⟨f,l⟩ hr.1.1 hf)) ?_;refine nc (zbH hQ hW hq (E:=i1)) (nc (zw (z:=a2q w i2 i3)) (nc zo ?_));exact aT (And.intro (.inr rfl) rfl)
 ·have hf:¬ f<0:=by simpa using hc
  rw [i8 hf];refine aK ?_;refine aS (aR ?_);refine nc ze ?_;refine aS (aS (aR ?_));refine nc zg (nc zh (nc zp (nc zl ?_)));refine aB (b9 l.length (fun k=>[(1,.val fc),(2,.bp 2 0 []),(100002,.bx (Tm.cw ⟨f,l⟩)),(4,.bp 4 0 []),(100004,⟨5,.row [.i 0,.lst []],1,0,[1]⟩),(5,.own (.lst ((l.take k).map fun t=>(b7 img t).cv)) 200027),(200027,.tok 42 2),(16,.val (.lst (l.map Tm.cv))),(17,.val (.i (l.map Tm.cv).length)),(18,.val (.i k))])
   ((v9 5 200027 42 2 rfl rfl rfl rfl rfl rfl rfl).trans (a7 ⟨rfl,rfl,rfl,rfl,rfl,rfl,rfl,rfl,rfl,rfl,trivial⟩)) ?_)
  intro k hk;refine aS (aR ?_);refine nc zi ?_;refine aS (aC rfl (fun hc=>?_) (fun hc=>?_))
  ·have kB:k<l.length:=by simp only [length_map,decide_eq_true_eq] at hc;omega
   obtain ⟨t,ht⟩:∃ t,l[k]?=some t:=⟨l[k],getElem?_eq_getElem kB⟩
   have mH:=Tm.map_at ht;have iB:=mem_of_getElem? ht;have cR:∀ c∈(l.take k).map fun t=>(b7 img t).cv,c.size=2:=by intro c hc;obtain ⟨t,_,rfl⟩:=List.mem_map.1 hc;exact Tm.size_cv _
   refine aK ?_;refine aS (aB (aS (aR ?_)));refine nc (zq (H:=by assumption) (hz:=by first | assumption | exact sZ rfl | exact Tm.size_all _ | exact Bd.size_all _ | exact b8 _ | exact bys_size _ | exact Lt.size_all _)) (nc zr (nc zk (nc zo ?_)));refine aR ?_;refine nc zl (nc zy (nc zl (nc (zbI hQ hW hq (A:=ih t iB (hr.2 t iB) (kG.2 t iB))) (nc zC (nc zD (nc ze ?_))))));refine aR ?_;refine nc zu (nc zl ?_);refine ⟨kB,Wk.trans (a7 (s':=[(1,.val fc),(2,.bp 2 0 []),(100002,.bx (Tm.cw ⟨f,l⟩)),(4,.bp 4 0 []),(100004,⟨5,.row [.i 0,.lst []],1,0,[1]⟩),(5,.own (.lst ((l.take (k+1)).map fun t=>(b7 img t).cv)) 300027),(300027,.tok 42 2),(16,.val (.lst (l.map Tm.cv))),(17,.val (.i (l.map Tm.cv).length)),(18,.val (.i ((k+1:Nat):Int)))]) ⟨rfl,rfl,rfl,rfl,rfl,?_,rfl,rfl,rfl,rfl,trivial⟩) (o8 300027 200027 rfl rfl rfl rfl)⟩;rw [take_add_one,ht,map_append];simp only [Option.toList_some,map_cons,map_nil,Tm.cv_eq];rfl
  ·have kB:k=l.length:=by simp only [length_map,decide_eq_false_iff_not] at hc;omega
   subst kB;rw [take_length];refine aE ?_;refine aS (aR ?_);refine nc zg (nc zh (nc zl (nc zn (nc zo ?_))));refine aT (And.intro (.inr rfl) ?_);unfold Tm.cw;rw [List.map_map];rfl
section
open Go.RowKit Go.MapKept Go.Shelf
attribute [local go_sem] Oper.semAt_some
set_option maxRecDepth 100000 in
set_option maxHeartbeats 2000000 in
theorem b5l (l Bb ob n:Nat) (c0 c1 c2:Nat->Value) (R:Nat->Nat->Prop) (w:World) (ao:Option Addr) (cap:Nat) (dV:w.cell? ⟨Bb,ob,none⟩=some (.slice ao n cap)) (qE:R Bb ob) (cM:∀ i,i<n->∃ b off,ao=some ⟨b,off,none⟩/\(R b (off+i*3)/\w.cell? ⟨b,off+i*3,none⟩=some (c0 i))/\(R b (off+i*3+1)/\w.cell? ⟨b,off+i*3+1,none⟩=some (c1 i))/\(R b (off+i*3+2)/\w.cell? ⟨b,off+i*3+2,none⟩=some (c2 i))) (hl:n<=1000000000)
  (J:List Nat->World->Prop) (hJ:∀ pre A B,J pre A->Below A.heap.size A B->J pre B)
  (hY:∀ pre (x:Nat) V,J pre V->x=pre.length/\x<n->YieldAt Fence.wide 1 Tryz.prog l #[.int .i64 ((n:Int)-1-x),.agg #[c0 (n-1-x),c1 (n-1-x),c2 (n-1-x)]] V fun e V'=>e = .returned (.bool true)/\J (pre++[x]) V'/\KpX w.heap.size (fun b=>¬ ∃ o,R b o) V V')
  (W:World) (hW:Below w.heap.size w W) (h0:J [] W) :
  CallsIn Fence.wide 2 Tryz.prog 138 #[.func (.yield l) #[] #[],.pointer (some ⟨Bb,ob,none⟩)] W fun e W'=>(∃ v,e = .returned v)/\∃ ys,ys=List.range n/\J ys W':=by
 have fF:∀ {V:World},KpX w.heap.size (fun b=>¬ ∃ o,R b o) w V->V.cell? ⟨Bb,ob,none⟩=some (.slice ao n cap)/\∀ i,i<n->∃ b off,ao=some ⟨b,off,none⟩/\V.cell? ⟨b,off+i*3,none⟩=some (c0 i)/\V.cell? ⟨b,off+i*3+1,none⟩=some (c1 i)/\V.cell? ⟨b,off+i*3+2,none⟩=some (c2 i):=fun {V} hV=>by
  have kJ:∀ b o u,R b o->w.cell? ⟨b,o,none⟩=some u->V.cell? ⟨b,o,none⟩=some u:=fun b o u hr hc=>by have hb:b<w.heap.size:=World.block_lt_of_cell? w _ hc;rw [World.cell?_of_block (w:=w) (hV b hb (fun hn=>hn ⟨o,hr⟩))];exact hc
  refine ⟨kJ _ _ _ qE dV,fun i hi=>?_⟩;obtain ⟨b,off,h1,⟨g1,g2⟩,⟨g3,g4⟩,g5,g6⟩:=cM i hi;exact ⟨b,off,h1,kJ _ _ _ g1 g2,kJ _ _ _ g3 g4,kJ _ _ _ g5 g6⟩
 have pO:KpX w.heap.size (fun b=>¬ ∃ o,R b o) w W:=fun b hb _=>hW.block b hb;have HC:Hid (∀ {V:World},KpX w.heap.size (fun b=>¬ ∃ o,R b o) w V->V.cell? ⟨Bb,ob,none⟩=some (.slice ao n cap)/\∀ i,i<n->∃ b off,ao=some ⟨b,off,none⟩/\V.cell? ⟨b,off+i*3,none⟩=some (c0 i)/\V.cell? ⟨b,off+i*3+1,none⟩=some (c1 i)/\V.cell? ⟨b,off+i*3+2,none⟩=some (c2 i)):=fun {V} h=>fF h;clear fF dV cM qE;obtain ⟨pH,_⟩:=HC.out pO;refine callsIn_of_wp Tryz.func138 rfl trivial ?_ rfl;simp only [Tryz.ntmps138,size_toArray,length_cons,length_nil,Nat.reduceAdd,Nat.reduceSub,Array.replicate_succ,Array.replicate_zero,push_toArray,append_toArray,nil_append,cons_append]
 gi_wp2
 gi_loopw [3] (fun iv wr=>∃ (z:Int) (k:Nat),iv = .int .i64 z/\z=(n:Int)-1-k/\k<=n/\J (List.range k) wr/\KpX w.heap.size (fun b=>¬ ∃ o,R b o) w wr) (fun iv wr=>(intOf iv+1).toNat)
 case atStart=>exact ⟨_,0,rfl,by omega,by omega,by simpa using h0,pO⟩
 case round =>
  obtain ⟨z,k,rfl,hz,hk,pG,wS⟩:=hrel;clear pH h0 pO;obtain ⟨gC,gM⟩:=HC.out wS;by_cases fA:k=n
  ·have fZ:z = -1:=by omega
   subst fZ
   gi_wp2
   go_end0
   refine ⟨⟨_,rfl⟩,_,rfl,?_⟩;rw [fA] at pG;exact pG
  ·obtain ⟨j,hj⟩:∃ j:Nat,j=n-1-k:=⟨_,rfl⟩
   have hzj:z=(j:Int):=by omega
   have uH:j<n:=by omega
   subst hzj;obtain ⟨b,off,rfl,gA,uF,sY⟩:=gM j uH;obtain ⟨fn,tmps,assign,body,hy,hR⟩:=hY (List.range k) k _ pG ⟨by simp,by omega⟩;rw [show (n:Int)-1-k=(j:Int) by omega,show n-1-k=j from hj.symm] at hy;obtain ⟨v0,lO⟩:∃ v,v=c0 j:=⟨_,rfl⟩
   obtain ⟨v1,gG⟩:∃ v,v=c1 j:=⟨_,rfl⟩
   obtain ⟨v2,gU⟩:∃ v,v=c2 j:=⟨_,rfl⟩
   rw [<-lO] at gA hy;rw [<-gG] at uF hy;rw [<-gU] at sY hy;clear gM lO gG gU;have hy:Sem.run Tryz.prog (Instr.yield l #[.int .i64 (j:Int),.agg #[v0,v1,v2]]) wr = .ok (.round l fn tmps assign body) wr:=hy;have HJ:Hid (j=n-1-k/\k<n):=⟨hj,by omega⟩
   clear hj hz fA hk
   gi_wp2
   refine hR.mono ?_;rintro e V3 ⟨rfl,sA,pF⟩
   gi_wp2
   go_roundw
   case rel=>exact ⟨_,k+1,rfl,by have:=HJ.out;omega,by have:=HJ.out;omega,by rw [List.range_succ];exact sA,fun b' hb' kI=>(pF b' hb' kI).trans (wS b' hb' kI)⟩
   case measure=>simp [intOf]
theorem sq3 {R:Nat->Nat->Prop} {w:World}:∀ {L:List Bd} {ys:List Value},Sq ((L.map Bd.cv).map fun c=>Rep R w c) ys->ys.length=3*L.length/\∀ i b,L[i]?=some b->Rep R w b.cw [ys.getD (i*3) undef,ys.getD (i*3+1) undef,ys.getD (i*3+2) undef]
 | [],ys,h=>by
  have h:ys=[]:=h;subst h;exact ⟨rfl,fun i b h=>by simp at h⟩
 | x::L,ys,⟨us,bs,e,h1,h2⟩=>by
  obtain ⟨ih1,ih2⟩:=sq3 (L:=L) h2;have kF:us.length=3:=h1.len;obtain ⟨u0,u1,u2,rfl⟩:∃ u0 u1 u2,us=[u0,u1,u2]:=by
   match us,kF with
   | [u0,u1,u2],_=>exact ⟨u0,u1,u2,rfl⟩
  subst e;refine ⟨by simp;omega,fun i b hi=>?_⟩;cases i with
  | zero =>
   simp at hi;subst hi;exact h1
  | succ i =>
   have:=ih2 i b (by simpa using hi);have hg:∀ k,([u0,u1,u2]++bs).getD (k+3) undef=bs.getD k undef:=fun k=>by simp [List.getD_eq_getElem?_getD]
   rw [show (i+1)*3=i*3+3 by omega,show i*3+3+1=i*3+1+3 by omega,show i*3+3+2=i*3+2+3 by omega,hg,hg,hg];exact this
theorem a8p {R:Nat->Nat->Prop} {w:World} {L:List Bd} {Bb ob:Nat} {ao:Option Addr} {cap:Nat} (hl:L.length<=1000000000) (dV:w.cell? ⟨Bb,ob,none⟩=some (.slice ao L.length cap)) (qE:R Bb ob) (hv:VRep R w (.lst (L.map Bd.cv)) (.slice ao L.length cap)) :
  ∃ c0 c1 c2:Nat->Value,(∀ i b,L[i]?=some b->VRep R w b.cw (.agg #[c0 i,c1 i,c2 i])) /\
   Z9 Tryz.prog 138 #[.pointer (some ⟨Bb,ob,none⟩)] (fun x:Nat => #[.int .i64 ((L.length:Int)-1-x),.agg #[c0 (L.length-1-x),c1 (L.length-1-x),c2 (L.length-1-x)]]) (fun pre x _=>x=pre.length/\x<L.length) (KpX w.heap.size fun b=>¬ ∃ o,R b o) (fun ys=>ys=List.range L.length) w:=by
 obtain ⟨a',n',c',e0,e1,e2,e3,e4,ys,e5,e6⟩:=l4.1 hv;injection e0 with e0 _ _;subst e0;obtain ⟨s1,s2⟩:=sq3 e6;refine ⟨fun i=>ys.getD (i*3) undef,fun i=>ys.getD (i*3+1) undef,fun i=>ys.getD (i*3+2) undef,fun i b hb=>⟨_,rfl,s2 i b hb⟩,?_⟩;intro l J W hW hJ hY h0;refine b5l l Bb ob L.length (fun i=>ys.getD (i*3) undef) (fun i=>ys.getD (i*3+1) undef) (fun i=>ys.getD (i*3+2) undef) R w ao cap dV qE (fun i hi=>?_) hl J hJ hY W hW h0;rcases e5 with h1 | ⟨b,off,h1,h2⟩
 ·rw [h1] at s1;simp at s1;omega
 ·have hk:∀ k,k<ys.length->R b (off+k)/\w.cell? ⟨b,off+k,none⟩=some (ys.getD k undef):=fun k hk=>by obtain ⟨g1,g2⟩:=h2 k hk;exact ⟨g1,by rw [g2,List.getD_eq_getElem?_getD,getElem?_eq_getElem hk];rfl⟩
  exact ⟨b,off,h1,hk (i*3) (by omega),hk (i*3+1) (by omega),hk (i*3+2) (by omega)⟩
def a2Z (b:Bd):List Bd->List Bd
 | []=>[b]
 | x::M=>if x.v=b.v then b::M else x::a2Z b M
theorem a9K (b:Bd):∀ M:List Bd,a2u .i64 b.v b.t.cw (M.map imR)=(a2Z b M).map imR
 | []=>rfl
 | x::M=>by
  rw [map_cons,a2Z];have h1:=a4Z (k := .i64) (i:=b.v) (j:=x.v) (c:=b.t.cw) (c':=x.t.cw) (l:=M.map imR);by_cases h:x.v=b.v
  ·rw [if_pos h] at h1 |-;exact h1
  ·rw [if_neg h] at h1 |-;rw [a9K b M] at h1;exact h1
theorem a6v (b:Bd) (v:Int):∀ M:List Bd,b6 (a2Z b M) v=if b.v=v then some b.t else b6 M v
 | []=>rfl
 | x::M=>by
  rw [a2Z];by_cases h:x.v=b.v
  ·rw [if_pos h,b6,b6];by_cases h2:b.v=v
   ·rw [if_pos h2,if_pos h2]
   ·rw [if_neg h2,if_neg h2,if_neg (by omega)]
  ·rw [if_neg h,b6,b6,a6v b v M];by_cases h2:b.v=v
   ·rw [if_pos h2,if_pos h2,if_neg (by omega)]
   ·rw [if_neg h2,if_neg h2]
def a3o (L:List Bd) (k:Nat):List Bd:=(L.reverse.take k).foldl (fun M b=>a2Z b M) []
theorem b4u {L:List Bd} {k:Nat} {b:Bd} (h:L[L.length-1-k]?=some b) (hk:k<L.length):a3o L (k+1)=a2Z b (a3o L k):=by
 unfold a3o;rw [take_add_one,List.getElem?_reverse hk,h,List.foldl_append];rfl
theorem b3K:∀ (L:List Bd) (v:Int),b6 (a3o L L.length) v=b6 L v:=by
 intro L v;have:∀ L:List Bd,b6 (L.reverse.foldl (fun M b=>a2Z b M) []) v=b6 L v:=by
  intro L
  induction L with
  | nil=>rfl
  | cons b L ih =>
   rw [List.reverse_cons,List.foldl_append];show b6 (a2Z b _) v=_;rw [a6v,ih,b6]
 unfold a3o;rw [<-List.length_reverse,take_length];exact this L
attribute [local go_sem] Oper.semAt_some
theorem b9L {P:Program} {w:World} {U:Nat->Nat->Prop} {t kt et:TypeId} {k:IntKind} {i:Int} {l:List CV} {g clock:Nat} {es:Array MapEntry} {val:Value} {c:CV} (hu:P.underlying t=some (.map kt et)) (eY:P.underlying kt=some (.int k)) (g2:w.heap[g]?=some (.map es clock)) (g3:Ents U w l es.toList) (hik:x6 k l) (e3:VRep U w c val) :
  ∃ es' clock',(Instr.mapUpdate t (.map (some g)) (.int k i) val).run P w = .ok () { w with heap:=w.heap.setIfInBounds g (.map es' clock') }/\Ents U w (a2u k i c l) es'.toList:=by
 have eZ:=run_checkKey (P:=P) (w:=w) eY (k := .int k i) rfl false 9999;have hge:=Go.MapKept.run_getObj_map (P:=P) g2;obtain ⟨p1,p2'⟩:=Z0 (i:=i) c hik;rcases J7 0 g3 hik (i:=i) with ⟨f1,f2⟩ | ⟨j,e,c',f1,f2,f3,f4,f5,f6⟩
 ·have dK:=run_findKey (P:=P) (w:=w) eY f1;refine ⟨es.push { key := .int k i,val:=val,born:=clock },clock+1,?_,?_⟩
  ·have fS:=run_setObj_map (P:=P) (Obj.map (es.push { key := .int k i,val:=val,born:=clock }) (clock+1)) g2;simp [Instr.mapUpdate,run_underlying hu,hge,eZ,dK,fS]
  ·rw [p1 f2,Array.toList_push];exact a1Y g3 ⟨.sc (.int k i),c,rfl,rfl,rfl,e3⟩
 ·have dK:=run_findKey (P:=P) (w:=w) eY f1;rw [Nat.zero_add] at dK;have gK:j<es.size:=by have:=(List.getElem?_eq_some_iff.1 f2).1;simpa using this
  have vN:es[j]?=some e:=by rw [<-Array.getElem?_toList];exact f2
  have pV:(es.modify j fun e=>{ e with key := .int k i,val:=val }).toList=es.toList.set j { e with key := .int k i,val:=val }:=by
   rw [Array.toList_modify];apply List.ext_getElem?;intro q;rw [List.getElem?_modify,List.getElem?_set];by_cases hq:j=q
   ·subst hq;have:es[j]=e:=(Array.getElem?_eq_some_iff.1 vN).2;simp [gK,this]
   ·simp [hq]
  refine ⟨es.modify j fun e=>{ e with key := .int k i,val:=val },clock,?_,?_⟩
  ·have fS:=run_setObj_map (P:=P) (Obj.map (es.modify j fun e=>{ e with key := .int k i,val:=val }) clock) g2;have dN:(Instr.keyThatStays (.int k i) (.int k i)).run P w = .ok (.int k i) w:=by simp [Instr.keyThatStays,Instr.sameBits]
   simp [Instr.mapUpdate,run_underlying hu,hge,eZ,dK,fS,vN,f5,dN]
  ·rw [pV,p2' j c' f3 (a0K 0 (j:=j) g3 hik f1)];exact a4O g3 ⟨.sc (.int k i),c,rfl,rfl,rfl,e3⟩
theorem a2U {F:Fence} {nF:Nat} {P:Program} (w:World) {ops:Array Oper} {rest:List Oper} {o:Oper} {a:Act} {Q:Exit->Act->World->Prop}
  (hg:o.guard=none) (m x v:Operand) (t:TypeId) (rO:o.op=Op.mapUpdate t m x v) {mv key val:Value} (hm:a.eval m=mv) (hx:a.eval x=key) (hv:a.eval v=val) {w':World} (kW:(Instr.mapUpdate t mv key val).run P w = .ok () w')
  (hK:wpListIn F nF P ops Q rest (a.put o.dst undef) w'):wpListIn F nF P ops Q (o::rest) a w:=by
 refine wpListIn_plain hg fun K' hK'=>?_;unfold Oper.wpIn;refine ⟨by simp [Oper.about,rO],?_⟩;rw [Oper.semAt_plain F _ _ (by rw [rO];intro c vM;cases vM)];simp [execOp,rO,hm,hx,hv,kW,Result.andThen];exact hK' _ _ hK
theorem b0R (ao:Option Addr) (n c:Nat) (w:World) :
  CallsIn Fence.wide 2 Tryz.prog 111 #[.slice ao n c] w fun e w'=>e = .returned (.func (.func 138) #[] #[.pointer (some ⟨w.heap.size,0,none⟩)])/\w'=w.alloc (.cells #[.slice ao n c] 58):=by
 refine callsIn_of_wp Tryz.func111 rfl trivial ?_ rfl;simp only [Tryz.ntmps111,size_toArray,length_cons,length_nil,Nat.reduceAdd,Nat.reduceSub,Array.replicate_succ,Array.replicate_zero,push_toArray,append_toArray,nil_append,cons_append]
 gi_wp2
 go_ret
 exact ⟨rfl,rfl⟩
theorem b3i {R:Nat->Nat->Prop} {w:World} {b:Bd} {u0 u1 u2:Value} (h:VRep R w b.cw (.agg #[u0,u1,u2])):u0 = .int .i64 b.v/\VRep R w b.t.cw (.agg #[u1,u2]):=by
 obtain ⟨xs,e,h1⟩:=I6.1 h;have eN:xs=[u0,u1,u2]:=by injection e with e;have:=congrArg Array.toList e;simpa using this.symm
 subst eN;obtain ⟨us,bs,e1,k1,us',bs',e2,k3,k4⟩:=h1;have eX:us=[.int .i64 b.v]:=(N0.1 k1).1;have dG:bs'=[]:=k4;subst eX;subst dG;subst e2;simp at e1;obtain ⟨e3,e4⟩:=e1;subst e4;exact ⟨e3,_,rfl,k3⟩
theorem a5f {R:Nat->Nat->Prop} {w:World} {t:Tm} {u1 u2:Value} (h:VRep R w t.cw (.agg #[u1,u2])):u1 = .int .i64 t.f/\∃ a m c,u2 = .slice a m c:=by
 obtain ⟨xs,e,h1⟩:=I6.1 h;have eN:xs=[u1,u2]:=by injection e with e;have:=congrArg Array.toList e;simpa using this.symm
 subst eN;obtain ⟨us,bs,e1,k1,us',bs',e2,k3,k4⟩:=h1;have eX:us=[.int .i64 t.f]:=(N0.1 k1).1;have dG:bs'=[]:=k4;subst eX;subst dG;subst e2;simp at e1;obtain ⟨e3,e4⟩:=e1;subst e4;obtain ⟨a,m,c,e5,_⟩:=T5.1 k3;simp at e5;exact ⟨e3,a,m,c,e5⟩
theorem a8D {α:Type} {P:Program} {gf:Nat} {lb:Array Value} {encs encs':α->Array Value} {Ok:List α->α->World->Prop} {Kp:World->World->Prop} {S:List α->Prop} {w:World} (he:∀ pre x V,Ok pre x V->encs x=encs' x) (h:Z9 P gf lb encs Ok Kp S w):Z9 P gf lb encs' Ok Kp S w:=
 fun l J W hW hJ hY h0=>h l J W hW hJ (fun pre x V hj kG=>by rw [he pre x V kG];exact hY pre x V hj kG) h0
theorem a8t {R:Nat->Nat->Prop} {w:World} {L:List Bd} {Bb ob n:Nat} {ao:Option Addr} {cap:Nat} (hn:n=L.length) (hl:L.length<=1000000000) (dV:w.cell? ⟨Bb,ob,none⟩=some (.slice ao n cap)) (qE:R Bb ob) (hv:VRep R w (.lst (L.map Bd.cv)) (.slice ao L.length cap)) :
  ∃ (v f:Nat->Int) (a:Nat->Option Addr) (m c:Nat->Nat),(∀ x b,x<n->L[n-1-x]?=some b->VRep R w b.cw (.agg #[.int .i64 (v x),.int .i64 (f x),.slice (a x) (m x) (c x)])) /\
   Z9 Tryz.prog 138 #[.pointer (some ⟨Bb,ob,none⟩)] (fun x:Nat => #[.int .i64 ((n:Int)-1-x),.agg #[.int .i64 (v x),.int .i64 (f x),.slice (a x) (m x) (c x)]]) (fun pre x _=>x=pre.length/\x<n) (KpX w.heap.size fun b=>¬ ∃ o,R b o) (fun ys=>ys=List.range n) w:=by
 subst hn;obtain ⟨c0,c1,c2,hc,hG⟩:=a8p hl dV qE hv;have hx:∀ x:Nat,∃ (q:Int×Int×Option Addr×Nat×Nat),x<L.length->c0 (L.length-1-x) = .int .i64 q.1/\c1 (L.length-1-x) = .int .i64 q.2.1/\c2 (L.length-1-x) = .slice q.2.2.1 q.2.2.2.1 q.2.2.2.2:=fun x=>by
  by_cases h:x<L.length
  ·obtain ⟨bd,bS⟩:∃ bd,L[L.length-1-x]?=some bd:=⟨L[L.length-1-x]'(by omega),getElem?_eq_getElem _⟩
   obtain ⟨g0,g1⟩:=b3i (hc _ _ bS);obtain ⟨g2,a,m,c,g3⟩:=a5f g1;exact ⟨⟨bd.v,bd.t.f,a,m,c⟩,fun _=>⟨g0,g2,g3⟩⟩
  ·exact ⟨⟨0,0,none,0,0⟩,fun h2=>absurd h2 h⟩
 obtain ⟨q,hq⟩:∃ q:Nat->Int×Int×Option Addr×Nat×Nat,∀ x:Nat,x<L.length->c0 (L.length-1-x) = .int .i64 (q x).1/\c1 (L.length-1-x) = .int .i64 (q x).2.1/\c2 (L.length-1-x) = .slice (q x).2.2.1 (q x).2.2.2.1 (q x).2.2.2.2:=⟨fun x=>(hx x).choose,fun x=>(hx x).choose_spec⟩
 clear hx;refine ⟨fun x=>(q x).1,fun x=>(q x).2.1,fun x=>(q x).2.2.1,fun x=>(q x).2.2.2.1,fun x=>(q x).2.2.2.2,fun x b jN hb=>?_,a8D (fun pre x V kG=>?_) hG⟩
 ·obtain ⟨g1,g2,g3⟩:=hq x jN;have:=hc _ _ hb;rw [g1,g2,g3] at this;exact this
 ·obtain ⟨g1,g2,g3⟩:=hq x kG.2;rw [g1,g2,g3]
def ImR (w:World) (R:Nat->Nat->Prop) (b o:Nat):Prop:=(R b o/\b<w.heap.size)\/b=w.heap.size+1+1
def ImI (w wl:World) (R:Nat->Nat->Prop) (L:List Bd) (k:Nat) (W:World):Prop:=
 W.heap[w.heap.size+1]?=some (.cells #[.map (some w.heap.size)] 146 (0,0))/\(∃ es clock,W.heap[w.heap.size]?=some (.map es clock)/\Ents (ImR w R) W ((a3o L k).map imR) es.toList)/\Below w.heap.size w W/\w.heap.size+3<=W.heap.size/\KpX (w.heap.size+3) (fun b=>¬ ∃ o,ImR w R b o) wl W
theorem a5x {w:World} {R:Nat->Nat->Prop} {b o:Nat} (h:ImR w R b o):b<w.heap.size+3/\b≠w.heap.size:=by
 rcases h with h | h
 ·have:=h.2;omega
 ·omega
theorem ImI.up {w wl:World} {R:Nat->Nat->Prop} {L:List Bd} {k:Nat} {W W':World} (h:ImI w wl R L k W) (hb:∀ b,b<w.heap.size+3->W'.heap[b]?=W.heap[b]?) (hB:Below w.heap.size W W'):ImI w wl R L k W':=by
 obtain ⟨h1,⟨es,clock,h2,h3⟩,h4,h5,h6⟩:=h;refine ⟨by rw [hb _ (by omega)];exact h1,⟨es,clock,by rw [hb _ (by omega)];exact h2,h3.keep fun b o u hu hc=>⟨hu,?_⟩⟩,h4.trans hB,Nat.le_trans h5 hB.size,fun b hb' hx=>(hb b hb').trans (h6 b hb' hx)⟩;rw [World.cell?_of_block (w:=W) (hb b (a5x hu).1)];exact hc
theorem ImI.put {w wl:World} {R:Nat->Nat->Prop} {L:List Bd} {k:Nat} {W:World} (h:ImI w wl R L k W) {bd:Bd} (bS:L[L.length-1-k]?=some bd) (hk:k<L.length) {es:Array MapEntry} {clock:Nat} (hE:Ents (ImR w R) W (a2u .i64 bd.v bd.t.cw ((a3o L k).map imR)) es.toList):ImI w wl R L (k+1) { W with heap:=W.heap.setIfInBounds w.heap.size (.map es clock) }:=by
 obtain ⟨h1,⟨es0,clock0,h2,h3⟩,h4,h5,h6⟩:=h;obtain ⟨q1,q2⟩:=heap_set (o':=Obj.map es clock) h2;have hE:Ents (ImR w R) W ((a3o L (k+1)).map imR) es.toList:=by rw [b4u bS hk,<-a9K];exact hE
 refine ⟨by rw [q2 _ (by omega)];exact h1,⟨es,clock,q1,hE.keep fun b o u hu hc=>⟨hu,?_⟩⟩,⟨h4.os,h4.tape,h4.output,by simpa using h4.size,fun b hb=>(q2 b (by omega)).trans (h4.block b hb)⟩,by simpa using h5,fun b hb' hx=>?_⟩
 ·rw [World.cell?_of_block (w:=W) (q2 b (a5x hu).2)];exact hc
 ·obtain ⟨o,ho⟩:=Classical.not_not.1 hx;exact (q2 b (a5x ho).2).trans (h6 b hb' hx)
set_option maxRecDepth 100000 in
set_option maxHeartbeats 4000000 in
theorem b3r (L:List Bd) {R:Nat->Nat->Prop} {w:World} {ao:Option Addr} {n cap:Nat} (hn:n=L.length) (hv:VRep R w (.lst (L.map Bd.cv)) (.slice ao L.length cap)) (h64:64<n) (hl:n<=1000000000) :
  CallsIn Fence.wide 3 Tryz.prog 75 #[.slice ao n cap] w fun e W'=>∃ b g,e = .returned (.func (.func 112) #[] #[.pointer (some ⟨b,0,none⟩)])/\b0n b g ((a3o L L.length).map imR) (fun b o=>R b o\/w.heap.size<=b) W'/\Below w.heap.size w W':=by
 have aJ:∀ w:World,Sem.run Tryz.prog (Instr.makeMap 146 (some (.int .i64 (n:Int)))) w = .ok (.map (some w.heap.size)) (w.alloc (.map #[] 0)):=fun w=>by simp [Instr.makeMap,run_underlying Tryz.underlying146,asInt,asIntOf,run_newObj_alloc]
 have HL:=hid hn;have HV:=hid hv;clear hn hv;refine callsIn_of_wp_marks Tryz.func75 rfl trivial ?_ rfl;simp only [Tryz.ntmps75,size_toArray,length_cons,length_nil,Nat.reduceAdd,Nat.reduceSub,Array.replicate_succ,Array.replicate_zero,push_toArray,append_toArray,nil_append,cons_append]
 gi_wp2_with (refine ⟨trivial,?_⟩;gi_at_call 111;refine (b0R _ _ _ _).mono ?_;rintro e w' ⟨rfl,rfl⟩)
 obtain ⟨w1,iM⟩:∃ w1,w1=w.alloc (.map #[] 0):=⟨_,rfl⟩
 obtain ⟨w2,nD⟩:∃ w2,w2=w1.alloc (.cells #[.map (some w.heap.size)] 146):=⟨_,rfl⟩
 obtain ⟨wl,jD⟩:∃ wl,wl=w2.alloc (.cells #[.slice ao n cap] 58):=⟨_,rfl⟩
 have s1:w1.heap.size=w.heap.size+1:=by rw [iM];simp
 have s2:w2.heap.size=w.heap.size+1+1:=by rw [nD];simp;omega
 have kD:wl.heap.size=w.heap.size+3:=by rw [jD];simp;omega
 have k1:Below w.heap.size w w1:=by rw [iM];exact bA (bW _) _
 have k2:Below w1.heap.size w1 w2:=by rw [nD];exact bA (bW _) _
 have k3:Below w2.heap.size w2 wl:=by rw [jD];exact bA (bW _) _
 have pH:Below w.heap.size w wl:=bN (bN k1 k2) k3;have iJ:wl.cell? ⟨w.heap.size+1+1,0,none⟩=some (.slice ao n cap):=by
  have:wl.heap[w.heap.size+1+1]?=some (.cells #[.slice ao n cap] 58 (0,0)):=by rw [jD,<-s2];exact World.alloc_heap_new _ _
  simp [World.cell?,this]
 have tV:ImI w wl R L 0 wl:=by
  refine ⟨?_,⟨#[],0,?_,rfl⟩,pH,by omega,fun b hb hx=>rfl⟩
  ·rw [k3.block _ (by omega),nD,<-s1];exact World.alloc_heap_new _ _
  ·rw [k3.block _ (by omega),k2.block _ (by omega),iM];exact World.alloc_heap_new _ _
 have kH:VRep (ImR w R) wl (.lst (L.map Bd.cv)) (.slice ao L.length cap):=HV.out.keep fun b o u hu hc=>by have kA:=World.block_lt_of_cell? w _ hc;refine ⟨.inl ⟨hu,kA⟩,?_⟩;rw [World.cell?_of_block (w:=w) (pH.block b kA)];exact hc
 obtain ⟨zv,zf,za,zm,zc,hc,hG⟩:=a8t (R:=ImR w R) (w:=wl) (L:=L) (Bb:=w.heap.size+1+1) (ob:=0) HL.out (by have:=HL.out;omega) iJ (.inr rfl) kH;rw [<-iM,<-nD,<-jD];clear jD iM nD s1 s2 k1 k2 k3 kH iJ aJ;refine a8M (gf:=138) (lb := #[.pointer (some ⟨w.heap.size+1+1,0,none⟩)]) rfl (enters_of Tryz.func138 (by kernel_rfl) rfl)
  hG (fun {A B C} h1 h2 b hb hx=>(h2 b hb hx).trans (h1 b hb hx)) (fun W l o o' hl h ho b hb hx=>World.putObj_heap_other (by omega)) (fun pre x W l o o' hl hx h ho=>hx) (fun x=>rfl)
  (fun pre W=>ImI w wl R L pre.length W) (fun pre A B h hb=>h.up (fun b hb'=>hb.block b (by have:=h.2.2.2.1;omega)) ⟨hb.os,hb.tape,hb.output,hb.size,fun b hb'=>hb.block b (by have:=h.2.2.2.1;omega)⟩) (fun pre A l o o' h hl h1 h2=>h.up (fun b hb'=>World.putObj_heap_other (by omega)) (a0s o' (by omega) h1 h2).1) tV
  (fun x b=>{ tmps := #[.slice ao n cap,undef,.nilFunc,.pointer (some ⟨w.heap.size+1,0,none⟩),undef,.pointer (some ⟨b,0,none⟩),.slice ao n cap,.int .i64 n,.bool (decide ((n:Int)<=64)),undef,undef,.slice ao n cap,.int .i64 n,.map (some w.heap.size),.slice ao n cap,.func (.func 138) #[] #[.pointer (some ⟨w.heap.size+1+1,0,none⟩)],.int .i64 ((n:Int)-1-x),.agg #[.int .i64 (zv x),.int .i64 (zf x),.slice (za x) (zm x) (zc x)],undef,undef,undef,undef,undef,undef],defers:=[] })
  (fun x => .cells #[.int .i64 (zv x),.int .i64 (zf x),.slice (za x) (zm x) (zc x)] 99 (0,0)) (fun V x hV b hb hx=>(bA (bW V) _).block b (by omega)) (fun pre x V hx=>hx) ?assign ?body ?done
 case assign =>
  intro l x W K hK
  gi_wp2
  exact hK
 case body =>
  rintro l pre x W b hb oV hI ⟨hx,jN⟩;obtain ⟨bd,bS⟩:∃ bd,L[n-1-x]?=some bd:=⟨L[n-1-x]'(by have:=HL.out;omega),getElem?_eq_getElem _⟩
  obtain ⟨g0,g1⟩:=b3i (hc _ _ jN bS);have hvW:VRep (ImR w R) W bd.t.cw (.agg #[.int .i64 (zf x),.slice (za x) (zm x) (zc x)]):=by
   refine g1.keep fun b o u hu pW=>⟨hu,?_⟩
   rw [World.cell?_of_block (w:=wl) (hI.2.2.2.2 b (a5x hu).1 fun hn=>hn ⟨o,hu⟩)];exact pW
  rw [g0] at oV;rw [g0];have HI:=hid hI;obtain ⟨i1,⟨es,clock,i2,i3⟩,i4,i5,i6⟩:=hI;obtain ⟨es',clock',kW,hE⟩:=b9L (P:=Tryz.prog) (t:=146) (k := .i64) (i:=bd.v) Tryz.underlying146 Tryz.underlying3 i2 i3 (a4Q _) hvW;have e0:W.cell? ⟨b,0,none⟩=some (.int .i64 bd.v):=by simp [World.cell?,oV]
  have e1:W.cell? ⟨b,1,none⟩=some (.int .i64 (zf x)):=by simp [World.cell?,oV]
  have e2:W.cell? ⟨b,2,none⟩=some (.slice (za x) (zm x) (zc x)):=by simp [World.cell?,oV]
  have em:W.cell? ⟨w.heap.size+1,0,none⟩=some (.map (some w.heap.size)):=by simp [World.cell?,i1]
  have HX:Hid (x=pre.length/\x<n):=⟨hx,jN⟩
  have HB:=hid bS;have HE:=hid hE;have H2:=hid i2;clear hx jN bS hE i1 i2 i3 i4 i6 hc hG tV g0 g1 hvW oV
  gi_wp2_with (gi_at_mapUpdate;refine a2U _ rfl _ _ _ 146 rfl rfl rfl rfl kW ?_)
  obtain ⟨hx,jN⟩:=HX.out;obtain ⟨q1,q2⟩:=heap_set (o':=Obj.map es' clock') H2.out;refine ⟨⟨by simp,fun g o hg1 yT ho=>by rw [q2 g (by omega)];exact yT⟩,fun b hb hx=>?_,?_⟩
  ·obtain ⟨o,ho⟩:=Classical.not_not.1 hx;exact q2 b (a5x ho).2
  ·rw [length_append];have hB2:=HB.out;rw [HL.out,hx] at hB2;exact ImI.put HI.out hB2 (by have:=HL.out;omega) HE.out
 case done =>
  rintro D xs W hD hS hI hK
  gi_wp2
  refine ⟨by simp,.inl ⟨_,_,rfl,run_takeDeferred hK,?_⟩⟩;have lQ:=hI.up (W':=W.putObj D (.deferred none)) (fun b hb'=>World.putObj_heap_other (by omega)) (a0s _ (by omega) hK rfl).1;rw [hS,List.length_range,HL.out] at lQ;obtain ⟨j1,⟨es,clock,j2,j3⟩,j4,_,_⟩:=lQ;refine ⟨_,results_tmp rfl _ _ _,w.heap.size+1,w.heap.size,rfl,⟨by simp [World.cell?,j1],es,clock,j2,j3.keep fun b o u hu hc=>⟨?_,hc⟩⟩,j4⟩;rcases hu with h | h
  ·exact .inl h.1
  ·exact .inr (by omega)
theorem b0U {P:Program} (w:World) {ops:Array Oper} {o:Oper} {a:Act} {K:Act->World->Prop} {Q:Exit->Act->World->Prop} {E:Prop} (nG:Region.wanted o (yielded ops a.tmps)=true) (f:Nat) (x y:Operand) (ts:Array TypeId)
  (ho:o.op = .call { callee := .value (.func f),args := #[x,y],argTypes:=ts }) (eg:∀ args w,(callFunc f args).run P w = .ok (.enter f args) w) (v u:Value) (hx:a.eval x=v) (hy:a.eval y=u) {R:Ending->World->Prop} (hc:Calls P f #[v,u] w R) (h:∀ e w',R e w'->∃ u,e = .returned u/\K (a.put o.dst u) w') :
  if Region.wanted o (yielded ops a.tmps)=true then Oper.wp P o a w K Q else E:=by
 rw [if_pos nG];unfold Oper.wp;have he:(execOp a.eval o).run P w = .ok (.enter f #[v,u]) w:=by have hf:a.eval (.func f) = .func (.func f) #[] #[]:=rfl;generalize a.eval=ρ at hf hx hy |-;simp [execOp,ho,resolve,invoke,Deferred.ofValue,hf,hx,hy,eg]
 rw [he,Oper.upon_enter];refine hc.mono ?_;rintro e w' hr;obtain ⟨u,rfl,hk⟩:=h e w' hr;exact hk
theorem a8w {tmps:Array Value} {w:World} {g:Nat} {x y:Value} (hp:tmps.getD 4 undef = .pointer (some ⟨g,0,none⟩)) (hg:w.heap[g]?=some (.cells #[x,y] 42 (0,0))) :
  (results Tryz.f50 tmps).run Tryz.prog w = .ok (.agg #[x,y]) w:=by
 have pI:tmps[4]?.getD undef = .pointer (some ⟨g,0,none⟩):=by simpa using hp
 simp [results,pI,asAddr,run_loadVar_row w g _ 42 #[x,y] (0,0) _ hg Tryz.underlying42 rfl a0P]
set_option maxRecDepth 100000 in
set_option maxHeartbeats 4000000 in
theorem b1o (W:World) (L:List Bd) (t:Tm) (hl:64<L.length) (kL:L.length<=1000000000) (hb:bdsOk L) (hr:t.rng) (kG:t.ok):AFun Tryz.prog W 50 [.lst (L.map Bd.cv),t.cw] (.val (b7 (c9 L) t).cw):=by
 refine ⟨C7 Tryz.func50 rfl rfl,.inl rfl,rfl,fun U w vs _ hv=>?_⟩;obtain ⟨sv,vs1,rfl,gG,tv,vs2,rfl,gU,oK⟩:=hv;have oK:vs2=[]:=oK;subst oK;obtain ⟨ao,n,cap,e1,e2,_⟩:=l4.1 gG;subst e1;rw [length_map] at e2;obtain ⟨xs,e3,yU⟩:=I6.1 gU;obtain ⟨u1,u2,rfl⟩:∃ u1 u2,xs=[u1,u2]:=by
  have h3:xs.length=2:=(E8.2 yU).len
  match xs,h3 with
  | [u1,u2],_=>exact ⟨u1,u2,rfl⟩
 subst e3;obtain ⟨g1,ta,tm,tc,g2⟩:=a5f gU;subst g1;subst g2;have xJ:VRep U w (.lst (L.map Bd.cv)) (.slice ao L.length cap):=by rw [<-e2];exact gG
 have HImg:Hid (∀ V:World,Below w.heap.size w V->w.heap.size+2<=V.heap.size->Calls Tryz.prog 75 #[.slice ao n cap] V fun e W'=>∃ b g,e = .returned (.func (.func 112) #[] #[.pointer (some ⟨b,0,none⟩)])/\b0n b g ((a3o L L.length).map imR) (fun b o=>(U b o/\b<w.heap.size)\/w.heap.size+2<=b) W'/\Below V.heap.size V W'):=fun V hV hV2 =>
  Calls.mono (callsIn_wide.1 (b3r (R:=fun b o=>U b o/\b<w.heap.size) L e2 (xJ.keep fun b o u hu hc=>⟨⟨hu,World.block_lt_of_cell? w _ hc⟩,by
   rw [World.cell?_of_block (w:=w) (hV.block b (World.block_lt_of_cell? w _ hc))];exact hc⟩) (by omega) (by omega))) fun e W' ⟨b,g,k1,⟨k2,es,ck,k3,k4⟩,k5⟩=>⟨b,g,k1,⟨k2,es,ck,k3,k4.keep fun b o u hu hc=>⟨hu.imp id fun h=>by omega,hc⟩⟩,k5⟩
 have HRep:Hid (∀ (V:World) (b g:Nat),Below w.heap.size w V->w.heap.size+2<=V.heap.size->b0n b g ((a3o L L.length).map imR) (fun b o=>(U b o/\b<w.heap.size)\/w.heap.size+2<=b) V->Calls Tryz.prog 59 #[.agg #[.int .i64 t.f,.slice ta tm tc],.func (.func 112) #[] #[.pointer (some ⟨b,0,none⟩)]] V fun e W'=>∃ a m c,e = .returned (.agg #[.int .i64 (b7 (c9 L) t).f,.slice a m c])/\VRep (fun b o=>(U b o/\b<w.heap.size)\/w.heap.size+2<=b) W' (b7 (c9 L) t).cw (.agg #[.int .i64 (b7 (c9 L) t).f,.slice a m c])/\Below V.heap.size V W'):=fun V b g hV hV2 hq=>by
  have hI:∀ v,0<=v->v<=9223372036854775807->a8a Tryz.prog (b0n b g ((a3o L L.length).map imR)) (.fn 112 0 [.sc (.pointer (some ⟨b,0,none⟩))]) [.i v] (.val (c9 L v).cw)/\(c9 L v).rng/\(c9 L v).size<=90000000000:=fun v h1 h2=>by refine ⟨⟨_,_,_,rfl,?_⟩,a7L hb h1 h2⟩;have h3:=b6C b g (a3o L L.length) v h1 h2;rw [show c9 (a3o L L.length) v=c9 L v by unfold c9;rw [b3K]] at h3;exact h3
  have h4:=(a6O (a3M b g _) _ (c9 L) hI t hr kG).2.2.2 (fun b o=>(U b o/\b<w.heap.size)\/w.heap.size+2<=b) V [.agg #[.int .i64 t.f,.slice ta tm tc],.func (.func 112) #[] #[.pointer (some ⟨b,0,none⟩)]] hq ⟨_,_,rfl,gU.keep fun b o u hu hc=>⟨.inl ⟨hu,World.block_lt_of_cell? w _ hc⟩,by
   rw [World.cell?_of_block (w:=w) (hV.block b (World.block_lt_of_cell? w _ hc))];exact hc⟩,_,_,rfl,T6.2 ⟨[],[.pointer (some ⟨b,0,none⟩)],rfl,rfl,⟨[_],[],rfl,N0.2 ⟨rfl,rfl⟩,rfl⟩,fun c hc=>by simp at hc;subst hc;simp [CV.sc]⟩,rfl⟩
  refine Calls.mono h4 ?_;rintro e W' ⟨v,rfl,hR,hB⟩;have hR:VRep (fun b o=>((U b o/\b<w.heap.size)\/w.heap.size+2<=b)\/V.heap.size<=b) W' (b7 (c9 L) t).cw v:=hR;have hR:=hR.keep (V:=fun b o=>(U b o/\b<w.heap.size)\/w.heap.size+2<=b) (w':=W') fun b o u hu hc=>⟨hu.elim id fun h => .inr (by omega),hc⟩
  obtain ⟨xs,e3,yU⟩:=I6.1 hR;obtain ⟨u1,u2,rfl⟩:∃ u1 u2,xs=[u1,u2]:=by
   have h3:xs.length=2:=(E8.2 yU).len
   match xs,h3 with
   | [u1,u2],_=>exact ⟨u1,u2,rfl⟩
  subst e3;obtain ⟨g1,a,m,c,g2⟩:=a5f hR;subst g1;subst g2;exact ⟨a,m,c,rfl,hR,hB⟩
 clear gG xJ gU yU hb hr kG hl kL e2;show Calls Tryz.prog 50 #[.slice ao n cap,.agg #[.int .i64 t.f,.slice ta tm tc]] w _;refine calls_of_wp Tryz.func50 rfl ?_;simp only [Tryz.ntmps50,size_toArray,length_cons,length_nil,Nat.reduceAdd,Nat.reduceSub,Array.replicate_succ,Array.replicate_zero,push_toArray,append_toArray,nil_append,cons_append]
 go_wp2_with fail
 obtain ⟨w2,nD⟩:∃ w2,w2=(w.alloc (.cells #[.int .i64 t.f,.slice ta tm tc] 42)).alloc (.cells #[.int .i64 0,.slice none 0 0] 42):=⟨_,rfl⟩
 have kD:w2.heap.size=w.heap.size+2:=by rw [nD];simp
 have kZ:Below w.heap.size w w2:=by rw [nD];exact bA (bA (bW _) _) _
 have y1:w2.heap[w.heap.size]?=some (.cells #[.int .i64 t.f,.slice ta tm tc] 42 (0,0)):=by rw [nD,Below.heap_alloc _ _ _ (by simp)];exact World.alloc_heap_new _ _
 have y2:w2.heap[w.heap.size+1]?=some (.cells #[.int .i64 0,.slice none 0 0] 42 (0,0)):=by rw [nD,show w.heap.size+1=(w.alloc (.cells #[.int .i64 t.f,.slice ta tm tc] 42)).heap.size by simp];exact World.alloc_heap_new _ _
 have hs3:w2.drew.heap.size=w.heap.size+2:=kD;have dJ:Below w.heap.size w w2.drew:=kZ.drew;have HB3:=hid dJ;have HY1:=hid (show w2.drew.heap[w.heap.size]?=_ from y1);have HY2:=hid (show w2.drew.heap[w.heap.size+1]?=_ from y2);obtain ⟨d1,d2⟩:=b4X (show w2.drew.heap[w.heap.size]?=_ from y1);rw [<-nD];clear nD kZ dJ y1 y2
 go_region_law (first
  | (refine b3O _ rfl 75 _ _ rfl (enters_of Tryz.func75 (by kernel_rfl) rfl) (.slice ao n cap) rfl (HImg.out _ HB3.out (by omega)) ?_;rintro e w5 ⟨b,g,rfl,hq5,tD⟩;refine ⟨_,rfl,?_⟩;have hB5:Below w.heap.size w w5:=HB3.out.trans (tD.mono (by omega));have hs5:=tD.size;have x2:=(tD.block _ (by omega)).trans HY2.out;obtain ⟨f1,f2⟩:=b4X ((tD.block _ (by omega)).trans HY1.out))
  | (refine b0U _ rfl 59 _ _ _ rfl (enters_of Tryz.func59 (by kernel_rfl) rfl) (.agg #[.int .i64 t.f,.slice ta tm tc]) (.func (.func 112) #[] #[.pointer (some ⟨b,0,none⟩)]) rfl rfl (HRep.out _ b g hB5 (by omega) hq5) ?_;rintro e w6 ⟨a6,m6,c6,rfl,hR6,hb6⟩;refine ⟨_,rfl,?_⟩;have hB6:Below w.heap.size w w6:=hB5.trans (hb6.mono (by omega));have z6:=(hb6.block _ (by omega)).trans x2;obtain ⟨f3,f4⟩:=b4X z6;obtain ⟨f5,f6⟩:=a4l z6))
 all_goals go_wp2_with fail
 all_goals refine bodyPost_ret (a8w (g:=w.heap.size+1) rfl (a6b z6 _ _)) rfl ?_
 all_goals refine ⟨_,rfl,?_,(hB6.setCell (p:=⟨w.heap.size+1,0,none⟩) (by show w.heap.size<=w.heap.size+1;omega) _).setCell (p:=⟨w.heap.size+1,1,none⟩) (by show w.heap.size<=w.heap.size+1;omega) _⟩
 all_goals refine VRep.keep (fun b' o u hu hc=>⟨hu.elim (fun h => .inl h.1) (fun h => .inr (by omega)),?_⟩) hR6
 all_goals have kE:b'≠w.heap.size+1:=by rcases hu with h | h<;>omega
 all_goals rw [World.cell?_of_block (w:=w6) (by rw [Below.heap_setCell _ _ _ _ kE,Below.heap_setCell _ _ _ _ kE])]
 all_goals exact hc
theorem b1p (W:World) (L:List Bd) (t:Tm) (hl:L.length<=1000000000) (hb:bdsOk L) (hr:t.rng) (kG:t.ok):AFun Tryz.prog W 50 [.lst (L.map Bd.cv),t.cw] (.val (b7 (c9 L) t).cw):=by
 by_cases h:L.length<=64
 ·exact b4G W L t h hb hr kG
 ·exact b1o W L t (by omega) hl hb hr kG
end
def G8 (c:List Lt):List Tm:=c.flatMap fun l=>[l.a,l.b]
theorem b4o (c:List Lt) (l:Lt):G8 (c++[l])=G8 c++[l.a,l.b]:=by simp [G8]
theorem a9V (c:List Lt):(G8 c).length=2*c.length:=by
 induction c with
 | nil=>rfl
 | cons l c ih =>
  have:G8 (l::c)=l.a::l.b::G8 c:=rfl;rw [this];simp only [length_cons,ih];omega
theorem b3v (c:List Lt) (k:Nat):(G8 (c.take k)).length<=2*c.length:=by
 rw [a9V,length_take];omega
theorem b0G (W:World) (c:List Lt) (hn:c.length<=1000000):AFun Tryz.prog W 41 [.lst (c.map Lt.cv)] (.val (Tm.cw ⟨0,G8 c⟩)):=by
 have kD:=Lt.size_all c;refine a9 (rs:=[Tm.cw ⟨0,G8 c⟩]) Tryz.func41 Tryz.ntmps41 rfl rfl rfl rfl ?_;intro w U hW;refine aS (aR ?_);refine nc zk ?_;refine aS (aR ?_);refine nc ze ?_;refine aS (aS (aR ?_));refine nc zl (nc zp (nc zl ?_));refine aB (b9 c.length (fun k=>[(2,.bp 2 0 []),(100002,⟨5,.row [.i 0,.lst []],1,0,[1]⟩),(3,.own (.lst ((G8 (c.take k)).map Tm.cv)) 200018),(200018,.tok 42 2),(6,.val (.lst (c.map Lt.cv))),(7,.val (.i (c.map Lt.cv).length)),(8,.val (.i k))])
  ((v9 3 200018 42 2 rfl rfl rfl rfl rfl rfl rfl).trans (a7 ⟨rfl,rfl,rfl,rfl,rfl,rfl,rfl,trivial⟩)) ?_)
 intro k hk;refine aS (aR ?_);refine nc zi ?_;refine aS (aC rfl (fun kA=>?_) (fun kA=>?_))
 ·have kB:k<c.length:=by simpa using kA
  obtain ⟨x,hx⟩:∃ x,c[k]?=some x:=⟨c[k],getElem?_eq_getElem kB⟩
  have kI:=Lt.map_at hx;have kF:=b3v c k;have cR:∀ y∈(G8 (c.take k)).map Tm.cv,y.size=2:=Tm.size_all _;have fN:((G8 (c.take k)).map Tm.cv).length<=2*c.length:=by rw [length_map];exact kF
  refine aK ?_;refine aS (aB (aS (aR ?_)));refine nc (zq (j:=k) (H:=kI) (hz:=kD)) (nc zr (nc zk (nc zo ?_)));refine aR ?_;refine nc zl (nc zg (nc zh (nc zg (nc zh (nc zC (nc zD (nc ze ?_)))))));refine aR ?_;refine nc zu (nc zl ?_);refine ⟨kB,Wk.trans (a7 (s':=[(2,.bp 2 0 []),(100002,⟨5,.row [.i 0,.lst []],1,0,[1]⟩),(3,.own (.lst ((G8 (c.take (k+1))).map Tm.cv)) 300018),(300018,.tok 42 2),(6,.val (.lst (c.map Lt.cv))),(7,.val (.i (c.map Lt.cv).length)),(8,.val (.i ((k+1:Nat):Int)))]) ⟨rfl,rfl,?_,rfl,rfl,rfl,rfl,trivial⟩) (o8 300018 200018 rfl rfl rfl rfl)⟩;rw [take_add_one,hx];simp only [Option.toList_some,b4o,map_append,map_cons,map_nil,Tm.cv_eq];rfl
 ·have kB:k=c.length:=by
   have:¬ k<c.length:=by simpa using kA
   omega
  subst kB;rw [take_length];refine aE ?_;refine aS (aR ?_);refine nc zl (nc zn (nc zo ?_));exact aT (And.intro (.inr rfl) rfl)
theorem b2a:∀ {c:List Lt} {k:Nat} {l:Lt},c[k]?=some l->(G8 c)[2*k]?=some l.a/\(G8 c)[2*k+1]?=some l.b
 | [],k,l,h=>by simp at h
 | x::c,0,l,h=>by
  simp at h;subst h;exact ⟨rfl,rfl⟩
 | x::c,k+1,l,h=>by
  have:=b2a (c:=c) (k:=k) (l:=l) (by simpa using h);have e:G8 (x::c)=x.a::x.b::G8 c:=rfl;rw [e,show 2*(k+1)=2*k+1+1 by omega];simpa using this
theorem b4b (W:World) (c d:List Lt) (f:Int) (hn:c.length<=1000000) (pQ:d.map Lt.neg=c.map Lt.neg):AFun Tryz.prog W 39 [.lst (c.map Lt.cv),Tm.cw ⟨f,G8 d⟩] (.val (.lst (d.map Lt.cv))):=by
 have kD:=Lt.size_all c;have xK:=Tm.size_all (G8 d);have kF:d.length=c.length:=by have:=congrArg List.length pQ;simpa using this
 refine a9 (rs:=[.lst (d.map Lt.cv)]) Tryz.func39 Tryz.ntmps39 rfl rfl rfl rfl ?_;intro w U hW;refine aS (aR ?_);refine nc zd (nc ze ?_);refine aS (aR ?_);refine nc ze ?_;refine aS (aS (aR ?_));refine nc zl (nc zp (nc zl ?_));refine aB (b9 c.length (fun k=>[(3,.bp 3 0 []),(100003,.bx (Tm.cw ⟨f,G8 d⟩)),(5,.own (.lst ((d.take k).map Lt.cv)) 200033),(200033,.tok 44 5),(8,.val (.lst (c.map Lt.cv))),(9,.val (.i (c.map Lt.cv).length)),(10,.val (.i k))])
  ((v9 5 200033 44 5 rfl rfl rfl rfl rfl rfl rfl).trans (a7 ⟨rfl,rfl,rfl,rfl,rfl,rfl,rfl,trivial⟩)) ?_)
 intro k hk;refine aS (aR ?_);refine nc zi ?_;refine aS (aC rfl (fun kA=>?_) (fun kA=>?_))
 ·have kB:k<c.length:=by simpa using kA
  obtain ⟨x,hx⟩:∃ x,c[k]?=some x:=⟨c[k],getElem?_eq_getElem kB⟩
  obtain ⟨y,hy⟩:∃ y,d[k]?=some y:=⟨d[k],getElem?_eq_getElem (by omega)⟩
  have pX:x.neg=y.neg:=by have:=congrArg (fun l=>l[k]?) pQ;simp only [List.getElem?_map,hx,hy,Option.map_some] at this;injection this with this;exact this.symm
  obtain ⟨n1,a1,b1⟩:=x;simp only at pX;subst pX;have kI:=Lt.map_at hx;obtain ⟨ha,hb⟩:=b2a hy;have vX:=Tm.map_at ha;have hb':=Tm.map_at hb;have cR:∀ z∈(d.take k).map Lt.cv,z.size=5:=Lt.size_all _;have fN:((d.take k).map Lt.cv).length<=1000000:=by rw [length_map,length_take];omega
  refine aK ?_;refine aS (aB (aS (aR ?_)));refine nc zl (nc (zq (j:=k) (H:=kI) (hz:=kD)) (nc zr (nc zk (nc ze (nc zo ?_)))));refine aD (by kernel_rfl) (by kernel_rfl) ?_;refine nc zl (nc zg (nc zh (nc zg (nc zh (nc zl (nc zbJ (nc (zq (j:=(2*k)) (H:=vX) (hz:=xK)) (nc zr (nc zg (nc zh (nc zl (nc zbJ (nc zu (nc (zq (j:=(2*k+1)) (H:=hb') (hz:=xK)) (nc zr (nc zn (nc zC (nc zD (nc ze ?_)))))))))))))))))));refine ⟨by kernel_rfl,?_⟩;refine aR ?_;refine nc zu (nc zl ?_);refine ⟨kB,Wk.trans (a7 (s':=[(3,.bp 3 0 []),(100003,.bx (Tm.cw ⟨f,G8 d⟩)),(5,.own (.lst ((d.take (k+1)).map Lt.cv)) 300033),(300033,.tok 44 5),(8,.val (.lst (c.map Lt.cv))),(9,.val (.i (c.map Lt.cv).length)),(10,.val (.i ((k+1:Nat):Int)))]) ⟨rfl,rfl,?_,rfl,rfl,rfl,rfl,trivial⟩) (o8 300033 200033 rfl rfl rfl rfl)⟩;rw [take_add_one,hy];simp only [Option.toList_some,map_append,map_cons,map_nil];rfl
 ·have kB:k=d.length:=by
   have:¬ k<c.length:=by simpa using kA
   omega
  subst kB;rw [take_length];refine aE ?_;refine aS (aR ?_);refine nc zl (nc ze ?_);exact aT (And.intro (.inr rfl) rfl)
def Lt.rep (img:Int->Tm) (l:Lt):Lt:=⟨l.neg,b7 img l.a,b7 img l.b⟩
theorem a9x (img:Int->Tm):∀ c:List Lt,(G8 c).map (b7 img)=G8 (c.map (Lt.rep img))
 | []=>rfl
 | l::c=>by
  show b7 img l.a::b7 img l.b::(G8 c).map (b7 img)=_;rw [a9x img c];rfl
theorem b4N (img:Int->Tm) (c:List Lt):b7 img ⟨0,G8 c⟩=⟨0,G8 (c.map (Lt.rep img))⟩:=by
 rw [i8 (show ¬ (0:Int)<0 by decide),a9x]
theorem b8H (img:Int->Tm) (c:List Lt):(c.map (Lt.rep img)).map Lt.neg=c.map Lt.neg:=by
 rw [List.map_map];rfl
theorem a4F (W:World) (L:List Bd) (c:List Lt) (hn:c.length<=1000000) (hl:L.length<=1000000000) (hb:bdsOk L) (hr:(⟨0,G8 c⟩:Tm).rng) (kG:(⟨0,G8 c⟩:Tm).ok):AFun Tryz.prog W 28 [.lst (L.map Bd.cv),.lst (c.map Lt.cv)] (.val (.lst ((c.map (Lt.rep (c9 L))).map Lt.cv))):=by
 have h2:=fun w=>b1p w L ⟨0,G8 c⟩ hl hb hr kG;rw [b4N] at h2;refine a9 (rs:=[.lst ((c.map (Lt.rep (c9 L))).map Lt.cv)]) Tryz.func28 Tryz.ntmps28 rfl rfl rfl rfl ?_;intro w U hW;refine aS (aR ?_);refine nc ze ?_;refine aS (aR ?_);refine nc zl (nc zl (nc zl (nc (zw (z:=b0G w c hn)) (nc (zw (z:=h2 w)) (nc (zw (z:=b4b w c _ 0 hn (b8H _ c))) (nc ze ?_))))));exact aT (And.intro (.inr rfl) rfl)
section
section
variable {α β:Type}
end
open Classical in
section
variable {P:Program} {w0:World} {U0:UX} {nt:Nat} {ops:Array Oper} {o:Oper} {S:Nat->Option AV} {gs:List Nat} {d:Nat}
variable (hg:Gd w0 U0 nt ops o gs S) (hd:o.dst=some d) (hn:Nat.blt d nt=true) (h5:Nat.blt d 100000=true)
include hg hd hn h5
end
end
def b3j (size:Int) (l:Lt):Bool:=decide (0<=o5 l.a size 8)&&decide (0<=o5 l.b size 8)
def Y2 (c:List Lt) (most:Nat) (size:Int):Bool:=decide (c.length<=most)&&c.all (b3j size)
set_option maxHeartbeats 1000000 in
theorem b0L (W:World) (c:List Lt) (most:Nat) (size:Int) (hm:most<=1000) (h0:0<=size) (h1:size<=60) (hr:okC c):AFun Tryz.prog W 8 [.lst (c.map Lt.cv),.i (most:Int),.i size] (.val (.b (Y2 c most size))):=by
 have kD:=Lt.size_all c;refine a9 (rs:=[.b (Y2 c most size)]) Tryz.func8 Tryz.ntmps8 rfl rfl rfl rfl ?_;intro w U hW;refine aS (aR ?_);refine nc ze ?_;refine aS (aS (aR ?_));refine nc zl (nc zp (nc zl (nc zO ?_)));refine aC rfl (fun hc=>?_) (fun hc=>?_)
 ·have gB:Y2 c most size=false:=by have:=of_decide_eq_true hc;rw [length_map] at this;unfold Y2;rw [show decide (c.length<=most)=false by rw [decide_eq_false_iff_not];omega];rfl
  rw [gB];refine aS (aR ?_);refine nc ze ?_;exact aT (And.intro (.inr rfl) rfl)
 have hl:c.length<=most:=by have:=of_decide_eq_false hc;rw [length_map] at this;omega
 refine aK ?_;refine aS (aS (aR ?_));refine nc ze ?_;refine aB (l7 c.length (fun k=>∀ l∈c.take k,b3j size l=true) (fun k=>[(0,.val (.lst (c.map Lt.cv))),(2,.val (.i size)),(7,.val (.i k))]) (a7 ⟨rfl,rfl,rfl,trivial⟩) (by simp) ?_);intro k hk hI;refine aS (aS (aR ?_));refine nc zl (nc zl (nc zp (nc zi ?_)));refine aC rfl (fun kA=>?_) (fun kA=>?_)
 ·have kB:k<c.length:=by simpa using kA
  obtain ⟨x,hx⟩:∃ x,c[k]?=some x:=⟨c[k],getElem?_eq_getElem kB⟩
  have kI:=Lt.map_at hx;have cD:=mem_of_getElem? hx;have sa:=a6F w x.a size 8 (hr x cD).1 h0 h1 (by decide) (by decide);have sb:=a6F w x.b size 8 (hr x cD).2 h0 h1 (by decide) (by decide);have gB:b3j size x=false->Y2 c most size=false:=fun h=>by unfold Y2;rw [show c.all (b3j size)=false from List.all_eq_false.2 ⟨x,cD,by rw [h];simp⟩,Bool.and_false]
  refine aK ?_;by_cases ha:o5 x.a size 8<0
  ·have ga:decide (o5 x.a size 8<0)=true:=by simpa using ha
   rw [gB (by unfold b3j;rw [show decide (0<=o5 x.a size 8)=false by rw [decide_eq_false_iff_not];omega];rfl)];refine aS (aB (aS (aR ?_)));refine nc zl (nc zl (nc (zq (j:=k) (H:=kI) (hz:=kD)) (nc zN (nc zr (nc zl (nc (zw (z:=sa)) (nc zi (nc zl (nc zH (nc zH (nc zH (nc zH (nc zH (nc zH (nc zH (nc zH (nc zJ ?_)))))))))))))))));refine aC rfl (fun gA=>?_) (fun gA=>by cases gA);refine aS (aR ?_);refine nc ze ?_;exact aT (And.intro (.inr rfl) rfl)
  ·have ga:decide (o5 x.a size 8<0)=false:=by simpa using ha
   refine aS (aB (aS (aR ?_)));refine nc zl (nc zl (nc (zq (j:=k) (H:=kI) (hz:=kD)) (nc zN (nc zr (nc zl (nc (zw (z:=sa)) (nc zi (nc zl (nc (zl (p:=gb)) (nc (zl (p:=gb)) (nc (zq (j:=k) (r:=gb) (H:=kI) (hz:=kD)) (nc (zN (r:=gb)) (nc (zr (r:=gb)) (nc (zl (p:=gb)) (nc (zw (p:=gb) (z:=sb)) (nc (zi (r:=gb)) (nc zI ?_)))))))))))))))));refine aC rfl (fun gA=>?_) (fun gA=>?_)
   ·have hb:=of_decide_eq_true gA;rw [gB (by unfold b3j;rw [show decide (0<=o5 x.b size 8)=false by rw [decide_eq_false_iff_not];omega];simp)];refine aS (aR ?_);refine nc ze ?_;exact aT (And.intro (.inr rfl) rfl)
   ·have hb:=of_decide_eq_false gA;refine aK ?_;refine aR ?_;refine nc zl (nc zu (nc ze ?_));refine ⟨kB,?_,a7 ⟨rfl,rfl,rfl,trivial⟩⟩;intro y hy;rw [take_add_one,hx,List.mem_append] at hy;rcases hy with hy | hy
    ·exact hI y hy
    ·simp at hy;rw [hy];unfold b3j;rw [show decide (0<=o5 x.a size 8)=true by rw [decide_eq_true_eq];omega,show decide (0<=o5 x.b size 8)=true by rw [decide_eq_true_eq];omega];rfl
 ·have kB:k=c.length:=by
   have:¬ k<c.length:=by simpa using kA
   omega
  subst kB;rw [take_length] at hI;have oT:Y2 c most size=true:=by unfold Y2;rw [show decide (c.length<=most)=true by simpa using hl,Bool.true_and];exact List.all_eq_true.2 hI
  rw [oT];refine aE ?_;refine aS (aR ?_);refine nc ze ?_;exact aT (And.intro (.inr rfl) rfl)
theorem a8s {c:List Lt} {most:Nat} {size:Int} (h0:0<=size) (h1:size<=60) (h:Y2 c most size=true):c.length<=most/\∀ l∈c,((l.a.sm/\l.a.rng/\l.a.ok)/\(l.a.wt:Int)<=size/\(l.a.size:Int)<=size)/\((l.b.sm/\l.b.rng/\l.b.ok)/\(l.b.wt:Int)<=size/\(l.b.size:Int)<=size):=by
 unfold Y2 at h;rw [Bool.and_eq_true,decide_eq_true_eq] at h;refine ⟨h.1,fun l hl=>?_⟩;have hf:=List.all_eq_true.1 h.2 l hl;unfold b3j at hf;rw [Bool.and_eq_true,decide_eq_true_eq,decide_eq_true_eq] at hf;have key:∀ t:Tm,0<=o5 t size 8->(t.sm/\t.rng/\t.ok)/\(t.wt:Int)<=size/\(t.size:Int)<=size:=fun t ht=>by
  have fG:=b6E t _ _ ht;have hwt:(t.wt:Int)<=size:=by have:=(a0V t size 8 h0).2.2 ht;omega
  have:=t.size_wt;exact ⟨⟨fG,Tm.sm_rng fG,Tm.wt_ok (t:=t) (by omega)⟩,hwt,by omega⟩
 exact ⟨key _ hf.1,key _ hf.2⟩
set_option maxHeartbeats 1000000 in
theorem b4J (W:World) (c:List Lt) (hl:c.length<=1000000) (hc:∀ l∈c,l.a.ok/\l.b.ok):AFun Tryz.prog W 9 [.lst (c.map Lt.cv)] (.val (.lst ((c.map id).map Lt.cv))):=by
 have kD:=Lt.size_all c;refine a9 (rs:=[.lst ((c.map id).map Lt.cv)]) Tryz.func9 Tryz.ntmps9 rfl rfl rfl rfl ?_;intro w U hW;refine aS (aR ?_);refine nc ze ?_;refine aS (aR ?_);refine nc ze ?_;refine aS (aS (aR ?_));refine nc ze ?_;refine aB (b9 c.length (fun k=>[(0,.val (.lst (c.map Lt.cv))),(3,.own (.lst (((c.take k).map id).map Lt.cv)) 200031),(200031,.tok 44 5),(4,.val (.i k))]) ((v9 3 200031 44 5 rfl rfl rfl rfl rfl rfl rfl).trans (a7 ⟨rfl,rfl,rfl,rfl,trivial⟩)) ?_);intro k hk;have iN:=Lt.size_all ((c.take k).map id);refine aS (aS (aR ?_));refine nc zl (nc zl (nc zp (nc zi ?_)));refine aC rfl (fun kA=>?_) (fun kA=>?_)
 ·have kB:k<c.length:=by simpa using kA
  obtain ⟨x,hx⟩:∃ x,c[k]?=some x:=⟨c[k],getElem?_eq_getElem kB⟩
  have kI:=Lt.map_at hx;have cD:=mem_of_getElem? hx;have fA:(((c.take k).map id).map Lt.cv).length<=1000000:=by rw [length_map,length_map,length_take];omega
  refine aK ?_;refine aS (aB (aD (by kernel_rfl) (by kernel_rfl) ?_));refine nc zl (nc zl (nc zl (nc (zq (j:=k) (H:=kI) (hz:=kD)) (nc zN (nc zr (nc zl (nc zl (nc (zq (j:=k) (H:=kI) (hz:=kD)) (nc zN (nc zr (nc (zw (z:=b7N w x.a (hc x cD).1)) (nc zl (nc zl (nc (zq (j:=k) (H:=kI) (hz:=kD)) (nc zN (nc zr (nc (zw (z:=b7N w x.b (hc x cD).2)) (nc zn (nc zC (nc zD (nc ze ?_)))))))))))))))))))));refine ⟨by kernel_rfl,?_⟩;refine aR ?_;refine nc zl (nc zu (nc ze ?_));refine ⟨kB,Wk.trans (a7 (s':=[(0,.val (.lst (c.map Lt.cv))),(3,.own (.lst (((c.take (k+1)).map id).map Lt.cv)) 300031),(300031,.tok 44 5),(4,.val (.i ((k+1:Nat):Int)))]) ⟨rfl,?_,rfl,rfl,trivial⟩) (o8 300031 200031 rfl rfl rfl rfl)⟩;rw [take_add_one,hx,map_append,map_append];rfl
 ·have kB:k=c.length:=by
   have:¬ k<c.length:=by simpa using kA
   omega
  subst kB;rw [take_length];refine aE ?_;refine aS (aR ?_);refine nc zl (nc ze ?_);exact aT (And.intro (.inr rfl) rfl)
set_option maxHeartbeats 1000000 in
theorem a5b (W:World) (c:List Lt) (hl:c.length<=1000000) (hc:∀ l∈c,l.a.ok/\l.b.ok):AFun Tryz.prog W 17 [.lst (c.map Lt.cv)] (.val (.lst ((c.map Lt.strip).map Lt.cv))):=by
 have kD:=Lt.size_all c;refine a9 (rs:=[.lst ((c.map Lt.strip).map Lt.cv)]) Tryz.func17 Tryz.ntmps17 rfl rfl rfl rfl ?_;intro w U hW;refine aS (aR ?_);refine nc ze ?_;refine aS (aR ?_);refine nc ze ?_;refine aS (aS (aR ?_));refine nc ze ?_;refine aB (b9 c.length (fun k=>[(0,.val (.lst (c.map Lt.cv))),(3,.own (.lst (((c.take k).map Lt.strip).map Lt.cv)) 200031),(200031,.tok 53 5),(4,.val (.i k))]) ((v9 3 200031 53 5 rfl rfl rfl rfl rfl rfl rfl).trans (a7 ⟨rfl,rfl,rfl,rfl,trivial⟩)) ?_);intro k hk;have iN:=Lt.size_all ((c.take k).map Lt.strip);refine aS (aS (aR ?_));refine nc zl (nc zl (nc zp (nc zi ?_)));refine aC rfl (fun kA=>?_) (fun kA=>?_)
 ·have kB:k<c.length:=by simpa using kA
  obtain ⟨x,hx⟩:∃ x,c[k]?=some x:=⟨c[k],getElem?_eq_getElem kB⟩
  have kI:=Lt.map_at hx;have cD:=mem_of_getElem? hx;have fA:(((c.take k).map Lt.strip).map Lt.cv).length<=1000000:=by rw [length_map,length_map,length_take];omega
  refine aK ?_;refine aS (aB (aD (by kernel_rfl) (by kernel_rfl) ?_));refine nc zl (nc zl (nc zl (nc (zq (j:=k) (H:=kI) (hz:=kD)) (nc zN (nc zr (nc zl (nc zl (nc (zq (j:=k) (H:=kI) (hz:=kD)) (nc zN (nc zr (nc (zw (z:=b7H w x.a (hc x cD).1)) (nc zl (nc zl (nc (zq (j:=k) (H:=kI) (hz:=kD)) (nc zN (nc zr (nc (zw (z:=b7H w x.b (hc x cD).2)) (nc zn (nc zC (nc zD (nc ze ?_)))))))))))))))))))));refine ⟨by kernel_rfl,?_⟩;refine aR ?_;refine nc zl (nc zu (nc ze ?_));refine ⟨kB,Wk.trans (a7 (s':=[(0,.val (.lst (c.map Lt.cv))),(3,.own (.lst (((c.take (k+1)).map Lt.strip).map Lt.cv)) 300031),(300031,.tok 53 5),(4,.val (.i ((k+1:Nat):Int)))]) ⟨rfl,?_,rfl,rfl,trivial⟩) (o8 300031 200031 rfl rfl rfl rfl)⟩;rw [take_add_one,hx,map_append,map_append];rfl
 ·have kB:k=c.length:=by
   have:¬ k<c.length:=by simpa using kA
   omega
  subst kB;rw [take_length];refine aE ?_;refine aS (aR ?_);refine nc zl (nc ze ?_);exact aT (And.intro (.inr rfl) rfl)
theorem b5B (W:World) (c:List Lt) (hl:c.length<=1000000) (hc:∀ l∈c,l.a.ok/\l.b.ok):AFun Tryz.prog W 9 [.lst (c.map Lt.cv)] (.val (.lst (c.map Lt.cv))):=by
 have:=b4J W c hl hc;rw [List.map_id] at this;exact this
def a0x (x y:Lt):Bool:=(x.neg == y.neg)&&(l8 x.a y.a&&l8 x.b y.b)
theorem a2a (x y:Lt):a0x x y=true↔x.strip=y.strip:=by
 unfold a0x;rw [Bool.and_eq_true,Bool.and_eq_true,k8,k8,beq_iff_eq];cases x;cases y;simp [Lt.strip]
theorem a8m (W:World) (x y:Lt) (hx:x.a.ok/\x.b.ok) (hy:y.a.ok/\y.b.ok):AFun Tryz.prog W 37 [x.cw,y.cw] (.val (.b (a0x x y))):=by
 refine a9 (rs:=[.b (a0x x y)]) Tryz.func37 Tryz.ntmps37 rfl rfl rfl rfl ?_;intro w U hW;have ha:=A7 w x.a y.a hx.1 hy.1;have hb:=A7 w x.b y.b hx.2 hy.2;refine aS (aR ?_);refine nc zd (nc zd (nc ze ?_));cases hn:(x.neg == y.neg) with
 | false =>
  have e:a0x x y=false:=by unfold a0x;rw [hn];rfl
  rw [e];refine aS (aR ?_);refine nc zg (nc zh (nc zg (nc zh (nc zbK (nc zl (nc zH (nc zH (nc zH (nc zH (nc zH (nc zI (nc zl (nc zH (nc zH (nc zH (nc zH (nc zH (nc zI (nc ze ?_)))))))))))))))))));exact aT (And.intro (.inr rfl) rfl)
 | true =>
  cases hA:l8 x.a y.a with
  | false =>
   rw [hA] at ha;have e:a0x x y=false:=by unfold a0x;rw [hn,hA];rfl
   rw [e];refine aS (aR ?_);refine nc zg (nc zh (nc zg (nc zh (nc zbK (nc zl (nc (zg (r:=gb)) (nc (zh (r:=gb)) (nc (zg (r:=gb)) (nc (zh (r:=gb)) (nc (zw (p:=gb) (z:=ha)) (nc zJ (nc zl (nc zH (nc zH (nc zH (nc zH (nc zH (nc zI (nc ze ?_)))))))))))))))))));exact aT (And.intro (.inr rfl) rfl)
  | true =>
   rw [hA] at ha;have e:a0x x y=l8 x.b y.b:=by unfold a0x;rw [hn,hA];rfl
   rw [e];refine aS (aR ?_);refine nc zg (nc zh (nc zg (nc zh (nc zbK (nc zl (nc (zg (r:=gb)) (nc (zh (r:=gb)) (nc (zg (r:=gb)) (nc (zh (r:=gb)) (nc (zw (p:=gb) (z:=ha)) (nc zJ (nc zl (nc (zg (r:=gb)) (nc (zh (r:=gb)) (nc (zg (r:=gb)) (nc (zh (r:=gb)) (nc (zw (p:=gb) (z:=hb)) (nc zJ (nc ze ?_)))))))))))))))))));exact aT (And.intro (.inr rfl) rfl)
def Z3:List Lt->List Lt->Bool
 | [],[]=>true
 | x::l,y::m=>a0x x y&&Z3 l m
 | _,_=>false
theorem H9:∀ {l m:List Lt},Z3 l m=true↔l.map Lt.strip=m.map Lt.strip
 | [],[]=>by simp [Z3]
 | [],_::_=>by simp [Z3]
 | _::_,[]=>by simp [Z3]
 | x::l,y::m=>by
  rw [Z3,Bool.and_eq_true,a2a,H9,map_cons,map_cons,List.cons.injEq]
theorem a0H (W:World) (c d:List Lt) (hl:c.length<=1000000) (hc:∀ l∈c,l.a.ok/\l.b.ok) (hd:∀ l∈d,l.a.ok/\l.b.ok):AFun Tryz.prog W 16 [.lst (c.map Lt.cv),.lst (d.map Lt.cv)] (.val (.b (Z3 c d))):=by
 have dZ:=Lt.size_all c;have fP:=Lt.size_all d;refine a9 (rs:=[.b (Z3 c d)]) Tryz.func16 Tryz.ntmps16 rfl rfl rfl rfl ?_;intro w U hW;refine aS (aR ?_);refine nc ze ?_;refine aS (aS (aR ?_));refine nc zl (nc zp (nc zl (nc zp (nc zE ?_))));refine aC rfl (fun h=>?_) (fun h=>?_)
 ·have kE:Z3 c d=false:=by rw [<-Bool.not_eq_true,H9];intro e;have:=congrArg List.length e;rw [length_map,length_map] at this;have h:=of_decide_eq_true h;rw [length_map,length_map] at h;omega
  rw [kE];refine aS (aR ?_);refine nc ze ?_;exact aT (And.intro (.inr rfl) rfl)
 have cI:c.length=d.length:=by have:=of_decide_eq_false h;simp only [length_map,ne_eq,Decidable.not_not] at this;omega
 refine aK ?_;refine aS (aS (aR ?_));refine nc ze ?_;refine aB (l7 c.length (fun k=>(c.take k).map Lt.strip=(d.take k).map Lt.strip) (fun k=>[(0,.val (.lst (c.map Lt.cv))),(1,.val (.lst (d.map Lt.cv))),(5,.val (.i k))]) (a7 ⟨rfl,rfl,rfl,trivial⟩) (by simp) ?_);intro k hk hI;refine aS (aS (aR ?_));refine nc zl (nc zl (nc zp (nc zi ?_)));refine aC rfl (fun kA=>?_) (fun kA=>?_)
 ·have kB:k<c.length:=by simpa using kA
  obtain ⟨x,hx⟩:∃ x,c[k]?=some x:=⟨c[k],getElem?_eq_getElem kB⟩
  obtain ⟨y,hy⟩:∃ y,d[k]?=some y:=⟨d[k]'(by omega),getElem?_eq_getElem (by omega)⟩
  have kI:=Lt.map_at hx;have gO:=Lt.map_at hy;have dQ:=a8m w x y (hc x (mem_of_getElem? hx)) (hd y (mem_of_getElem? hy));refine aK ?_;refine aS (aB (aS (aD (by kernel_rfl) (by kernel_rfl) ?_)));refine nc zl (nc zl (nc (zq (j:=k) (H:=kI) (hz:=dZ)) (nc zr (nc zl (nc zl (nc (zq (j:=k) (H:=gO) (hz:=fP)) (nc zr (nc (zw (z:=dQ)) (nc zF ?_)))))))));refine ⟨by kernel_rfl,?_⟩;refine aC rfl (fun gA=>?_) (fun gA=>?_)
  ·have kE:Z3 c d=false:=by rw [<-Bool.not_eq_true,H9];intro e;have e1:=congrArg (fun l=>l[k]?) e;simp only [List.getElem?_map,hx,hy,Option.map_some,Option.some.injEq] at e1;rw [(a2a x y).2 e1] at gA;cases gA
   rw [kE];refine aS (aR ?_);refine nc ze ?_;exact aT (And.intro (.inr rfl) rfl)
  ·have iD:x.strip=y.strip:=(a2a x y).1 (by simpa using gA);refine aK ?_;refine aR ?_;refine nc zl (nc zu (nc ze ?_));refine ⟨kB,?_,a7 ⟨rfl,rfl,rfl,trivial⟩⟩;show (c.take (k+1)).map Lt.strip=(d.take (k+1)).map Lt.strip;rw [take_add_one,take_add_one,map_append,map_append,hI,hx,hy];simp [iD]
 ·have kB:k=c.length:=by
   have:¬ k<c.length:=by simpa using kA
   omega
  subst kB;have he:Z3 c d=true:=by rw [take_length,List.take_of_length_le (by omega)] at hI;exact H9.2 hI
  rw [he];refine aE ?_;refine aS (aR ?_);refine nc ze ?_;exact aT (And.intro (.inr rfl) rfl)
def a1c (s:List Bd) (l:Lt):Lt:=⟨l.neg,j9 s l.a,j9 s l.b⟩
theorem b0y (s:List Bd) (l:Lt):(a1c s l).strip=(Lt.rep (c9 s) l).strip:=by
 unfold a1c Lt.strip Lt.rep;simp only [a3U]
end Go.Proofs.YtglmoficcjphaaaGreat
