/-
 OrFns3 AbMapT AbQ SbQ AbBackB SbImg SbApM ClSides ClWith SrtGen ClNmM AbKind CodeMath CodeLen CodePut CodePutMore RefSame CodeRef CodeAlive CodeReadMath CodeRead CodeUint CodeText CodeBackMath ClBy ClCode ClPut ClGet ClGet2 ClA ClB ClNmN EqMath EqWays EqConcat ClSort AbZero ClNmW
-/
import Derived.Test.YteegmcfobgpemaaGreatMg9
import Derived.Test.YteegmcfobgpemaaGreatMg3
import Derived.Test.YteegmcfobgpemaaGreatMg8
import Derived.Test.YteegmcfobgpemaaGreatMg4
import Derived.Test.YteegmcfobgpemaaGreatMg2
import Derived.WalkKit
import Derived.Test.YteegmcfobgpemaaGreatChecked
import Derived.WalkLawsBesides
import Derived.WalkSpells
import Derived.Test.YteegmcfobgpemaaGreatMg1
import Derived.Laws.BitsAllLaws
import Derived.Deep.QuietTactic
import Derived.BigQuiet
import Derived.Laws.BytesArg
import Derived.Test.YteegmcfobgpemaaGreatMg5
namespace Go.Proofs.YteegmcfobgpemaaGreat
open List (append_nil append_toArray cons_append getElem?_eq_getElem length_append length_cons length_map length_nil length_take map_append map_cons map_nil mem_append mem_append_left mem_append_right mem_flatMap mem_map mem_of_getElem? nil_append push_toArray size_toArray take_add_one take_length)
open Go.RowKit
set_option linter.unusedVariables false
set_option linter.unusedSimpArgs false
set_option maxRecDepth 100000
def Lt.fit(l:Lt):Prop:=l.a.fit/\l.b.fit
def wtL(l:Lt):Int:=(l.a.size:Int)+(l.b.size:Int)
theorem c0C(W:World)(l:Lt)(h:l.fit):AFun Tryz.prog W 83 [l.cw] (.val (.i (wtL l))):=by
 have h1:=h.1.2.2;have h2:=h.2.2.2;refine b9 (rs:=[.i (wtL l)]) Tryz.func83 Tryz.ntmps83 rfl rfl rfl rfl ?_;intro w U hW;refine qz<|nc zd<|nc ze ?_;refine aS<|aD (by kernel_rfl) (by kernel_rfl) ?_;refine nc zg<|nc zh<|nc (zk (z:=b1s w h.1.1 (by omega)))<|nc zg<|nc zh<|nc (zk (z:=b1s w h.2.1 (by omega)))<|nc zA<|nc ze ?_;refine⟨by kernel_rfl,?_⟩;exact aT (And.intro (.inr rfl) rfl)
def hvK(c:List Lt):Nat->Int×Int
 | 0=>(-1,0)
 | k+1=>match c[k]? with
  | none=>hvK c k
  | some l=>if l.neg=true/\(hvK c k).2<wtL l then((k:Int),wtL l)else hvK c k
theorem c0f(W:World)(c:List Lt)(hn:c.length<=100000)(hc:∀l∈c,l.fit):AFun Tryz.prog W 60 [.lst (c.map Lt.cv)] (.val (.i (hvK c c.length).1)):=by
 have kC:=Lt.size_all c;refine b9 (rs:=[.i (hvK c c.length).1]) Tryz.func60 Tryz.ntmps60 rfl rfl rfl rfl ?_;intro w U hW;refine qz<|nc ze ?_;refine qz<|nc ze<|nc ze ?_;refine aS<|qz<|nc zl<|nc zo<|nc zl ?_
 let st:Nat->AS:=λk=>[(3,.val (.i (hvK c k).1)),(4,.val (.i (hvK c k).2)),(8,.val (.lst (c.map Lt.cv))),(9,.val (.i (c.map Lt.cv).length)),(10,.val (.i k))]
 refine aB (n6 c.length st (a7 ⟨rfl,rfl,rfl,rfl,rfl,trivial⟩) ?_);intro k hk;refine qz<|nc zi ?_;refine aS<|aC rfl (λkA=>?_) (λkA=>?_)
 ·have kE:k<c.length:=by simpa using kA
  obtain⟨x,hx⟩:∃x,c[k]?=some x:=⟨c[k],getElem?_eq_getElem kE⟩
  have kT:=Lt.map_at hx;have xO:=hc x (mem_of_getElem? hx);have hK:hvK c (k+1)=if x.neg=true/\(hvK c k).2<wtL x then((k:Int),wtL x)else hvK c k:=by conv=>lhs;unfold hvK;rw[hx]
  refine aK<|aS<|aB<|qz<|nc zl<|nc (zt (j:=k) (H:=kT) (hz:=kC))<|nc zu<|nc zw<|nc ze<|nc zx ?_;refine AWp.wk (a7 (s':=[(3,.val (.i (hvK c k).1)),(4,.val (.i (hvK c k).2)),(5,.val (.i k)),(6,.bp 6 0 []),(100006,.bx x.cw),(8,.val (.lst (c.map Lt.cv))),(9,.val (.i (c.map Lt.cv).length)),(10,.val (.i k))]) ⟨rfl,rfl,rfl,rfl,rfl,rfl,rfl,rfl,trivial⟩) ?_;refine aS<|qz<|nc zg<|nc zh<|nc zZ ?_;refine aC rfl (λhb=>?_) (λhb=>?_)
  ·have hb:(!x.neg)=true:=hb;have mA:x.neg=false:=by simpa using hb
   have e:hvK c (k+1)=hvK c k:=by rw[hK,if_neg (by rw[mA];simp)]
   refine aE<|aR<|nc zA<|nc zl ?_;refine⟨kE,a7 ⟨?_,?_,rfl,rfl,rfl,trivial⟩⟩
   ·rw[e];rfl
   ·rw[e];rfl
  ·have hb:(!x.neg)=false:=hb;have mA:x.neg=true:=by simpa using hb
   refine aK<|qz<|nc zj<|nc (zk (z:=c0C w x xO))<|nc ze ?_;refine qz<|nc zl<|nc zl<|nc zN ?_;refine aC rfl (λhg=>?_) (λhg=>?_)
   ·have hg:decide (wtL x>(hvK c k).2)=true:=hg;have hg:=of_decide_eq_true hg;have e:hvK c (k+1)=((k:Int),wtL x):=by rw[hK,if_pos ⟨mA,by omega⟩]
    refine aR<|nc zl<|nc zl<|nc ze<|nc ze ?_;refine aR<|nc zA<|nc zl ?_;refine⟨kE,a7 ⟨?_,?_,rfl,rfl,rfl,trivial⟩⟩
    ·rw[e];rfl
    ·rw[e];rfl
   ·have hg:decide (wtL x>(hvK c k).2)=false:=hg;have hg:=of_decide_eq_false hg;have e:hvK c (k+1)=hvK c k:=by rw[hK,if_neg (λh=>by have:=h.2;omega)]
    refine aK<|aR<|nc zA<|nc zl ?_;refine⟨kE,a7 ⟨?_,?_,rfl,rfl,rfl,trivial⟩⟩
    ·rw[e];rfl
    ·rw[e];rfl
 ·have kE:k=c.length:=by
   have:¬ k<c.length:=by simpa using kA
   omega
  subst kE;refine aE<|qz<|nc zl<|nc ze ?_;exact aT (And.intro (.inr rfl) rfl)
noncomputable def c2n(c:List Lt)(x:Lt):Bool:=!(c.any λl=>a4C (H6 l) (H6 x))
noncomputable def a1Z(c:List Lt)(i:Int):Bool:=if 0<=i then(match c[i.toNat]? with | some x=>c2n c x | none=>false)else false
theorem b6q(W:World)(c:List Lt)(k:Nat)(x l:Lt)(hx:c[k]?=some x)(xO:x.fit)(hl:l.fit):AFun Tryz.prog W 85 [l.cw,.ptr (.lst (c.map Lt.cv)),.ptr (.i (k:Int))] (.val (.b (a4C (H6 l) (H6 x)))):=by
 have kC:=Lt.size_all c;have kT:=Lt.map_at hx;refine b9 (rs:=[.b (a4C (H6 l) (H6 x))]) Tryz.func85 Tryz.ntmps85 rfl rfl rfl rfl ?_;intro w U hW;refine qz<|nc zd<|nc ze ?_;refine aS<|aD (by kernel_rfl) (by kernel_rfl) ?_;refine nc zj<|nc zI<|nc zI<|nc (zt (j:=k) (H:=kT) (hz:=kC))<|nc zu<|nc (zk (z:=c1s w l x hl xO))<|nc ze ?_;refine⟨by kernel_rfl,?_⟩;exact aT (And.intro (.inr rfl) rfl)
theorem b7p(W:World)(c:List Lt)(i:Int)(hn:c.length<=100000)(hc:∀l∈c,l.fit):AFun Tryz.prog W 61 [.lst (c.map Lt.cv),.i i] (.val (.b (a1Z c i))):=by
 refine b9 (rs:=[.b (a1Z c i)]) Tryz.func61 Tryz.ntmps61 rfl rfl rfl rfl ?_;intro w U hW;refine qz<|nc zd<|nc zd<|nc ze ?_;by_cases hi:i<0
 ·have g:decide (i<0)=true:=decide_eq_true hi;have e:a1Z c i=false:=by unfold a1Z;rw[if_neg (by omega)]
  rw[e];refine aS<|qz<|nc zj<|nc zi<|nc zl<|nc zq<|nc zq<|nc zq<|nc zq<|nc zp ?_;refine aC rfl (λ_=>?_) (λh=>by cases h);refine qz<|nc ze ?_;exact aT (And.intro (.inr rfl) rfl)
 ·have g:decide (i<0)=false:=decide_eq_false hi;refine aS<|qz<|nc zj<|nc zi<|nc zl<|nc (zj (p:=gb))<|nc (zj (p:=gb))<|nc (zo (r:=gb))<|nc (zn (r:=gb))<|nc zr ?_;refine aC rfl (λh=>?_) (λh=>?_)
  ·have h:decide (i>=((c.map Lt.cv).length:Int))=true:=h;have h:=of_decide_eq_true h;rw[length_map]at h;have e:a1Z c i=false:=by unfold a1Z;rw[if_pos (by omega),List.getElem?_eq_none (by omega)]
   rw[e];refine qz<|nc ze ?_;exact aT (And.intro (.inr rfl) rfl)
  ·have h:decide (i>=((c.map Lt.cv).length:Int))=false:=h;have h:=of_decide_eq_false h;rw[length_map]at h;obtain⟨k,rfl⟩:∃k:Nat,i=(k:Int):=⟨i.toNat,by omega⟩
   have kE:k<c.length:=by omega
   obtain⟨x,hx⟩:∃x,c[k]?=some x:=⟨c[k],getElem?_eq_getElem kE⟩
   have xO:=hc x (mem_of_getElem? hx);have e:a1Z c (k:Int)=!(c.any λl=>a4C (H6 l) (H6 x)):=by unfold a1Z;rw[if_pos (by omega),Int.toNat_natCast,hx];rfl
   rw[e];refine aK ?_;refine AWp.wk ((q7 2 rfl rfl rfl (s':=[(3,.bp 3 0 []),(100003,.bx (.i (k:Int)))]) ⟨rfl,rfl,trivial⟩ rfl rfl rfl).trans (q7 3 rfl rfl rfl (s':=[(2,.val (.ptr (.lst (c.map Lt.cv))))]) ⟨rfl,trivial⟩ rfl rfl rfl)) ?_;refine qz<|nc zI<|nc zG ?_;refine nc (zk (z:=b7f w (λl=>a4C (H6 l) (H6 x)) (.fn 85 0 [.ptr (.lst (c.map Lt.cv)),.ptr (.i (k:Int))]) c (by omega) (λw l hl => .inl ⟨_,_,_,rfl,b6q w c k x l hx xO (hc l hl)⟩))) ?_;refine nc zZ<|nc ze ?_;exact aT (And.intro (.inr rfl) rfl)
noncomputable def gsK(c:List Lt)(k:Nat):List Int:=((List.range k).filter λi:Nat=>a1Z c (i:Int)).map λi:Nat=>(i:Int)
theorem a8W(c:List Lt)(k:Nat):(gsK c k).length<=k:=by
 unfold gsK;rw[length_map];exact Nat.le_trans (List.length_filter_le _ _) (by rw[List.length_range];exact Nat.le_refl _)
theorem b0Z(c:List Lt)(k:Nat):gsK c (k+1)=gsK c k++(if a1Z c (k:Int)=true then[(k:Int)] else[]):=by
 unfold gsK;rw[List.range_succ,List.filter_append,map_append];congr 1;by_cases h:a1Z c (k:Int)=true
 ·rw[if_pos h,List.filter_cons_of_pos (by exact h)];rfl
 ·rw[if_neg h,List.filter_cons_of_neg (by exact h)];rfl
noncomputable def W0(c:List Lt):List Int:=if(hvK c c.length).1>=0 then[(hvK c c.length).1]else gsK c c.length
theorem b5l(W:World)(c:List Lt)(hn:c.length<=100000)(hc:∀l∈c,l.fit):AFun Tryz.prog W 37 [.lst (c.map Lt.cv)] (.val (.lst ((W0 c).map CV.i))):=by
 refine b9 (rs:=[.lst ((W0 c).map CV.i)]) Tryz.func37 Tryz.ntmps37 rfl rfl rfl rfl ?_;intro w U hW;obtain⟨pJ,gJ⟩:∃z,z=(hvK c c.length).1:=⟨_,rfl⟩
 have kB:W0 c=if pJ>=0 then[pJ]else gsK c c.length:=by unfold W0;rw[gJ]
 have hH:=c0f w c hn hc;rw[<-gJ]at hH;refine qz<|nc ze ?_;refine aS<|qz<|nc zl<|nc (zk (z:=hH))<|nc ze ?_;refine qz<|nc zl<|nc zn ?_;refine aC rfl (λh=>?_) (λh=>?_)
 ·have h:decide (pJ>=0)=true:=h;rw[kB,if_pos (of_decide_eq_true h)];refine qz<|nc zl<|nc zy<|nc ze ?_;exact aT (And.intro (.inr rfl) rfl)
 ·have h:decide (pJ>=0)=false:=h;rw[kB,if_neg (of_decide_eq_false h)];refine aK<|qz<|nc ze ?_;refine aS<|qz<|nc zl<|nc zo<|nc zl ?_
  let st:Nat->AS:=λk=>[(0,.val (.lst (c.map Lt.cv))),(4,.own (.lst ((gsK c k).map CV.i)) 200023),(200023,.tok 3 1),(13,.val (.i (c.map Lt.cv).length)),(14,.val (.i k))]
  refine aB (n6 c.length st ((M9 4 200023 3 1 rfl rfl rfl rfl rfl rfl rfl).trans (a7 ⟨rfl,rfl,rfl,rfl,rfl,trivial⟩)) ?_);intro k hk;refine qz<|nc zi ?_;refine aS<|aC rfl (λkA=>?_) (λkA=>?_)
  ·have kE:k<c.length:=by simpa using kA
   have iD:((gsK c k).map CV.i).length<=k:=by rw[length_map];exact a8W c k
   have mX:=a8W c k;have hsz3:∀x∈(gsK c k).map CV.i,x.size=1:=n8 _;refine aK<|aS<|aB<|qz<|nc zl<|nc ze ?_;refine qz<|nc zl<|nc zl<|nc (zk (z:=b7p w c k hn hc)) ?_;refine aC rfl (λhg=>?_) (λhg=>?_)
   ·have hg:a1Z c (k:Int)=true:=hg;refine aR<|nc zl<|nc zl<|nc zy<|nc zz<|nc ze ?_;refine AWp.wk ((a7 (s':=[(0,.val (.lst (c.map Lt.cv))),(4,.own (.lst ((gsK c k).map CV.i++[CV.i (k:Int)])) 300023),(300023,.tok 3 1),(13,.val (.i (c.map Lt.cv).length)),(14,.val (.i k))]) ⟨rfl,rfl,rfl,rfl,rfl,trivial⟩).trans (B1 300023 200023 rfl rfl rfl rfl)) ?_;refine aR<|nc zA<|nc zl ?_;refine⟨kE,a7 ⟨rfl,?_,rfl,rfl,rfl,trivial⟩⟩;show some (AV.own (.lst _) _)=some (AV.own (.lst _) _);rw[b0Z,if_pos hg,map_append];rfl
   ·have hg:a1Z c (k:Int)=false:=hg;refine aK<|aR<|nc zA<|nc zl ?_;refine⟨kE,a7 ⟨rfl,?_,rfl,rfl,rfl,trivial⟩⟩;show some (AV.own (.lst _) _)=some (AV.own (.lst _) _);rw[b0Z,if_neg (by rw[hg];decide),append_nil]
  ·have kE:k=c.length:=by
    have:¬ k<c.length:=by simpa using kA
    omega
   subst kE;refine aE<|qz<|nc zl<|nc ze ?_;exact aT (And.intro (.inr rfl) rfl)
section
open Go.RowKit Go.MapKept
section
variable{P:Program}{w0:World}{U0:UX}{nt:Nat}{ops:Array Oper}{o:Oper}{S:Nat->Option AV}{gs:List Nat}{d:Nat}{s:AS}{a:Act}{w:World}{D:Nat->Nat->Prop}{hv:Nat->Value}
theorem c1o{U:Nat->Nat->Prop}{w:World}{v:Value}{et:TypeId}(dO:(P.info? et).map (·.zero)=some (some (.agg #[.int .i64 0,.slice none 0 0])))(hr:Rep U w (.row [.i 0,.lst []]) v.cells.toList)(hh:∃it,P.info? et=some it/\it.zero=some v):VRep U w (.row [.i 0,.lst []]) v:=by
 obtain⟨it,h1,h2⟩:=hh;rw[h1,Option.map_some,h2]at dO;injection dO with dO;injection dO with dO;subst dO;exact⟨_,rfl,hr⟩
end
end
section
open Go.RowKit Go.MapKept
def QUp(q:(Nat->Nat->Prop)->World->Prop):Prop:=∀(U V:Nat->Nat->Prop) (w w':World),q U w->Below w.heap.size w w'->(∀b o,b<w.heap.size->U b o->V b o)->q V w'
def a9m(P:Program)(q:(Nat->Nat->Prop)->World->Prop)(f:FuncId)(args:List CV)(r:AV):Prop:=
 a3H P f/\(r.t=0\/r.t=4)/\r.n=0/\∀(U:Nat->Nat->Prop) (w:World) (vs:List Value),q U w->VReps U w args vs ->
  Calls P f vs.toArray w λe w'=>∃v,e=.returned v/\RR (λb o=>U b o\/w.heap.size<=b) w' r v/\Below w.heap.size w w'
def a9v(P:Program)(q:(Nat->Nat->Prop)->World->Prop)(fc:CV)(args:List CV)(r:AV):Prop:=∃f n l,fc=.fn f n l/\a9m P q f (l.take n++(args++l.drop n)) r
section
variable{P:Program}{w0:World}{U0:UX}{nt:Nat}{ops:Array Oper}{o:Oper}{S:Nat->Option AV}{gs:List Nat}{d:Nat}{s:AS}{a:Act}{w:World}{D:Nat->Nat->Prop}{hv:Nat->Value}{q:(Nat->Nat->Prop)->World->Prop}
theorem SimG.atQ{W:World}(h:SimG w0 U0 nt s a w D hv)(hQ:QUp q)(hW:Hw W w0 U0)(hq:q U0.m w0):q (Us w0 U0 D) w:=
 hQ _ _ _ _ hq (h.below.below hW.2) λb o hb hu => .inl ⟨hb,hu,hW.2 b⟩
theorem c0t{W:World}(hQ:QUp q)(hW:Hw W w0 U0)(hq:q U0.m w0){f:FuncId}{xs:Array Operand}{ts:Array TypeId}{cs:List CV}{r:AV}(hg:Gd w0 U0 nt ops o gs S)(hd:o.dst=some d)(hn:Nat.blt d nt=true)(h5:Nat.blt d 100000=true)
  (ho:o.op=.call { callee:=.value (.func f),args:=xs,argTypes:=ts }) (hx:a0K S xs.toList=some cs) (hc:a9m P q f cs r):AOp P w0 U0 nt ops o (gs++rdl xs.toList) [] S [(d,r)]:=by
 intro s hs _ a w ⟨D,hv,h⟩ Q K hK;rw[if_pos (hg s (λk hk=>hs k (mem_append_left _ hk)) a w D hv h)];have hargs:=I8 h (λk hk=>hs k (mem_append_right _ hk)) hx;obtain⟨h1,h2,h3,h4⟩:=hc;have kK:=h4 _ w _ (h.atQ hQ hW hq) hargs;have he:(execOp a.eval o).run P w=.ok (.enter f (xs.toList.map a.eval).toArray) w:=by
  have hf:a.eval (.func f)=.func (.func f) #[] #[]:=rfl;have cW:=h1 (xs.map a.eval) w;have gT:(xs.toList.map a.eval).toArray=xs.map a.eval:=by apply Array.ext';simp
  rw[gT];generalize a.eval=ρ at hf cW |-;simp[execOp,ho,resolve,invoke,Deferred.ofValue,hf,cW]
 unfold Oper.wp;rw[he,Oper.upon_enter];refine kK.mono ?_;rintro e w' ⟨v,rfl,h6,h7⟩;rw[hd];refine hK _ _ ⟨Dn D w w',hv,(h.growN h7).put (bL hn) (bL h5) (S7 h2 h3 (a0h rfl h7.size h.below.size h6))⟩
theorem zbF{P:Program}{w0:World}{U0:UX}{nt:Nat}{ops:Array Oper}{o:Oper}{S:Nat->Option AV}{gs:List Nat}{d:Nat}{q:(Nat->Nat->Prop)->World->Prop}{W:World}{f:FuncId}{xs:Array Operand}{ts:Array TypeId}{cs:List CV}{r:AV}(hQ:QUp q)(hW:Hw W w0 U0)(hq:q U0.m w0)(p:Gd w0 U0 nt ops o gs S:=by exact gN rfl)(t:o.dst=some d:=by exact rfl)(u:Nat.blt d nt=true:=by exact rfl)(x:Nat.blt d 100000=true:=by exact rfl)(y:o.op=.call { callee:=.value (.func f),args:=xs,argTypes:=ts }:=by exact rfl)(z:a0K S xs.toList=some cs:=by exact rfl)(A:a9m P q f cs r):AOp P w0 U0 nt ops o (gs++rdl xs.toList) [] S [(d,r)]:=c0t hQ hW hq p t u x y z A
theorem b7S{W:World}(hQ:QUp q)(hW:Hw W w0 U0)(hq:q U0.m w0){x:Operand}{xs:Array Operand}{ts:Array TypeId}{fc:CV}{cs:List CV}{r:AV}{n q' p}(hg:Gd w0 U0 nt ops o gs S)(hd:o.dst=some d)(hn:Nat.blt d nt=true)(h5:Nat.blt d 100000=true)
  (ho:o.op=.call { callee:=.value x,args:=xs,argTypes:=ts }) (hf:ev S x=some ⟨0,fc,n,q',p⟩) (hx:a0K S xs.toList=some cs) (hc:a9v P q fc cs r):AOp P w0 U0 nt ops o (gs++(rd x++rdl xs.toList)) [] S [(d,r)]:=by
 intro s hs _ a w ⟨D,hv,h⟩ Q K hK;rw[if_pos (hg s (λk hk=>hs k (mem_append_left _ hk)) a w D hv h)];have hargs:=I8 h (λk hk=>hs k (mem_append_right _ (mem_append_right _ hk))) hx;have nI:=A7 h (λk hk=>hs k (mem_append_right _ (mem_append_left _ hk))) hf;obtain⟨f,m,l,rfl,h1,h2,h3,h4⟩:=hc;obtain⟨ys,zs,e1,e2,e3,e4⟩:=X0.1 nI;obtain⟨s1,s2⟩:=VReps.split (S5 e4 e3);rw[e2]at s1 s2;have kK:=h4 _ w _ (h.atQ hQ hW hq) (s1.append (hargs.append s2));have he:(execOp a.eval o).run P w=.ok (.enter f (ys++(xs.toList.map a.eval++zs)).toArray) w:=by
  have cW:=h1 (ys.toArray++(xs.map a.eval++zs.toArray)) w;have gT:(ys++(xs.toList.map a.eval++zs)).toArray=ys.toArray++(xs.map a.eval++zs.toArray):=by apply Array.ext';simp
  rw[gT];generalize a.eval=ρ at e1 cW |-;simp[execOp,ho,resolve,invoke,Deferred.ofValue,e1,cW]
 unfold Oper.wp;rw[he,Oper.upon_enter];refine kK.mono ?_;rintro e w' ⟨v,rfl,h6,h7⟩;rw[hd];refine hK _ _ ⟨Dn D w w',hv,(h.growN h7).put (bL hn) (bL h5) (S7 h2 h3 (a0h rfl h7.size h.below.size h6))⟩
theorem zbE{P:Program}{w0:World}{U0:UX}{nt:Nat}{ops:Array Oper}{o:Oper}{S:Nat->Option AV}{gs:List Nat}{d:Nat}{q:(Nat->Nat->Prop)->World->Prop}{W:World}{x:Operand}{xs:Array Operand}{ts:Array TypeId}{fc:CV}{cs:List CV}{r:AV}{n}{q'}{p}(hQ:QUp q)(hW:Hw W w0 U0)(hq:q U0.m w0)(t:Gd w0 U0 nt ops o gs S:=by exact gN rfl)(u:o.dst=some d:=by exact rfl)(y:Nat.blt d nt=true:=by exact rfl)(z:Nat.blt d 100000=true:=by exact rfl)(A:o.op=.call { callee:=.value x,args:=xs,argTypes:=ts }:=by exact rfl)(B:ev S x=some ⟨0,fc,n,q',p⟩:=by exact rfl)(C:a0K S xs.toList=some cs:=by exact rfl)(E:a9v P q fc cs r):AOp P w0 U0 nt ops o (gs++(rd x++rdl xs.toList)) [] S [(d,r)]:=b7S hQ hW hq t u y z A B C E
def b0p(b g:Nat)(l:List CV)(U:Nat->Nat->Prop)(w:World):Prop:=
 w.cell? ⟨b,0,none⟩=some (.map (some g))/\∃es clock,w.heap[g]?=some (.map es clock)/\Ents U w l es.toList
theorem a4b(b g:Nat)(l:List CV):QUp (b0p b g l):=by
 rintro U V w w' ⟨h1,es,clock,h2,h3⟩ hb hU;have kW:∀(b o:Nat) (v:Value),w.cell? ⟨b,o,none⟩=some v->b<w.heap.size/\w'.cell? ⟨b,o,none⟩=some v:=λb o v hc=>by have kA:=World.block_lt_of_cell? w _ hc;refine⟨kA,?_⟩;have:=hb.block b kA;simp only[World.cell?]at hc |-;rw[this];exact hc
 have hg:g<w.heap.size:=by
  rcases Nat.lt_or_ge g w.heap.size with h | h
  ·exact h
  ·rw[Array.getElem?_eq_none h]at h2;cases h2
 exact⟨(kW _ _ _ h1).2,es,clock,by rw[hb.block g hg];exact h2,h3.keep λb o v hu hc=>⟨hU b o (kW b o v hc).1 hu,(kW b o v hc).2⟩⟩
theorem c0H{W:World}{b g:Nat}{l:List CV}(hW:Hw W w0 U0)(hq:b0p b g l U0.m w0)(hg:Gd w0 U0 nt ops o gs S)(hd:o.dst=some d)(hn:Nat.blt d nt=true)(h5:Nat.blt d 100000=true){x:Operand}{ty:TypeId}{ds:TypeDesc}{n q p}(ho:o.op=.load ty x)(hu:P.underlying ty=some ds)(hi:(P.info? ty).map (·.size)=some 1)(hx:ev S x=some ⟨0,.sc (.pointer (some ⟨b,0,none⟩)),n,q,p⟩)(hk:X1 ds=false):AOp P w0 U0 nt ops o (gs++rd x) [] S [(d,.val (.sc (.map (some g))))]:=
 l4 hg hd hn h5 (λk hk=>mem_append_left _ hk) λs hs a w D hv hm=>by
  have h1:=v9 hm (λk hk=>hs k (mem_append_right _ hk)) hx;obtain⟨h2,_⟩:=hm.atQ (a4b b g l) hW hq;obtain⟨v,h4,h6,_⟩:=D9 (c:=.sc (.map (some g))) (U:=Us w0 U0 D) (w:=w) (b:=b) (off:=0) (xs:=[.map (some g)]) hu hi hk rfl (L6.2 ⟨rfl,rfl⟩) (λi hi=>by
   have:i=0:=by simp at hi;omega
   subst this;exact h2)
  refine⟨v,?_,n9 h6⟩;generalize a.eval=ρ at h1 |-;simp[execOp,ho,Instr.loadAt,Instr.sureAddr,h1,h4]
theorem zbC{P:Program}{w0:World}{U0:UX}{nt:Nat}{ops:Array Oper}{o:Oper}{S:Nat->Option AV}{gs:List Nat}{d:Nat}{q}{W:World}{b:Nat}{g:Nat}{l:List CV}{x:Operand}{ty:TypeId}{ds:TypeDesc}{n}{p}(hW:Hw W w0 U0)(hq:b0p b g l U0.m w0)(r:Gd w0 U0 nt ops o gs S:=by exact gN rfl)(t:o.dst=some d:=by exact rfl)(u:Nat.blt d nt=true:=by exact rfl)(y:Nat.blt d 100000=true:=by exact rfl)(z:o.op=.load ty x:=by exact rfl)(A:P.underlying ty=some ds:=by exact rfl)(B:(P.info? ty).map (·.size)=some 1:=by exact rfl)(C:ev S x=some ⟨0,.sc (.pointer (some ⟨b,0,none⟩)),n,q,p⟩:=by exact rfl)(E:X1 ds=false:=by exact rfl):AOp P w0 U0 nt ops o (gs++rd x) [] S [(d,.val (.sc (.map (some g))))]:=c0H hW hq r t u y z A B C E
theorem b5Y{W:World}{b g:Nat}{l:List CV}(hW:Hw W w0 U0)(hq:b0p b g l U0.m w0)(hg:Gd w0 U0 nt ops o gs S)(hd:o.dst=some d)(hn:Nat.blt d nt=true)(h5:Nat.blt d 100000=true){x y:Operand}{t kt et:TypeId}{k:IntKind}{i:Int}{n0 q0 p0 n' q' p'}(ho:o.op=.lookup t x y true)(hu:P.underlying t=some (.map kt et))(eZ:P.underlying kt=some (.int k))(dO:(P.info? et).map (·.zero)=some (some (.agg #[.int .i64 0,.slice none 0 0])))(nZ:Y5 P et=some (.row [.i 0,.lst []]))(hx:ev S x=some ⟨0,.sc (.map (some g)),n0,q0,p0⟩)(hy:ev S y=some ⟨0,.sc (.int k i),n',q',p'⟩)(hik:A5 k l){r:Option CV}(hlr:G4 k i l=r):AOp P w0 U0 nt ops o (gs++(rd x++rd y)) [] S [(d,.tup [r.getD (.row [.i 0,.lst []]),.b r.isSome])]:=
 l4 hg hd hn h5 (λk hk=>mem_append_left _ hk) λs hs a w D hv hm=>by
  have h1:=v9 hm (λk hk=>hs k (mem_append_right _ (mem_append_left _ hk))) hx;have e2:=v9 hm (λk hk=>hs k (mem_append_right _ (mem_append_right _ hk))) hy;subst hlr;obtain⟨_,es,clock,g2,g3⟩:=hm.atQ (a4b b g l) hW hq;obtain⟨it,zv,i1,i2,i3⟩:=N8 nZ;have dS:=run_checkKey (P:=P) (w:=w) eZ (k:=.int k i) rfl es.isEmpty 9999;have dD:=Go.MapKept.run_getObj_map (P:=P) g2;rcases M7 0 g3 hik (i:=i) with⟨f1,f2⟩ | ⟨j,e,c,f1,f2,f3,f4,f5,f6⟩
  ·have dE:=run_findKey (P:=P) (w:=w) eZ f1;have sQ:(zeroValue et).run P w=.ok zv w:=by simp[zeroValue,typeInfo,i1,i2]
   refine⟨.tuple #[zv,.bool false],?_,?_⟩
   ·generalize a.eval=ρ at h1 e2 |-;simp[execOp,ho,Instr.lookup,run_underlying hu,h1,e2,dD,dS,dE,sQ]
   ·rw[f2];have hr:=i3 (Us w0 U0 D) w;exact⟨[zv,.bool false],rfl,zv,[.bool false],rfl,c1o dO hr ⟨it,i1,i2⟩,.bool false,[],rfl,o0.2 ⟨rfl,rfl⟩,rfl⟩
  ·have dE:=run_findKey (P:=P) (w:=w) eZ f1;refine⟨.tuple #[e.val,.bool true],?_,?_⟩
   ·generalize a.eval=ρ at h1 e2 |-;simp[execOp,ho,Instr.lookup,run_underlying hu,h1,e2,dD,dS,dE]
   ·rw[f6];exact⟨[e.val,.bool true],rfl,e.val,[.bool true],rfl,f4,.bool true,[],rfl,o0.2 ⟨rfl,rfl⟩,rfl⟩
theorem zbD{P:Program}{w0:World}{U0:UX}{nt:Nat}{ops:Array Oper}{o:Oper}{S:Nat->Option AV}{gs:List Nat}{d:Nat}{W:World}{b:Nat}{g:Nat}{l:List CV}{x:Operand}{y:Operand}{t:TypeId}{kt:TypeId}{et:TypeId}{k:IntKind}{i:Int}{n0}{q0}{p0}{n'}{q'}{p'}{r:Option CV}(hW:Hw W w0 U0)(hq:b0p b g l U0.m w0)(p:Gd w0 U0 nt ops o gs S:=by exact gN rfl)(u:o.dst=some d:=by exact rfl)(v:Nat.blt d nt=true:=by exact rfl)(z:Nat.blt d 100000=true:=by exact rfl)(A:o.op=.lookup t x y true:=by exact rfl)(B:P.underlying t=some (.map kt et):=by exact rfl)(C:P.underlying kt=some (.int k):=by exact rfl)(E:(P.info? et).map (·.zero)=some (some (.agg #[.int .i64 0,.slice none 0 0])):=by exact rfl)(F:Y5 P et=some (.row [.i 0,.lst []]):=by exact rfl)(G:ev S x=some ⟨0,.sc (.map (some g)),n0,q0,p0⟩:=by exact rfl)(H:ev S y=some ⟨0,.sc (.int k i),n',q',p'⟩:=by exact rfl)(hik:A5 k l)(hlr:G4 k i l=r):AOp P w0 U0 nt ops o (gs++(rd x++rd y)) [] S [(d,.tup [r.getD (.row [.i 0,.lst []]),.b r.isSome])]:=b5Y hW hq p u v z A B C E F G H hik hlr
theorem b1o {f : FuncId} {fn : Func} {c : Code} {args rs : List CV} (hf : P.funcs[f]? = some fn) (hn : fn.ntmps = nt) (gM : (fn.name == "runtime.NumGoroutine") = false) (hb : fn.body = some c) (hl : Nat.ble args.length nt = true) (cG : Nat.blt nt 100000 = true)
  (h:∀(w:World) (U:UX),Hw w w U->q U.m w->AWp P w U nt c (λe s'=>(e=.normal\/e=.ret)/\b1u P s' fn.results.toList=some rs) (a6F args 0)):a9m P q f args (O4 rs):=by
 have jC:((O4 rs).t=0\/(O4 rs).t=4)/\(O4 rs).n=0:=by
  unfold O4;split
  ·exact⟨.inl rfl,rfl⟩
  ·exact⟨.inr rfl,rfl⟩
 refine⟨x0 hf gM (by rw[hb];rfl),jC.1,jC.2,λU w vs hq hargs=>?_⟩;have kD:=hargs.len;refine calls_of_wp hf hb ?_;have cS:=Nat.le_of_ble_eq_true hl;have cG:=bL cG;have kZ:∀{k av},100000<=k->look (a6F args 0) k=some av->False:=fun{k av} h1 h2=>by rw[a6R (by omega)]at h2;cases h2
 obtain⟨V,hV⟩:∃V:UX,V=⟨U,λ_=>False,λ_=>none,λ_ _ h=>by cases h⟩:=⟨_,rfl⟩
 have hs:Sim w V nt (a6F args 0) { tmps:=vs.toArray++Array.replicate (fn.ntmps-vs.toArray.size) undef,defers:=[] } w:=by
  refine⟨λ_ _=>False,λ_ => .slice none 0 0,BelowX.refl _ _,rfl,by simp[hn];omega,λd av h1 h2=>?_,λn o av h1=>(kZ (by unfold i7;omega) h1).elim,λn o o' av av' h1=>(kZ (by unfold i7;omega) h1).elim,λk av h1 h2=>(kZ h2.1 h1).elim,λk av g h1 h2=>(kZ h2.1 h1).elim,λk k' av av' g h1 h2 h3=>(kZ h3.1 h1).elim,λn g h1=>(by rw[hV]at h1;cases h1),λb o hd=>hd.elim⟩;obtain⟨_,c',h3,rfl⟩:=a0z h1;rw[Nat.sub_zero]at h3;obtain⟨v,h4,h5⟩:=hargs.at h3;have hdl:d<vs.length:=by
   rcases Nat.lt_or_ge d vs.length with h | h
   ·exact h
   ·rw[List.getElem?_eq_none h]at h4;cases h4
  refine⟨v,?_,n9 (h5.keep λb o v hu hc=>⟨.inl ⟨World.block_lt_of_cell? w _ hc,by rw[hV];exact⟨hu,λh=>h⟩⟩,hc⟩)⟩;rw[Array.getElem?_append_left (by simpa using hdl)];simpa using h4
 refine wp_mono ((h w V (by rw[hV];exact⟨λ_=>rfl,λ_ h=>h⟩) (by rw[hV];exact hq) ⟨none,[]⟩ _ w hs).wp rfl (λe a w ⟨s,_,h⟩=>h.df)) ?_;rintro e a' w' ⟨s',⟨h1,h2⟩,D,hv,h3⟩;obtain⟨v,h4,h5⟩:=a9c h3 h2;have hR:RR (λb o=>U b o\/w.heap.size<=b) w' (O4 rs) v:=by
  have hk:∀b o u,Us w V D b o->w'.cell? ⟨b,o,none⟩=some u->(U b o\/w.heap.size<=b)/\w'.cell? ⟨b,o,none⟩=some u:=λb o u hu hc=>⟨hu.imp (λh=>by rw[hV]at h;exact h.2.1) λh=>h.1,hc⟩
  unfold RR at h5 |-;split
  ·rename_i ht;rw[if_pos ht]at h5;obtain⟨vs,h6,h7⟩:=h5;exact⟨vs,h6,h7.keep hk⟩
  ·rename_i ht;rw[if_neg ht]at h5;exact h5.keep hk
 have lR:Below w.heap.size w w':=h3.below.below (by rw[hV];exact λ_ h=>h);rcases h1 with rfl | rfl
 ·exact⟨h3.dfr,v,h4,v,rfl,hR,lR⟩
 ·exact⟨h3.dfr,v,h4,v,rfl,hR,lR⟩
end
end
noncomputable def imR(b:Bd):CV:=.row [.sc (.int .i64 b.v),b.t.cw]
theorem a5J(L:List Bd):A5 .i64 (L.map imR):=λr hr=>by
 obtain⟨b,_,rfl⟩:=mem_map.1 hr;exact⟨_,_,rfl⟩
theorem b1k(v:Int):∀L:List Bd,G4 .i64 v (L.map imR)=(d9 L v).map Tm.cw
 | []=>rfl
 | b::L=>by
  rw[map_cons];unfold imR;rw[R9,d9];by_cases h:b.v=v
  ·rw[if_pos h,if_pos h];rfl
  ·rw[if_neg h,if_neg h];exact b1k v L
theorem b7G(b g:Nat)(L:List Bd)(v:Int)(h1:0<=v)(h2:v<=9223372036854775807):a9m Tryz.prog (b0p b g (L.map imR)) 128 [.i v,.sc (.pointer (some ⟨b,0,none⟩))] (.val (f0 L v).cw):=by
 refine b1o (rs:=[(f0 L v).cw]) Tryz.func128 Tryz.ntmps128 rfl rfl rfl rfl ?_;intro w U hW hq;have hQ:=a4b b g (L.map imR);have kB:=b1k v L;refine qz<|nc zw ?_;unfold f0;cases hf:d9 L v with
 | none =>
  rw[hf]at kB;refine aS<|qz<|nc (zbC hW hq)<|nc zl<|nc (zbD hW hq (hik:=a5J _) (hlr:=kB))<|nc zl<|nc zE<|nc zE<|nc zw<|nc zx<|nc ze ?_;refine qz<|nc zl ?_;refine aC rfl (λhc=>?_) (λhc=>?_)
  ·cases hc
  ·refine aK<|qz<|nc zl<|nc (zk (z:=K0 w v h1 h2))<|nc zx ?_;exact aT (And.intro (.inr rfl) rfl)
 | some t =>
  rw[hf]at kB;refine aS<|qz<|nc (zbC hW hq)<|nc zl<|nc (zbD hW hq (hik:=a5J _) (hlr:=kB))<|nc zl<|nc zE<|nc zE<|nc zw<|nc zx<|nc ze ?_;refine qz<|nc zl ?_;refine aC rfl (λhc=>?_) (λhc=>?_)
  ·refine qz<|nc zj<|nc zx ?_;exact aT (And.intro (.inr rfl) rfl)
  ·cases hc
theorem a8e{q:(Nat->Nat->Prop)->World->Prop}(hQ:QUp q)(fc:CV)(img:Int->Tm)(hI:∀v,0<=v->v<=9223372036854775807->a9v Tryz.prog q fc [.i v] (.val (img v).cw)/\(img v).rng/\(img v).size<=90000000000):∀t:Tm,t.rng->t.ok->a9m Tryz.prog q 71 [t.cw,fc] (.val (a8 img t).cw):=by
 intro t
 induction t using Tm.ind with
 | h f l ih =>
 intro hr kH;have kH:=(Tm.ok_iff _).1 kH;have hr:=(Tm.rng_iff _).1 hr;simp only at kH hr;have kC:=Tm.size_all l;refine b1o (rs:=[(a8 img ⟨f,l⟩).cw]) Tryz.func71 Tryz.ntmps71 rfl rfl rfl rfl ?_;intro w U hW hq;refine qz<|nc zd<|nc zw ?_;refine aS<|qz<|nc zj ?_;refine nc (zk (z:=V1 w ⟨f,l⟩)) ?_;refine aC rfl (λhc=>?_) (λhc=>?_)
 ·have hf:f<0:=by simpa using hc
  rw[i9 hf];obtain⟨i1,i2,i3⟩:=hI (-1-f) (by omega) (by omega);refine qz<|nc zl<|nc zj ?_;refine nc (zk (z:=Z3 w ⟨f,l⟩ hr.1.1 hf)) ?_;refine nc (zbE hQ hW hq (E:=i1))<|nc (zk (z:=M3 w i2 i3))<|nc zx ?_;exact aT (And.intro (.inr rfl) rfl)
 ·have hf:¬ f<0:=by simpa using hc
  rw[c9 hf];refine aK<|qz<|nc ze ?_;refine aS<|qz<|nc zg<|nc zh<|nc zo<|nc zl ?_;refine aB (n6 l.length (λk=>[(1,.val fc),(2,.bp 2 0 []),(100002,.bx (Tm.cw ⟨f,l⟩)),(4,.bp 4 0 []),(100004,⟨5,.row [.i 0,.lst []],1,0,[1]⟩),(5,.own (.lst ((l.take k).map λt=>(a8 img t).cv)) 200027),(200027,.tok 41 2),(16,.val (.lst (l.map Tm.cv))),(17,.val (.i (l.map Tm.cv).length)),(18,.val (.i k))])
   ((M9 5 200027 41 2 rfl rfl rfl rfl rfl rfl rfl).trans (a7 ⟨rfl,rfl,rfl,rfl,rfl,rfl,rfl,rfl,rfl,rfl,trivial⟩)) ?_)
  intro k hk;refine qz<|nc zi ?_;refine aS<|aC rfl (λhc=>?_) (λhc=>?_)
  ·have kE:k<l.length:=by simp only[length_map,decide_eq_true_eq]at hc;omega
   obtain⟨t,ht⟩:∃t,l[k]?=some t:=⟨l[k],getElem?_eq_getElem kE⟩
   have rG:=Tm.map_at ht;have lW:=mem_of_getElem? ht;have jP:∀c∈(l.take k).map λt=>(a8 img t).cv,c.size=2:=by intro c hc;obtain⟨t,_,rfl⟩:=mem_map.1 hc;exact Tm.size_cv _
   refine aK<|aS<|aB<|qz<|nc (zt (H:=by assumption) (hz:=by first | assumption | exact sZ rfl | exact Tm.size_all _ | exact Bd.size_all _ | exact n8 _ | exact bys_size _ | exact Lt.size_all _))<|nc zu<|nc zw<|nc zx ?_;refine aR<|nc zl<|nc zj<|nc zl<|nc (zbF hQ hW hq (A:=ih t lW (hr.2 t lW) (kH.2 t lW)))<|nc zy<|nc zz<|nc ze ?_;refine aR<|nc zA<|nc zl ?_;refine⟨kE,Wk.trans (a7 (s':=[(1,.val fc),(2,.bp 2 0 []),(100002,.bx (Tm.cw ⟨f,l⟩)),(4,.bp 4 0 []),(100004,⟨5,.row [.i 0,.lst []],1,0,[1]⟩),(5,.own (.lst ((l.take (k+1)).map λt=>(a8 img t).cv)) 300027),(300027,.tok 41 2),(16,.val (.lst (l.map Tm.cv))),(17,.val (.i (l.map Tm.cv).length)),(18,.val (.i ((k+1:Nat):Int)))]) ⟨rfl,rfl,rfl,rfl,rfl,?_,rfl,rfl,rfl,rfl,trivial⟩) (B1 300027 200027 rfl rfl rfl rfl)⟩;rw[take_add_one,ht,map_append];simp only[Option.toList_some,map_cons,map_nil,Tm.cv_eq];rfl
  ·have kE:k=l.length:=by simp only[length_map,decide_eq_false_iff_not]at hc;omega
   subst kE;rw[take_length];refine aE<|qz<|nc zg<|nc zh<|nc zl<|nc zC<|nc zx ?_;refine aT (And.intro (.inr rfl) ?_);unfold Tm.cw;rw[List.map_map];rfl
section
open Go.RowKit Go.MapKept Go.Shelf
attribute [local go_sem] Oper.semAt_some
set_option maxRecDepth 100000 in
set_option maxHeartbeats 2000000 in
theorem b8l(l Bb ob n:Nat)(c0 c1 c2:Nat->Value)(R:Nat->Nat->Prop)(w:World)(ao:Option Addr)(cap:Nat)(dU:w.cell? ⟨Bb,ob,none⟩=some (.slice ao n cap))(qR:R Bb ob)(cJ:∀i,i<n->∃b off,ao=some ⟨b,off,none⟩/\(R b (off+i*3)/\w.cell? ⟨b,off+i*3,none⟩=some (c0 i))/\(R b (off+i*3+1)/\w.cell? ⟨b,off+i*3+1,none⟩=some (c1 i))/\(R b (off+i*3+2)/\w.cell? ⟨b,off+i*3+2,none⟩=some (c2 i)))(hl:n<=1000000000)
  (J:List Nat->World->Prop) (hJ:∀pre A B,J pre A->Below A.heap.size A B->J pre B)
  (hY:∀pre (x:Nat) V,J pre V->x=pre.length/\x<n->YieldAt Fence.wide 1 Tryz.prog l #[.int .i64 ((n:Int)-1-x),.agg #[c0 (n-1-x),c1 (n-1-x),c2 (n-1-x)]] V λe V'=>e=.returned (.bool true)/\J (pre++[x]) V'/\KpX w.heap.size (λb=>¬ ∃o,R b o) V V')
  (W:World) (hW:Below w.heap.size w W) (h0:J [] W) :
  CallsIn Fence.wide 2 Tryz.prog 162 #[.func (.yield l) #[] #[],.pointer (some ⟨Bb,ob,none⟩)] W λe W'=>(∃v,e=.returned v)/\∃ys,ys=List.range n/\J ys W':=by
 have eP:∀{V:World},KpX w.heap.size (λb=>¬ ∃o,R b o) w V->V.cell? ⟨Bb,ob,none⟩=some (.slice ao n cap)/\∀i,i<n->∃b off,ao=some ⟨b,off,none⟩/\V.cell? ⟨b,off+i*3,none⟩=some (c0 i)/\V.cell? ⟨b,off+i*3+1,none⟩=some (c1 i)/\V.cell? ⟨b,off+i*3+2,none⟩=some (c2 i):=fun{V} hV=>by
  have kL:∀b o u,R b o->w.cell? ⟨b,o,none⟩=some u->V.cell? ⟨b,o,none⟩=some u:=λb o u hr hc=>by have hb:b<w.heap.size:=World.block_lt_of_cell? w _ hc;rw[World.cell?_of_block (w:=w) (hV b hb (λhn=>hn ⟨o,hr⟩))];exact hc
  refine⟨kL _ _ _ qR dU,λi hi=>?_⟩;obtain⟨b,off,h1,⟨g1,g2⟩,⟨g3,g4⟩,g5,g6⟩:=cJ i hi;exact⟨b,off,h1,kL _ _ _ g1 g2,kL _ _ _ g3 g4,kL _ _ _ g5 g6⟩
 have tK:KpX w.heap.size (λb=>¬ ∃o,R b o) w W:=λb hb _=>hW.block b hb;have HC:Hid (∀{V:World},KpX w.heap.size (λb=>¬ ∃o,R b o) w V->V.cell? ⟨Bb,ob,none⟩=some (.slice ao n cap)/\∀i,i<n->∃b off,ao=some ⟨b,off,none⟩/\V.cell? ⟨b,off+i*3,none⟩=some (c0 i)/\V.cell? ⟨b,off+i*3+1,none⟩=some (c1 i)/\V.cell? ⟨b,off+i*3+2,none⟩=some (c2 i)):=fun{V} h=>eP h;clear eP dU cJ qR;obtain⟨jD,_⟩:=HC.out tK;refine callsIn_of_wp Tryz.func162 rfl trivial ?_ rfl;simp only[Tryz.ntmps162,size_toArray,length_cons,length_nil,Nat.reduceAdd,Nat.reduceSub,Array.replicate_succ,Array.replicate_zero,push_toArray,append_toArray,nil_append,cons_append]
 gi_wp2
 gi_loopw [3] (λiv wr=>∃(z:Int) (k:Nat),iv=.int .i64 z/\z=(n:Int)-1-k/\k<=n/\J (List.range k) wr/\KpX w.heap.size (λb=>¬ ∃o,R b o) w wr) (λiv wr=>(intOf iv+1).toNat)
 case atStart=>exact⟨_,0,rfl,by omega,by omega,by simpa using h0,tK⟩
 case round =>
  obtain⟨z,k,rfl,hz,hk,pA,xD⟩:=hrel;clear jD h0 tK;obtain⟨kP,gP⟩:=HC.out xD;by_cases oK:k=n
  ·have iJ:z = -1:=by omega
   subst iJ
   gi_wp2
   go_end0
   refine⟨⟨_,rfl⟩,_,rfl,?_⟩;rw[oK]at pA;exact pA
  ·obtain⟨j,hj⟩:∃j:Nat,j=n-1-k:=⟨_,rfl⟩
   have hzj:z=(j:Int):=by omega
   have uM:j<n:=by omega
   subst hzj;obtain⟨b,off,rfl,gV,rE,rF⟩:=gP j uM;obtain⟨fn,tmps,assign,body,hy,hR⟩:=hY (List.range k) k _ pA ⟨by simp,by omega⟩;rw[show(n:Int)-1-k=(j:Int) by omega,show n-1-k=j from hj.symm]at hy;obtain⟨v0,hv0⟩:∃v,v=c0 j:=⟨_,rfl⟩
   obtain⟨v1,gA⟩:∃v,v=c1 j:=⟨_,rfl⟩
   obtain⟨v2,gD⟩:∃v,v=c2 j:=⟨_,rfl⟩
   rw[<-hv0]at gV hy;rw[<-gA]at rE hy;rw[<-gD]at rF hy;clear gP hv0 gA gD;have hy:Sem.run Tryz.prog (Instr.yield l #[.int .i64 (j:Int),.agg #[v0,v1,v2]]) wr=.ok (.round l fn tmps assign body) wr:=hy;have HJ:Hid (j=n-1-k/\k<n):=⟨hj,by omega⟩
   clear hj hz oK hk
   gi_wp2
   refine hR.mono ?_;rintro e V3 ⟨rfl,pZ,rD⟩
   gi_wp2
   go_roundw
   case rel=>exact⟨_,k+1,rfl,by have:=HJ.out;omega,by have:=HJ.out;omega,by rw[List.range_succ];exact pZ,λb' hb' kT=>(rD b' hb' kT).trans (xD b' hb' kT)⟩
   case measure=>simp[intOf]
theorem sq3{R:Nat->Nat->Prop}{w:World}:∀{L:List Bd} {ys:List Value},Sq ((L.map Bd.cv).map λc=>Rep R w c) ys->ys.length=3*L.length/\∀i b,L[i]?=some b->Rep R w b.cw [ys.getD (i*3) undef,ys.getD (i*3+1) undef,ys.getD (i*3+2) undef]
 | [],ys,h=>by
  have h:ys=[]:=h;subst h;exact⟨rfl,λi b h=>by simp at h⟩
 | x::L,ys,⟨us,bs,e,h1,h2⟩=>by
  obtain⟨ih1,ih2⟩:=sq3 (L:=L) h2;have kD:us.length=3:=h1.len;obtain⟨u0,u1,u2,rfl⟩:∃u0 u1 u2,us=[u0,u1,u2]:=by
   match us,kD with
   | [u0,u1,u2],_=>exact⟨u0,u1,u2,rfl⟩
  subst e;refine⟨by simp;omega,λi b hi=>?_⟩;cases i with
  | zero =>
   simp at hi;subst hi;exact h1
  | succ i =>
   have:=ih2 i b (by simpa using hi);have hg:∀k,([u0,u1,u2]++bs).getD (k+3) undef=bs.getD k undef:=λk=>by simp[List.getD_eq_getElem?_getD]
   rw[show(i+1)*3=i*3+3 by omega,show i*3+3+1=i*3+1+3 by omega,show i*3+3+2=i*3+2+3 by omega,hg,hg,hg];exact this
theorem b0b{R:Nat->Nat->Prop}{w:World}{L:List Bd}{Bb ob:Nat}{ao:Option Addr}{cap:Nat}(hl:L.length<=1000000000)(dU:w.cell? ⟨Bb,ob,none⟩=some (.slice ao L.length cap))(qR:R Bb ob)(hv:VRep R w (.lst (L.map Bd.cv)) (.slice ao L.length cap)) :
  ∃c0 c1 c2:Nat->Value,(∀i b,L[i]?=some b->VRep R w b.cw (.agg #[c0 i,c1 i,c2 i])) /\
   a3u Tryz.prog 162 #[.pointer (some ⟨Bb,ob,none⟩)] (λx:Nat => #[.int .i64 ((L.length:Int)-1-x),.agg #[c0 (L.length-1-x),c1 (L.length-1-x),c2 (L.length-1-x)]]) (λpre x _=>x=pre.length/\x<L.length) (KpX w.heap.size λb=>¬ ∃o,R b o) (λys=>ys=List.range L.length) w:=by
 obtain⟨a',n',c',e0,e1,e2,e3,e4,ys,e5,e6⟩:=l5.1 hv;injection e0 with e0 _ _;subst e0;obtain⟨s1,s2⟩:=sq3 e6;refine⟨λi=>ys.getD (i*3) undef,λi=>ys.getD (i*3+1) undef,λi=>ys.getD (i*3+2) undef,λi b hb=>⟨_,rfl,s2 i b hb⟩,?_⟩;intro l J W hW hJ hY h0;refine b8l l Bb ob L.length (λi=>ys.getD (i*3) undef) (λi=>ys.getD (i*3+1) undef) (λi=>ys.getD (i*3+2) undef) R w ao cap dU qR (λi hi=>?_) hl J hJ hY W hW h0;rcases e5 with h1 | ⟨b,off,h1,h2⟩
 ·rw[h1]at s1;simp at s1;omega
 ·have hk:∀k,k<ys.length->R b (off+k)/\w.cell? ⟨b,off+k,none⟩=some (ys.getD k undef):=λk hk=>by obtain⟨g1,g2⟩:=h2 k hk;exact⟨g1,by rw[g2,List.getD_eq_getElem?_getD,getElem?_eq_getElem hk];rfl⟩
  exact⟨b,off,h1,hk (i*3) (by omega),hk (i*3+1) (by omega),hk (i*3+2) (by omega)⟩
def a3r(b:Bd):List Bd->List Bd
 | []=>[b]
 | x::M=>if x.v=b.v then b::M else x::a3r b M
theorem b0C(b:Bd):∀M:List Bd,a3p .i64 b.v b.t.cw (M.map imR)=(a3r b M).map imR
 | []=>rfl
 | x::M=>by
  rw[map_cons,a3r];have h1:=a5P (k:=.i64) (i:=b.v) (j:=x.v) (c:=b.t.cw) (c':=x.t.cw) (l:=M.map imR);by_cases h:x.v=b.v
  ·rw[if_pos h]at h1 |-;exact h1
  ·rw[if_neg h]at h1 |-;rw[b0C b M]at h1;exact h1
theorem a6Q(b:Bd)(v:Int):∀M:List Bd,d9 (a3r b M) v=if b.v=v then some b.t else d9 M v
 | []=>rfl
 | x::M=>by
  rw[a3r];by_cases h:x.v=b.v
  ·rw[if_pos h,d9,d9];by_cases h2:b.v=v
   ·rw[if_pos h2,if_pos h2]
   ·rw[if_neg h2,if_neg h2,if_neg (by omega)]
  ·rw[if_neg h,d9,d9,a6Q b v M];by_cases h2:b.v=v
   ·rw[if_pos h2,if_pos h2,if_neg (by omega)]
   ·rw[if_neg h2,if_neg h2]
def a4y(L:List Bd)(k:Nat):List Bd:=(L.reverse.take k).foldl (λM b=>a3r b M) []
theorem b5S{L:List Bd}{k:Nat}{b:Bd}(h:L[L.length-1-k]?=some b)(hk:k<L.length):a4y L (k+1)=a3r b (a4y L k):=by
 unfold a4y;rw[take_add_one,List.getElem?_reverse hk,h,List.foldl_append];rfl
theorem b6h:∀(L:List Bd) (v:Int),d9 (a4y L L.length) v=d9 L v:=by
 intro L v;have:∀L:List Bd,d9 (L.reverse.foldl (λM b=>a3r b M) []) v=d9 L v:=by
  intro L
  induction L with
  | nil=>rfl
  | cons b L ih =>
   rw[List.reverse_cons,List.foldl_append];show d9 (a3r b _) v=_;rw[a6Q,ih,d9]
 unfold a4y;rw[<-List.length_reverse,take_length];exact this L
attribute [local go_sem] Oper.semAt_some
theorem c0a{P:Program}{w:World}{U:Nat->Nat->Prop}{t kt et:TypeId}{k:IntKind}{i:Int}{l:List CV}{g clock:Nat}{es:Array MapEntry}{val:Value}{c:CV}(hu:P.underlying t=some (.map kt et))(eZ:P.underlying kt=some (.int k))(g2:w.heap[g]?=some (.map es clock))(g3:Ents U w l es.toList)(hik:A5 k l)(e3:VRep U w c val) :
  ∃es' clock',(Instr.mapUpdate t (.map (some g)) (.int k i) val).run P w=.ok () { w with heap:=w.heap.setIfInBounds g (.map es' clock') }/\Ents U w (a3p k i c l) es'.toList:=by
 have dS:=run_checkKey (P:=P) (w:=w) eZ (k:=.int k i) rfl false 9999;have dD:=Go.MapKept.run_getObj_map (P:=P) g2;obtain⟨p1,p2'⟩:=a0k (i:=i) c hik;rcases M7 0 g3 hik (i:=i) with⟨f1,f2⟩ | ⟨j,e,c',f1,f2,f3,f4,f5,f6⟩
 ·have dE:=run_findKey (P:=P) (w:=w) eZ f1;refine⟨es.push { key:=.int k i,val:=val,born:=clock },clock+1,?_,?_⟩
  ·have oC:=run_setObj_map (P:=P) (Obj.map (es.push { key:=.int k i,val:=val,born:=clock }) (clock+1)) g2;simp[Instr.mapUpdate,run_underlying hu,dD,dS,dE,oC]
  ·rw[p1 f2,Array.toList_push];exact a2s g3 ⟨.sc (.int k i),c,rfl,rfl,rfl,e3⟩
 ·have dE:=run_findKey (P:=P) (w:=w) eZ f1;rw[Nat.zero_add]at dE;have gI:j<es.size:=by have:=(List.getElem?_eq_some_iff.1 f2).1;simpa using this
  have vT:es[j]?=some e:=by rw[<-Array.getElem?_toList];exact f2
  have qJ:(es.modify j λe=>{ e with key:=.int k i,val:=val }).toList=es.toList.set j { e with key:=.int k i,val:=val }:=by
   rw[Array.toList_modify];apply List.ext_getElem?;intro q;rw[List.getElem?_modify,List.getElem?_set];by_cases hq:j=q
   ·subst hq;have:es[j]=e:=(Array.getElem?_eq_some_iff.1 vT).2;simp[gI,this]
   ·simp[hq]
  refine⟨es.modify j λe=>{ e with key:=.int k i,val:=val },clock,?_,?_⟩
  ·have oC:=run_setObj_map (P:=P) (Obj.map (es.modify j λe=>{ e with key:=.int k i,val:=val }) clock) g2;have dJ:(Instr.keyThatStays (.int k i) (.int k i)).run P w=.ok (.int k i) w:=by simp[Instr.keyThatStays,Instr.sameBits]
   simp[Instr.mapUpdate,run_underlying hu,dD,dS,dE,oC,vT,f5,dJ]
  ·rw[qJ,p2' j c' f3 (a0S 0 (j:=j) g3 hik f1)];exact a5D g3 ⟨.sc (.int k i),c,rfl,rfl,rfl,e3⟩
theorem a3q{F:Fence}{nF:Nat}{P:Program}(w:World){ops:Array Oper}{rest:List Oper}{o:Oper}{a:Act}{Q:Exit->Act->World->Prop}
  (hg:o.guard=none) (m x v:Operand) (t:TypeId) (oY:o.op=Op.mapUpdate t m x v) {mv key val:Value} (hm:a.eval m=mv) (hx:a.eval x=key) (hv:a.eval v=val) {w':World} (kY:(Instr.mapUpdate t mv key val).run P w=.ok () w')
  (hK:wpListIn F nF P ops Q rest (a.put o.dst undef) w'):wpListIn F nF P ops Q (o::rest) a w:=by
 refine wpListIn_plain hg λK' hK'=>?_;unfold Oper.wpIn;refine⟨by simp[Oper.about,oY],?_⟩;rw[Oper.semAt_plain F _ _ (by rw[oY];intro c lZ;cases lZ)];simp[execOp,oY,hm,hx,hv,kY,Result.andThen];exact hK' _ _ hK
theorem b2t(ao:Option Addr)(n c:Nat)(w:World) :
  CallsIn Fence.wide 2 Tryz.prog 127 #[.slice ao n c] w λe w'=>e=.returned (.func (.func 162) #[] #[.pointer (some ⟨w.heap.size,0,none⟩)])/\w'=w.alloc (.cells #[.slice ao n c] 99):=by
 refine callsIn_of_wp Tryz.func127 rfl trivial ?_ rfl;simp only[Tryz.ntmps127,size_toArray,length_cons,length_nil,Nat.reduceAdd,Nat.reduceSub,Array.replicate_succ,Array.replicate_zero,push_toArray,append_toArray,nil_append,cons_append]
 gi_wp2
 go_ret
 exact⟨rfl,rfl⟩
theorem b4N{R:Nat->Nat->Prop}{w:World}{b:Bd}{u0 u1 u2:Value}(h:VRep R w b.cw (.agg #[u0,u1,u2])):u0=.int .i64 b.v/\VRep R w b.t.cw (.agg #[u1,u2]):=by
 obtain⟨xs,e,h1⟩:=F8.1 h;have eV:xs=[u0,u1,u2]:=by injection e with e;have:=congrArg Array.toList e;simpa using this.symm
 subst eV;obtain⟨us,bs,e1,k1,us',bs',e2,k3,k4⟩:=h1;have fW:us=[.int .i64 b.v]:=(L6.1 k1).1;have eG:bs'=[]:=k4;subst fW;subst eG;subst e2;simp at e1;obtain⟨e3,e4⟩:=e1;subst e4;exact⟨e3,_,rfl,k3⟩
theorem a5u{R:Nat->Nat->Prop}{w:World}{t:Tm}{u1 u2:Value}(h:VRep R w t.cw (.agg #[u1,u2])):u1=.int .i64 t.f/\∃a m c,u2=.slice a m c:=by
 obtain⟨xs,e,h1⟩:=F8.1 h;have eV:xs=[u1,u2]:=by injection e with e;have:=congrArg Array.toList e;simpa using this.symm
 subst eV;obtain⟨us,bs,e1,k1,us',bs',e2,k3,k4⟩:=h1;have fW:us=[.int .i64 t.f]:=(L6.1 k1).1;have eG:bs'=[]:=k4;subst fW;subst eG;subst e2;simp at e1;obtain⟨e3,e4⟩:=e1;subst e4;obtain⟨a,m,c,e5,_⟩:=N7.1 k3;simp at e5;exact⟨e3,a,m,c,e5⟩
theorem b0j{α:Type}{P:Program}{gf:Nat}{lb:Array Value}{encs encs':α->Array Value}{Ok:List α->α->World->Prop}{Kp:World->World->Prop}{S:List α->Prop}{w:World}(he:∀pre x V,Ok pre x V->encs x=encs' x)(h:a3u P gf lb encs Ok Kp S w):a3u P gf lb encs' Ok Kp S w:=
 λl J W hW hJ hY h0=>h l J W hW hJ (λpre x V hj kH=>by rw[he pre x V kH];exact hY pre x V hj kH) h0
theorem a9F{R:Nat->Nat->Prop}{w:World}{L:List Bd}{Bb ob n:Nat}{ao:Option Addr}{cap:Nat}(hn:n=L.length)(hl:L.length<=1000000000)(dU:w.cell? ⟨Bb,ob,none⟩=some (.slice ao n cap))(qR:R Bb ob)(hv:VRep R w (.lst (L.map Bd.cv)) (.slice ao L.length cap)) :
  ∃(v f:Nat->Int) (a:Nat->Option Addr) (m c:Nat->Nat),(∀x b,x<n->L[n-1-x]?=some b->VRep R w b.cw (.agg #[.int .i64 (v x),.int .i64 (f x),.slice (a x) (m x) (c x)])) /\
   a3u Tryz.prog 162 #[.pointer (some ⟨Bb,ob,none⟩)] (λx:Nat => #[.int .i64 ((n:Int)-1-x),.agg #[.int .i64 (v x),.int .i64 (f x),.slice (a x) (m x) (c x)]]) (λpre x _=>x=pre.length/\x<n) (KpX w.heap.size λb=>¬ ∃o,R b o) (λys=>ys=List.range n) w:=by
 subst hn;obtain⟨c0,c1,c2,hc,hG⟩:=b0b hl dU qR hv;have hx:∀x:Nat,∃(q:Int×Int×Option Addr×Nat×Nat),x<L.length->c0 (L.length-1-x)=.int .i64 q.1/\c1 (L.length-1-x)=.int .i64 q.2.1/\c2 (L.length-1-x)=.slice q.2.2.1 q.2.2.2.1 q.2.2.2.2:=λx=>by
  by_cases h:x<L.length
  ·obtain⟨bd,bR⟩:∃bd,L[L.length-1-x]?=some bd:=⟨L[L.length-1-x]'(by omega),getElem?_eq_getElem _⟩
   obtain⟨g0,g1⟩:=b4N (hc _ _ bR);obtain⟨g2,a,m,c,g3⟩:=a5u g1;exact⟨⟨bd.v,bd.t.f,a,m,c⟩,λ_=>⟨g0,g2,g3⟩⟩
  ·exact⟨⟨0,0,none,0,0⟩,λh2=>absurd h2 h⟩
 obtain⟨q,hq⟩:∃q:Nat->Int×Int×Option Addr×Nat×Nat,∀x:Nat,x<L.length->c0 (L.length-1-x)=.int .i64 (q x).1/\c1 (L.length-1-x)=.int .i64 (q x).2.1/\c2 (L.length-1-x)=.slice (q x).2.2.1 (q x).2.2.2.1 (q x).2.2.2.2:=⟨λx=>(hx x).choose,λx=>(hx x).choose_spec⟩
 clear hx;refine⟨λx=>(q x).1,λx=>(q x).2.1,λx=>(q x).2.2.1,λx=>(q x).2.2.2.1,λx=>(q x).2.2.2.2,λx b lO hb=>?_,b0j (λpre x V kH=>?_) hG⟩
 ·obtain⟨g1,g2,g3⟩:=hq x lO;have:=hc _ _ hb;rw[g1,g2,g3]at this;exact this
 ·obtain⟨g1,g2,g3⟩:=hq x kH.2;rw[g1,g2,g3]
def ImR(w:World)(R:Nat->Nat->Prop)(b o:Nat):Prop:=(R b o/\b<w.heap.size)\/b=w.heap.size+1+1
def ImI(w wl:World)(R:Nat->Nat->Prop)(L:List Bd)(k:Nat)(W:World):Prop:=
 W.heap[w.heap.size+1]?=some (.cells #[.map (some w.heap.size)] 166 (0,0))/\(∃es clock,W.heap[w.heap.size]?=some (.map es clock)/\Ents (ImR w R) W ((a4y L k).map imR) es.toList)/\Below w.heap.size w W/\w.heap.size+3<=W.heap.size/\KpX (w.heap.size+3) (λb=>¬ ∃o,ImR w R b o) wl W
theorem a6i{w:World}{R:Nat->Nat->Prop}{b o:Nat}(h:ImR w R b o):b<w.heap.size+3/\b≠w.heap.size:=by
 rcases h with h | h
 ·have:=h.2;omega
 ·omega
theorem ImI.up{w wl:World}{R:Nat->Nat->Prop}{L:List Bd}{k:Nat}{W W':World}(h:ImI w wl R L k W)(hb:∀b,b<w.heap.size+3->W'.heap[b]?=W.heap[b]?)(hB:Below w.heap.size W W'):ImI w wl R L k W':=by
 obtain⟨h1,⟨es,clock,h2,h3⟩,h4,h5,h6⟩:=h;refine⟨by rw[hb _ (by omega)];exact h1,⟨es,clock,by rw[hb _ (by omega)];exact h2,h3.keep λb o u hu hc=>⟨hu,?_⟩⟩,h4.trans hB,Nat.le_trans h5 hB.size,λb hb' hx=>(hb b hb').trans (h6 b hb' hx)⟩;rw[World.cell?_of_block (w:=W) (hb b (a6i hu).1)];exact hc
theorem ImI.put{w wl:World}{R:Nat->Nat->Prop}{L:List Bd}{k:Nat}{W:World}(h:ImI w wl R L k W){bd:Bd}(bR:L[L.length-1-k]?=some bd)(hk:k<L.length){es:Array MapEntry}{clock:Nat}(hE:Ents (ImR w R) W (a3p .i64 bd.v bd.t.cw ((a4y L k).map imR)) es.toList):ImI w wl R L (k+1) { W with heap:=W.heap.setIfInBounds w.heap.size (.map es clock) }:=by
 obtain⟨h1,⟨es0,clock0,h2,h3⟩,h4,h5,h6⟩:=h;obtain⟨q1,q2⟩:=heap_set (o':=Obj.map es clock) h2;have hE:Ents (ImR w R) W ((a4y L (k+1)).map imR) es.toList:=by rw[b5S bR hk,<-b0C];exact hE
 refine⟨by rw[q2 _ (by omega)];exact h1,⟨es,clock,q1,hE.keep λb o u hu hc=>⟨hu,?_⟩⟩,⟨h4.os,h4.tape,h4.output,by simpa using h4.size,λb hb=>(q2 b (by omega)).trans (h4.block b hb)⟩,by simpa using h5,λb hb' hx=>?_⟩
 ·rw[World.cell?_of_block (w:=W) (q2 b (a6i hu).2)];exact hc
 ·obtain⟨o,ho⟩:=Classical.not_not.1 hx;exact(q2 b (a6i ho).2).trans (h6 b hb' hx)
set_option maxRecDepth 100000 in
set_option maxHeartbeats 4000000 in
theorem b5X(L:List Bd){R:Nat->Nat->Prop}{w:World}{ao:Option Addr}{n cap:Nat}(hn:n=L.length)(hv:VRep R w (.lst (L.map Bd.cv)) (.slice ao L.length cap))(h64:64<n)(hl:n<=1000000000) :
  CallsIn Fence.wide 3 Tryz.prog 93 #[.slice ao n cap] w λe W'=>∃b g,e=.returned (.func (.func 128) #[] #[.pointer (some ⟨b,0,none⟩)])/\b0p b g ((a4y L L.length).map imR) (λb o=>R b o\/w.heap.size<=b) W'/\Below w.heap.size w W':=by
 have yE:∀w:World,Sem.run Tryz.prog (Instr.makeMap 166 (some (.int .i64 (n:Int)))) w=.ok (.map (some w.heap.size)) (w.alloc (.map #[] 0)):=λw=>by simp[Instr.makeMap,run_underlying Tryz.underlying166,asInt,asIntOf,run_newObj_alloc]
 have HL:=hid hn;have HV:=hid hv;clear hn hv;refine callsIn_of_wp_marks Tryz.func93 rfl trivial ?_ rfl;simp only[Tryz.ntmps93,size_toArray,length_cons,length_nil,Nat.reduceAdd,Nat.reduceSub,Array.replicate_succ,Array.replicate_zero,push_toArray,append_toArray,nil_append,cons_append]
 gi_wp2_with (refine⟨trivial,?_⟩;gi_at_call 127;refine(b2t _ _ _ _).mono ?_;rintro e w' ⟨rfl,rfl⟩)
 obtain⟨w1,dC⟩:∃w1,w1=w.alloc (.map #[] 0):=⟨_,rfl⟩
 obtain⟨w2,iF⟩:∃w2,w2=w1.alloc (.cells #[.map (some w.heap.size)] 166):=⟨_,rfl⟩
 obtain⟨wl,cT⟩:∃wl,wl=w2.alloc (.cells #[.slice ao n cap] 99):=⟨_,rfl⟩
 have s1:w1.heap.size=w.heap.size+1:=by rw[dC];simp
 have s2:w2.heap.size=w.heap.size+1+1:=by rw[iF];simp;omega
 have kC:wl.heap.size=w.heap.size+3:=by rw[cT];simp;omega
 have k1:Below w.heap.size w w1:=by rw[dC];exact bA (bW _) _
 have k2:Below w1.heap.size w1 w2:=by rw[iF];exact bA (bW _) _
 have k3:Below w2.heap.size w2 wl:=by rw[cT];exact bA (bW _) _
 have jD:Below w.heap.size w wl:=bN (bN k1 k2) k3;have eU:wl.cell? ⟨w.heap.size+1+1,0,none⟩=some (.slice ao n cap):=by
  have:wl.heap[w.heap.size+1+1]?=some (.cells #[.slice ao n cap] 99 (0,0)):=by rw[cT,<-s2];exact World.alloc_heap_new _ _
  simp[World.cell?,this]
 have pD:ImI w wl R L 0 wl:=by
  refine⟨?_,⟨#[],0,?_,rfl⟩,jD,by omega,λb hb hx=>rfl⟩
  ·rw[k3.block _ (by omega),iF,<-s1];exact World.alloc_heap_new _ _
  ·rw[k3.block _ (by omega),k2.block _ (by omega),dC];exact World.alloc_heap_new _ _
 have kG:VRep (ImR w R) wl (.lst (L.map Bd.cv)) (.slice ao L.length cap):=HV.out.keep λb o u hu hc=>by have kA:=World.block_lt_of_cell? w _ hc;refine⟨.inl ⟨hu,kA⟩,?_⟩;rw[World.cell?_of_block (w:=w) (jD.block b kA)];exact hc
 obtain⟨zv,zf,za,zm,zc,hc,hG⟩:=a9F (R:=ImR w R) (w:=wl) (L:=L) (Bb:=w.heap.size+1+1) (ob:=0) HL.out (by have:=HL.out;omega) eU (.inr rfl) kG;rw[<-dC,<-iF,<-cT];clear cT dC iF s1 s2 k1 k2 k3 kG eU yE;refine Z2 (gf:=162) (lb := #[.pointer (some ⟨w.heap.size+1+1,0,none⟩)]) rfl (enters_of Tryz.func162 (by kernel_rfl) rfl)
  hG (fun{A B C} h1 h2 b hb hx=>(h2 b hb hx).trans (h1 b hb hx)) (λW l o o' hl h ho b hb hx=>World.putObj_heap_other (by omega)) (λpre x W l o o' hl hx h ho=>hx) (λx=>rfl)
  (λpre W=>ImI w wl R L pre.length W) (λpre A B h hb=>h.up (λb hb'=>hb.block b (by have:=h.2.2.2.1;omega)) ⟨hb.os,hb.tape,hb.output,hb.size,λb hb'=>hb.block b (by have:=h.2.2.2.1;omega)⟩) (λpre A l o o' h hl h1 h2=>h.up (λb hb'=>World.putObj_heap_other (by omega)) (F2 o' (by omega) h1 h2).1) pD
  (λx b=>{ tmps := #[.slice ao n cap,undef,.nilFunc,.pointer (some ⟨w.heap.size+1,0,none⟩),undef,.pointer (some ⟨b,0,none⟩),.slice ao n cap,.int .i64 n,.bool (decide ((n:Int)<=64)),undef,undef,.slice ao n cap,.int .i64 n,.map (some w.heap.size),.slice ao n cap,.func (.func 162) #[] #[.pointer (some ⟨w.heap.size+1+1,0,none⟩)],.int .i64 ((n:Int)-1-x),.agg #[.int .i64 (zv x),.int .i64 (zf x),.slice (za x) (zm x) (zc x)],undef,undef,undef,undef,undef,undef],defers:=[] })
  (λx => .cells #[.int .i64 (zv x),.int .i64 (zf x),.slice (za x) (zm x) (zc x)] 112 (0,0)) (λV x hV b hb hx=>(bA (bW V) _).block b (by omega)) (λpre x V hx=>hx) ?assign ?body ?done
 case assign =>
  intro l x W K hK
  gi_wp2
  exact hK
 case body =>
  rintro l pre x W b hb cI hI ⟨hx,lO⟩;obtain⟨bd,bR⟩:∃bd,L[n-1-x]?=some bd:=⟨L[n-1-x]'(by have:=HL.out;omega),getElem?_eq_getElem _⟩
  obtain⟨g0,g1⟩:=b4N (hc _ _ lO bR);have hvW:VRep (ImR w R) W bd.t.cw (.agg #[.int .i64 (zf x),.slice (za x) (zm x) (zc x)]):=by
   refine g1.keep λb o u hu wG=>⟨hu,?_⟩
   rw[World.cell?_of_block (w:=wl) (hI.2.2.2.2 b (a6i hu).1 λhn=>hn ⟨o,hu⟩)];exact wG
  rw[g0]at cI;rw[g0];have HI:=hid hI;obtain⟨i1,⟨es,clock,i2,i3⟩,i4,i5,i6⟩:=hI;obtain⟨es',clock',kY,hE⟩:=c0a (P:=Tryz.prog) (t:=166) (k:=.i64) (i:=bd.v) Tryz.underlying166 Tryz.underlying3 i2 i3 (a5J _) hvW;have e0:W.cell? ⟨b,0,none⟩=some (.int .i64 bd.v):=by simp[World.cell?,cI]
  have e1:W.cell? ⟨b,1,none⟩=some (.int .i64 (zf x)):=by simp[World.cell?,cI]
  have e2:W.cell? ⟨b,2,none⟩=some (.slice (za x) (zm x) (zc x)):=by simp[World.cell?,cI]
  have em:W.cell? ⟨w.heap.size+1,0,none⟩=some (.map (some w.heap.size)):=by simp[World.cell?,i1]
  have HX:Hid (x=pre.length/\x<n):=⟨hx,lO⟩
  have HB:=hid bR;have HE:=hid hE;have H2:=hid i2;clear hx lO bR hE i1 i2 i3 i4 i6 hc hG pD g0 g1 hvW cI
  gi_wp2_with (gi_at_mapUpdate;refine a3q _ rfl _ _ _ 166 rfl rfl rfl rfl kY ?_)
  obtain⟨hx,lO⟩:=HX.out;obtain⟨q1,q2⟩:=heap_set (o':=Obj.map es' clock') H2.out;refine⟨⟨by simp,λg o xH pF ho=>by rw[q2 g (by omega)];exact pF⟩,λb hb hx=>?_,?_⟩
  ·obtain⟨o,ho⟩:=Classical.not_not.1 hx;exact q2 b (a6i ho).2
  ·rw[length_append];have hB2:=HB.out;rw[HL.out,hx]at hB2;exact ImI.put HI.out hB2 (by have:=HL.out;omega) HE.out
 case done =>
  rintro D xs W hD hS hI hK
  gi_wp2
  refine⟨by simp,.inl ⟨_,_,rfl,run_takeDeferred hK,?_⟩⟩;have cD:=hI.up (W':=W.putObj D (.deferred none)) (λb hb'=>World.putObj_heap_other (by omega)) (F2 _ (by omega) hK rfl).1;rw[hS,List.length_range,HL.out]at cD;obtain⟨j1,⟨es,clock,j2,j3⟩,j4,_,_⟩:=cD;refine⟨_,results_tmp rfl _ _ _,w.heap.size+1,w.heap.size,rfl,⟨by simp[World.cell?,j1],es,clock,j2,j3.keep λb o u hu hc=>⟨?_,hc⟩⟩,j4⟩;rcases hu with h | h
  ·exact .inl h.1
  ·exact .inr (by omega)
theorem b1S{P:Program}(w:World){ops:Array Oper}{o:Oper}{a:Act}{K:Act->World->Prop}{Q:Exit->Act->World->Prop}{E:Prop}(nA:Region.wanted o (yielded ops a.tmps)=true)(f:Nat)(x y:Operand)(ts:Array TypeId)
  (ho:o.op=.call { callee:=.value (.func f),args := #[x,y],argTypes:=ts }) (eg:∀args w,(callFunc f args).run P w=.ok (.enter f args) w) (v u:Value) (hx:a.eval x=v) (hy:a.eval y=u) {R:Ending->World->Prop} (hc:Calls P f #[v,u] w R) (h:∀e w',R e w'->∃u,e=.returned u/\K (a.put o.dst u) w') :
  if Region.wanted o (yielded ops a.tmps)=true then Oper.wp P o a w K Q else E:=by
 rw[if_pos nA];unfold Oper.wp;have he:(execOp a.eval o).run P w=.ok (.enter f #[v,u]) w:=by have hf:a.eval (.func f)=.func (.func f) #[] #[]:=rfl;generalize a.eval=ρ at hf hx hy |-;simp[execOp,ho,resolve,invoke,Deferred.ofValue,hf,hx,hy,eg]
 rw[he,Oper.upon_enter];refine hc.mono ?_;rintro e w' hr;obtain⟨u,rfl,hk⟩:=h e w' hr;exact hk
theorem a9X{tmps:Array Value}{w:World}{g:Nat}{x y:Value}(hp:tmps.getD 4 undef=.pointer (some ⟨g,0,none⟩))(hg:w.heap[g]?=some (.cells #[x,y] 41 (0,0))) :
  (results Tryz.f66 tmps).run Tryz.prog w=.ok (.agg #[x,y]) w:=by
 have lH:tmps[4]?.getD undef=.pointer (some ⟨g,0,none⟩):=by simpa using hp
 simp[results,lH,asAddr,run_loadVar_row w g _ 41 #[x,y] (0,0) _ hg Tryz.underlying41 rfl a1s]
set_option maxRecDepth 100000 in
set_option maxHeartbeats 4000000 in
theorem b2Q(W:World)(L:List Bd)(t:Tm)(hl:64<L.length)(kM:L.length<=1000000000)(hb:bdsOk L)(hr:t.rng)(kH:t.ok):AFun Tryz.prog W 66 [.lst (L.map Bd.cv),t.cw] (.val (a8 (f0 L) t).cw):=by
 refine⟨x0 Tryz.func66 rfl rfl,.inl rfl,rfl,λU w vs _ hv=>?_⟩;obtain⟨sv,vs1,rfl,gA,tv,vs2,rfl,gD,mU⟩:=hv;have mU:vs2=[]:=mU;subst mU;obtain⟨ao,n,cap,e1,e2,_⟩:=l5.1 gA;subst e1;rw[length_map]at e2;obtain⟨xs,e3,aV⟩:=F8.1 gD;obtain⟨u1,u2,rfl⟩:∃u1 u2,xs=[u1,u2]:=by
  have h3:xs.length=2:=(J0.2 aV).len
  match xs,h3 with
  | [u1,u2],_=>exact⟨u1,u2,rfl⟩
 subst e3;obtain⟨g1,ta,tm,tc,g2⟩:=a5u gD;subst g1;subst g2;have xP:VRep U w (.lst (L.map Bd.cv)) (.slice ao L.length cap):=by rw[<-e2];exact gA
 have HImg:Hid (∀V:World,Below w.heap.size w V->w.heap.size+2<=V.heap.size->Calls Tryz.prog 93 #[.slice ao n cap] V λe W'=>∃b g,e=.returned (.func (.func 128) #[] #[.pointer (some ⟨b,0,none⟩)])/\b0p b g ((a4y L L.length).map imR) (λb o=>(U b o/\b<w.heap.size)\/w.heap.size+2<=b) W'/\Below V.heap.size V W'):=λV hV aW =>
  Calls.mono (callsIn_wide.1 (b5X (R:=λb o=>U b o/\b<w.heap.size) L e2 (xP.keep λb o u hu hc=>⟨⟨hu,World.block_lt_of_cell? w _ hc⟩,by
   rw[World.cell?_of_block (w:=w) (hV.block b (World.block_lt_of_cell? w _ hc))];exact hc⟩) (by omega) (by omega))) λe W' ⟨b,g,k1,⟨k2,es,ck,k3,k4⟩,k5⟩=>⟨b,g,k1,⟨k2,es,ck,k3,k4.keep λb o u hu hc=>⟨hu.imp id λh=>by omega,hc⟩⟩,k5⟩
 have HRep:Hid (∀(V:World) (b g:Nat),Below w.heap.size w V->w.heap.size+2<=V.heap.size->b0p b g ((a4y L L.length).map imR) (λb o=>(U b o/\b<w.heap.size)\/w.heap.size+2<=b) V->Calls Tryz.prog 71 #[.agg #[.int .i64 t.f,.slice ta tm tc],.func (.func 128) #[] #[.pointer (some ⟨b,0,none⟩)]] V λe W'=>∃a m c,e=.returned (.agg #[.int .i64 (a8 (f0 L) t).f,.slice a m c])/\VRep (λb o=>(U b o/\b<w.heap.size)\/w.heap.size+2<=b) W' (a8 (f0 L) t).cw (.agg #[.int .i64 (a8 (f0 L) t).f,.slice a m c])/\Below V.heap.size V W'):=λV b g hV aW hq=>by
  have hI:∀v,0<=v->v<=9223372036854775807->a9v Tryz.prog (b0p b g ((a4y L L.length).map imR)) (.fn 128 0 [.sc (.pointer (some ⟨b,0,none⟩))]) [.i v] (.val (f0 L v).cw)/\(f0 L v).rng/\(f0 L v).size<=90000000000:=λv h1 h2=>by refine⟨⟨_,_,_,rfl,?_⟩,a4K hb h1 h2⟩;have h3:=b7G b g (a4y L L.length) v h1 h2;rw[show f0 (a4y L L.length) v=f0 L v by unfold f0;rw[b6h]]at h3;exact h3
  have h4:=(a8e (a4b b g _) _ (f0 L) hI t hr kH).2.2.2 (λb o=>(U b o/\b<w.heap.size)\/w.heap.size+2<=b) V [.agg #[.int .i64 t.f,.slice ta tm tc],.func (.func 128) #[] #[.pointer (some ⟨b,0,none⟩)]] hq ⟨_,_,rfl,gD.keep λb o u hu hc=>⟨.inl ⟨hu,World.block_lt_of_cell? w _ hc⟩,by
   rw[World.cell?_of_block (w:=w) (hV.block b (World.block_lt_of_cell? w _ hc))];exact hc⟩,_,_,rfl,X0.2 ⟨[],[.pointer (some ⟨b,0,none⟩)],rfl,rfl,⟨[_],[],rfl,L6.2 ⟨rfl,rfl⟩,rfl⟩,λc hc=>by simp at hc;subst hc;simp[CV.sc]⟩,rfl⟩
  refine Calls.mono h4 ?_;rintro e W' ⟨v,rfl,hR,hB⟩;have hR:VRep (λb o=>((U b o/\b<w.heap.size)\/w.heap.size+2<=b)\/V.heap.size<=b) W' (a8 (f0 L) t).cw v:=hR;have hR:=hR.keep (V:=λb o=>(U b o/\b<w.heap.size)\/w.heap.size+2<=b) (w':=W') λb o u hu hc=>⟨hu.elim id λh => .inr (by omega),hc⟩
  obtain⟨xs,e3,aV⟩:=F8.1 hR;obtain⟨u1,u2,rfl⟩:∃u1 u2,xs=[u1,u2]:=by
   have h3:xs.length=2:=(J0.2 aV).len
   match xs,h3 with
   | [u1,u2],_=>exact⟨u1,u2,rfl⟩
  subst e3;obtain⟨g1,a,m,c,g2⟩:=a5u hR;subst g1;subst g2;exact⟨a,m,c,rfl,hR,hB⟩
 clear gA xP gD aV hb hr kH hl kM e2;show Calls Tryz.prog 66 #[.slice ao n cap,.agg #[.int .i64 t.f,.slice ta tm tc]] w _;refine calls_of_wp Tryz.func66 rfl ?_;simp only[Tryz.ntmps66,size_toArray,length_cons,length_nil,Nat.reduceAdd,Nat.reduceSub,Array.replicate_succ,Array.replicate_zero,push_toArray,append_toArray,nil_append,cons_append]
 go_wp2_with fail
 obtain⟨w2,iF⟩:∃w2,w2=(w.alloc (.cells #[.int .i64 t.f,.slice ta tm tc] 41)).alloc (.cells #[.int .i64 0,.slice none 0 0] 41):=⟨_,rfl⟩
 have kC:w2.heap.size=w.heap.size+2:=by rw[iF];simp
 have gL:Below w.heap.size w w2:=by rw[iF];exact bA (bA (bW _) _) _
 have y1:w2.heap[w.heap.size]?=some (.cells #[.int .i64 t.f,.slice ta tm tc] 41 (0,0)):=by rw[iF,Below.heap_alloc _ _ _ (by simp)];exact World.alloc_heap_new _ _
 have y2:w2.heap[w.heap.size+1]?=some (.cells #[.int .i64 0,.slice none 0 0] 41 (0,0)):=by rw[iF,show w.heap.size+1=(w.alloc (.cells #[.int .i64 t.f,.slice ta tm tc] 41)).heap.size by simp];exact World.alloc_heap_new _ _
 have hs3:w2.drew.heap.size=w.heap.size+2:=kC;have dY:Below w.heap.size w w2.drew:=gL.drew;have HB3:=hid dY;have HY1:=hid (show w2.drew.heap[w.heap.size]?=_ from y1);have HY2:=hid (show w2.drew.heap[w.heap.size+1]?=_ from y2);obtain⟨d1,d2⟩:=b6E (show w2.drew.heap[w.heap.size]?=_ from y1);rw[<-iF];clear iF gL dY y1 y2
 go_region_law (first
  | (refine b5N _ rfl 93 _ _ rfl (enters_of Tryz.func93 (by kernel_rfl) rfl) (.slice ao n cap) rfl (HImg.out _ HB3.out (by omega)) ?_;rintro e w5 ⟨b,g,rfl,hq5,tJ⟩;refine⟨_,rfl,?_⟩;have hB5:Below w.heap.size w w5:=HB3.out.trans (tJ.mono (by omega));have hs5:=tJ.size;have x2:=(tJ.block _ (by omega)).trans HY2.out;obtain⟨f1,f2⟩:=b6E ((tJ.block _ (by omega)).trans HY1.out))
  | (refine b1S _ rfl 71 _ _ _ rfl (enters_of Tryz.func71 (by kernel_rfl) rfl) (.agg #[.int .i64 t.f,.slice ta tm tc]) (.func (.func 128) #[] #[.pointer (some ⟨b,0,none⟩)]) rfl rfl (HRep.out _ b g hB5 (by omega) hq5) ?_;rintro e w6 ⟨a6,m6,c6,rfl,hR6,hb6⟩;refine⟨_,rfl,?_⟩;have hB6:Below w.heap.size w w6:=hB5.trans (hb6.mono (by omega));have z6:=(hb6.block _ (by omega)).trans x2;obtain⟨f3,f4⟩:=b6E z6;obtain⟨f5,f6⟩:=a4O z6))
 all_goals go_wp2_with fail
 all_goals refine bodyPost_ret (a9X (g:=w.heap.size+1) rfl (a7y z6 _ _)) rfl ?_
 all_goals refine⟨_,rfl,?_,(hB6.setCell (p:=⟨w.heap.size+1,0,none⟩) (by show w.heap.size<=w.heap.size+1;omega) _).setCell (p:=⟨w.heap.size+1,1,none⟩) (by show w.heap.size<=w.heap.size+1;omega) _⟩
 all_goals refine VRep.keep (λb' o u hu hc=>⟨hu.elim (λh => .inl h.1) (λh => .inr (by omega)),?_⟩) hR6
 all_goals have kF:b'≠w.heap.size+1:=by rcases hu with h | h<;>omega
 all_goals rw[World.cell?_of_block (w:=w6) (by rw[Below.heap_setCell _ _ _ _ kF,Below.heap_setCell _ _ _ _ kF])]
 all_goals exact hc
theorem a0Z(W:World)(L:List Bd)(t:Tm)(hl:L.length<=1000000000)(hb:bdsOk L)(hr:t.rng)(kH:t.ok):AFun Tryz.prog W 66 [.lst (L.map Bd.cv),t.cw] (.val (a8 (f0 L) t).cw):=by
 by_cases h:L.length<=64
 ·exact b5n W L t h hb hr kH
 ·exact b2Q W L t (by omega) hl hb hr kH
end
def E2(c:List Lt):List Tm:=c.flatMap λl=>[l.a,l.b]
theorem b5K(c:List Lt)(l:Lt):E2 (c++[l])=E2 c++[l.a,l.b]:=by simp[E2]
theorem a5q(c:List Lt):(E2 c).length=2*c.length:=by
 induction c with
 | nil=>rfl
 | cons l c ih =>
  have:E2 (l::c)=l.a::l.b::E2 c:=rfl;rw[this];simp only[length_cons,ih];omega
theorem b5R(c:List Lt)(k:Nat):(E2 (c.take k)).length<=2*c.length:=by
 rw[a5q,length_take];omega
theorem W7(W:World)(c:List Lt)(hn:c.length<=1000000):AFun Tryz.prog W 47 [.lst (c.map Lt.cv)] (.val (Tm.cw ⟨0,E2 c⟩)):=by
 have kC:=Lt.size_all c;refine b9 (rs:=[Tm.cw ⟨0,E2 c⟩]) Tryz.func47 Tryz.ntmps47 rfl rfl rfl rfl ?_;intro w U hW;refine qz<|nc zw ?_;refine qz<|nc ze ?_;refine aS<|qz<|nc zl<|nc zo<|nc zl ?_;refine aB (n6 c.length (λk=>[(2,.bp 2 0 []),(100002,⟨5,.row [.i 0,.lst []],1,0,[1]⟩),(3,.own (.lst ((E2 (c.take k)).map Tm.cv)) 200018),(200018,.tok 41 2),(6,.val (.lst (c.map Lt.cv))),(7,.val (.i (c.map Lt.cv).length)),(8,.val (.i k))])
  ((M9 3 200018 41 2 rfl rfl rfl rfl rfl rfl rfl).trans (a7 ⟨rfl,rfl,rfl,rfl,rfl,rfl,rfl,trivial⟩)) ?_)
 intro k hk;refine qz<|nc zi ?_;refine aS<|aC rfl (λkA=>?_) (λkA=>?_)
 ·have kE:k<c.length:=by simpa using kA
  obtain⟨x,hx⟩:∃x,c[k]?=some x:=⟨c[k],getElem?_eq_getElem kE⟩
  have kT:=Lt.map_at hx;have kD:=b5R c k;have jP:∀y∈(E2 (c.take k)).map Tm.cv,y.size=2:=Tm.size_all _;have iD:((E2 (c.take k)).map Tm.cv).length<=2*c.length:=by rw[length_map];exact kD
  refine aK<|aS<|aB<|qz<|nc (zt (j:=k) (H:=kT) (hz:=kC))<|nc zu<|nc zw<|nc zx ?_;refine aR<|nc zl<|nc zg<|nc zh<|nc zg<|nc zh<|nc zy<|nc zz<|nc ze ?_;refine aR<|nc zA<|nc zl ?_;refine⟨kE,Wk.trans (a7 (s':=[(2,.bp 2 0 []),(100002,⟨5,.row [.i 0,.lst []],1,0,[1]⟩),(3,.own (.lst ((E2 (c.take (k+1))).map Tm.cv)) 300018),(300018,.tok 41 2),(6,.val (.lst (c.map Lt.cv))),(7,.val (.i (c.map Lt.cv).length)),(8,.val (.i ((k+1:Nat):Int)))]) ⟨rfl,rfl,?_,rfl,rfl,rfl,rfl,trivial⟩) (B1 300018 200018 rfl rfl rfl rfl)⟩;rw[take_add_one,hx];simp only[Option.toList_some,b5K,map_append,map_cons,map_nil,Tm.cv_eq];rfl
 ·have kE:k=c.length:=by
   have:¬ k<c.length:=by simpa using kA
   omega
  subst kE;rw[take_length];refine aE<|qz<|nc zl<|nc zC<|nc zx ?_;exact aT (And.intro (.inr rfl) rfl)
theorem b3I:∀{c:List Lt} {k:Nat} {l:Lt},c[k]?=some l->(E2 c)[2*k]?=some l.a/\(E2 c)[2*k+1]?=some l.b
 | [],k,l,h=>by simp at h
 | x::c,0,l,h=>by
  simp at h;subst h;exact⟨rfl,rfl⟩
 | x::c,k+1,l,h=>by
  have:=b3I (c:=c) (k:=k) (l:=l) (by simpa using h);have e:E2 (x::c)=x.a::x.b::E2 c:=rfl;rw[e,show 2*(k+1)=2*k+1+1 by omega];simpa using this
theorem a7d(W:World)(c d:List Lt)(f:Int)(hn:c.length<=1000000)(hcd:d.map Lt.neg=c.map Lt.neg):AFun Tryz.prog W 45 [.lst (c.map Lt.cv),Tm.cw ⟨f,E2 d⟩] (.val (.lst (d.map Lt.cv))):=by
 have kC:=Lt.size_all c;have xQ:=Tm.size_all (E2 d);have kD:d.length=c.length:=by have:=congrArg List.length hcd;simpa using this
 refine b9 (rs:=[.lst (d.map Lt.cv)]) Tryz.func45 Tryz.ntmps45 rfl rfl rfl rfl ?_;intro w U hW;refine qz<|nc zd<|nc ze ?_;refine qz<|nc ze ?_;refine aS<|qz<|nc zl<|nc zo<|nc zl ?_;refine aB (n6 c.length (λk=>[(3,.bp 3 0 []),(100003,.bx (Tm.cw ⟨f,E2 d⟩)),(5,.own (.lst ((d.take k).map Lt.cv)) 200033),(200033,.tok 43 5),(8,.val (.lst (c.map Lt.cv))),(9,.val (.i (c.map Lt.cv).length)),(10,.val (.i k))])
  ((M9 5 200033 43 5 rfl rfl rfl rfl rfl rfl rfl).trans (a7 ⟨rfl,rfl,rfl,rfl,rfl,rfl,rfl,trivial⟩)) ?_)
 intro k hk;refine qz<|nc zi ?_;refine aS<|aC rfl (λkA=>?_) (λkA=>?_)
 ·have kE:k<c.length:=by simpa using kA
  obtain⟨x,hx⟩:∃x,c[k]?=some x:=⟨c[k],getElem?_eq_getElem kE⟩
  obtain⟨y,hy⟩:∃y,d[k]?=some y:=⟨d[k],getElem?_eq_getElem (by omega)⟩
  have xR:x.neg=y.neg:=by have:=congrArg (λl=>l[k]?) hcd;simp only[List.getElem?_map,hx,hy,Option.map_some]at this;injection this with this;exact this.symm
  obtain⟨n1,a1,b1⟩:=x;simp only at xR;subst xR;have kT:=Lt.map_at hx;obtain⟨ha,hb⟩:=b3I hy;have tA:=Tm.map_at ha;have hb':=Tm.map_at hb;have jP:∀z∈(d.take k).map Lt.cv,z.size=5:=Lt.size_all _;have iD:((d.take k).map Lt.cv).length<=1000000:=by rw[length_map,length_take];omega
  refine aK<|aS<|aB<|qz<|nc zl<|nc (zt (j:=k) (H:=kT) (hz:=kC))<|nc zu<|nc zw<|nc ze<|nc zx ?_;refine aD (by kernel_rfl) (by kernel_rfl) ?_;refine nc zl<|nc zg<|nc zh<|nc zg<|nc zh<|nc zl<|nc zbG<|nc (zt (j:=(2*k)) (H:=tA) (hz:=xQ))<|nc zu<|nc zg<|nc zh<|nc zl<|nc zbG<|nc zA<|nc (zt (j:=(2*k+1)) (H:=hb') (hz:=xQ))<|nc zu<|nc zC<|nc zy<|nc zz<|nc ze ?_;refine⟨by kernel_rfl,?_⟩;refine aR<|nc zA<|nc zl ?_;refine⟨kE,Wk.trans (a7 (s':=[(3,.bp 3 0 []),(100003,.bx (Tm.cw ⟨f,E2 d⟩)),(5,.own (.lst ((d.take (k+1)).map Lt.cv)) 300033),(300033,.tok 43 5),(8,.val (.lst (c.map Lt.cv))),(9,.val (.i (c.map Lt.cv).length)),(10,.val (.i ((k+1:Nat):Int)))]) ⟨rfl,rfl,?_,rfl,rfl,rfl,rfl,trivial⟩) (B1 300033 200033 rfl rfl rfl rfl)⟩;rw[take_add_one,hy];simp only[Option.toList_some,map_append,map_cons,map_nil];rfl
 ·have kE:k=d.length:=by
   have:¬ k<c.length:=by simpa using kA
   omega
  subst kE;rw[take_length];refine aE<|qz<|nc zl<|nc ze ?_;exact aT (And.intro (.inr rfl) rfl)
def Lt.rep(img:Int->Tm)(l:Lt):Lt:=⟨l.neg,a8 img l.a,a8 img l.b⟩
theorem b0s(img:Int->Tm):∀c:List Lt,(E2 c).map (a8 img)=E2 (c.map (Lt.rep img))
 | []=>rfl
 | l::c=>by
  show a8 img l.a::a8 img l.b::(E2 c).map (a8 img)=_;rw[b0s img c];rfl
theorem a2I(img:Int->Tm)(c:List Lt):a8 img ⟨0,E2 c⟩=⟨0,E2 (c.map (Lt.rep img))⟩:=by
 rw[c9 (show ¬ (0:Int)<0 by decide),b0s]
theorem a2m(img:Int->Tm)(c:List Lt):(c.map (Lt.rep img)).map Lt.neg=c.map Lt.neg:=by
 rw[List.map_map];rfl
theorem a4x(W:World)(L:List Bd)(c:List Lt)(hn:c.length<=1000000)(hl:L.length<=1000000000)(hb:bdsOk L)(hr:(⟨0,E2 c⟩:Tm).rng)(kH:(⟨0,E2 c⟩:Tm).ok):AFun Tryz.prog W 67 [.lst (L.map Bd.cv),.lst (c.map Lt.cv)] (.val (.lst ((c.map (Lt.rep (f0 L))).map Lt.cv))):=by
 have h2:=λw=>a0Z w L ⟨0,E2 c⟩ hl hb hr kH;rw[a2I]at h2;refine b9 (rs:=[.lst ((c.map (Lt.rep (f0 L))).map Lt.cv)]) Tryz.func67 Tryz.ntmps67 rfl rfl rfl rfl ?_;intro w U hW;refine qz<|nc ze ?_;refine qz<|nc zl<|nc zl<|nc zl<|nc (zk (z:=W7 w c hn))<|nc (zk (z:=h2 w))<|nc (zk (z:=a7d w c _ 0 hn (a2m _ c)))<|nc ze ?_;exact aT (And.intro (.inr rfl) rfl)
theorem a3j(W:World)(c:List Lt)(by_:Int)(hn:c.length<=1000000)(hr:(⟨0,E2 c⟩:Tm).rng)(kH:(⟨0,E2 c⟩:Tm).ok):AFun Tryz.prog W 18 [.lst (c.map Lt.cv),.i by_] (.val (.lst ((c.map (Lt.rep λv=>n7 (upV (max by_ 0) v))).map Lt.cv))):=by
 have h2:=λw=>b2p w ⟨0,E2 c⟩ by_ hr kH;rw[a2I]at h2;refine b9 (rs:=[.lst ((c.map (Lt.rep λv=>n7 (upV (max by_ 0) v))).map Lt.cv)]) Tryz.func18 Tryz.ntmps18 rfl rfl rfl rfl ?_;intro w U hW;refine qz<|nc ze ?_;refine qz<|nc zl<|nc zl<|nc (zk (z:=W7 w c hn))<|nc zl<|nc (zk (z:=h2 w))<|nc (zk (z:=a7d w c _ 0 hn (a2m _ c)))<|nc ze ?_;exact aT (And.intro (.inr rfl) rfl)
section
section
variable{α β:Type}
end
def sgZ(b:Bool):Int:=if b then 1 else 0
def a3x(x y:Lt):Int:=if G2 (sgZ x.neg) (sgZ y.neg)≠0 then G2 (sgZ x.neg) (sgZ y.neg)else b0X x y
theorem b5W(x y:Lt):b0X x y=0↔x.a.strip=y.a.strip/\x.b.strip=y.b.strip:=by
 unfold b0X;by_cases h:S1 x.a y.a=0
 ·rw[if_neg (by simpa using h),a0v];exact⟨λe=>⟨(a0v _ _).1 h,e⟩,λe=>e.2⟩
 ·rw[if_pos h];exact⟨λe=>absurd e h,λe=>absurd ((a0v _ _).2 e.1) h⟩
theorem a8C(a b:Bool):G2 (sgZ a) (sgZ b)=0↔a=b:=by cases a<;>cases b<;>decide
theorem b1U(x y:Lt):a3x x y=0↔x.strip=y.strip:=by
 obtain⟨n,a,b⟩:=x;obtain⟨m,c,d⟩:=y;unfold a3x Lt.strip;by_cases h:n=m
 ·subst h;rw[if_neg (by simp[a8C]),b5W];simp
 ·rw[if_pos (by simp only[ne_eq,a8C];exact h)];simp only[a8C,Lt.mk.injEq];exact⟨λe=>absurd e h,λe=>e.1⟩
open Classical in
def smL(x y:Lt):Bool:=decide (a3x x y=0)
section
variable{P:Program}{w0:World}{U0:UX}{nt:Nat}{ops:Array Oper}{o:Oper}{S:Nat->Option AV}{gs:List Nat}{d:Nat}
variable(hg:Gd w0 U0 nt ops o gs S)(hd:o.dst=some d)(hn:Nat.blt d nt=true)(h5:Nat.blt d 100000=true)
include hg hd hn h5
end
end
abbrev by8(z:Int):CV:=.sc (.int .u8 z)
theorem a6G(W:World)(l:Lt):AFun Tryz.prog W 101 [l.cw] (.val (by8 (if l.neg then 1 else 0))):=by
 refine b9 (rs:=[by8 (if l.neg then 1 else 0)]) Tryz.func101 Tryz.ntmps101 rfl rfl rfl rfl ?_;intro w U hW;refine qz<|nc zd<|nc ze ?_;refine aS<|qz<|nc zg<|nc zh ?_;refine aC rfl (λhc=>?_) (λhc=>?_)
 ·refine qz<|nc ze ?_;rw[if_pos hc];exact aT (And.intro (.inr rfl) rfl)
 ·refine aK<|qz<|nc ze ?_;rw[if_neg (by rw[hc];simp)];exact aT (And.intro (.inr rfl) rfl)
def b4U(size:Int)(l:Lt):Bool:=decide (0<=q8 l.a size 8)&&decide (0<=q8 l.b size 8)
def Y3(c:List Lt)(most:Nat)(size:Int):Bool:=decide (c.length<=most)&&c.all (b4U size)
set_option maxHeartbeats 1000000 in
theorem a4T(W:World)(c:List Lt)(most:Nat)(size:Int)(hm:most<=1000)(h0:0<=size)(h1:size<=60)(hr:okC c):AFun Tryz.prog W 8 [.lst (c.map Lt.cv),.i (most:Int),.i size] (.val (.b (Y3 c most size))):=by
 have kC:=Lt.size_all c;refine b9 (rs:=[.b (Y3 c most size)]) Tryz.func8 Tryz.ntmps8 rfl rfl rfl rfl ?_;intro w U hW;refine qz<|nc ze ?_;refine aS<|qz<|nc zl<|nc zo<|nc zl<|nc zN ?_;refine aC rfl (λhc=>?_) (λhc=>?_)
 ·have kZ:Y3 c most size=false:=by have:=of_decide_eq_true hc;rw[length_map]at this;unfold Y3;rw[show decide (c.length<=most)=false by rw[decide_eq_false_iff_not];omega];rfl
  rw[kZ];refine qz<|nc ze ?_;exact aT (And.intro (.inr rfl) rfl)
 have hl:c.length<=most:=by have:=of_decide_eq_false hc;rw[length_map]at this;omega
 refine aK<|aS<|qz<|nc ze ?_;refine aB (B6 c.length (λk=>∀l∈c.take k,b4U size l=true) (λk=>[(0,.val (.lst (c.map Lt.cv))),(2,.val (.i size)),(7,.val (.i k))]) (a7 ⟨rfl,rfl,rfl,trivial⟩) (by simp) ?_);intro k hk hI;refine aS<|qz<|nc zl<|nc zl<|nc zo<|nc zi ?_;refine aC rfl (λkA=>?_) (λkA=>?_)
 ·have kE:k<c.length:=by simpa using kA
  obtain⟨x,hx⟩:∃x,c[k]?=some x:=⟨c[k],getElem?_eq_getElem kE⟩
  have kT:=Lt.map_at hx;have cQ:=mem_of_getElem? hx;have sa:=a6J w x.a size 8 (hr x cQ).1 h0 h1 (by decide) (by decide);have sb:=a6J w x.b size 8 (hr x cQ).2 h0 h1 (by decide) (by decide);have kZ:b4U size x=false->Y3 c most size=false:=λh=>by unfold Y3;rw[show c.all (b4U size)=false from List.all_eq_false.2 ⟨x,cQ,by rw[h];simp⟩,Bool.and_false]
  refine aK ?_;by_cases ha:q8 x.a size 8<0
  ·have ga:decide (q8 x.a size 8<0)=true:=by simpa using ha
   rw[kZ (by unfold b4U;rw[show decide (0<=q8 x.a size 8)=false by rw[decide_eq_false_iff_not];omega];rfl)];refine aS<|aB<|qz<|nc zl<|nc zl<|nc (zt (j:=k) (H:=kT) (hz:=kC))<|nc zbH<|nc zu<|nc zl<|nc (zk (z:=sa))<|nc zi<|nc zl<|nc zq<|nc zq<|nc zq<|nc zq<|nc zq<|nc zq<|nc zq<|nc zq<|nc zp ?_;refine aC rfl (λgV=>?_) (λgV=>by cases gV);refine qz<|nc ze ?_;exact aT (And.intro (.inr rfl) rfl)
  ·have ga:decide (q8 x.a size 8<0)=false:=by simpa using ha
   refine aS<|aB<|qz<|nc zl<|nc zl<|nc (zt (j:=k) (H:=kT) (hz:=kC))<|nc zbH<|nc zu<|nc zl<|nc (zk (z:=sa))<|nc zi<|nc zl<|nc (zl (p:=gb))<|nc (zl (p:=gb))<|nc (zt (j:=k) (r:=gb) (H:=kT) (hz:=kC))<|nc (zbH (r:=gb))<|nc (zu (r:=gb))<|nc (zl (p:=gb))<|nc (zk (p:=gb) (z:=sb))<|nc (zi (r:=gb))<|nc zr ?_;refine aC rfl (λgV=>?_) (λgV=>?_)
   ·have hb:=of_decide_eq_true gV;rw[kZ (by unfold b4U;rw[show decide (0<=q8 x.b size 8)=false by rw[decide_eq_false_iff_not];omega];simp)];refine qz<|nc ze ?_;exact aT (And.intro (.inr rfl) rfl)
   ·have hb:=of_decide_eq_false gV;refine aK<|aR<|nc zl<|nc zA<|nc ze ?_;refine⟨kE,?_,a7 ⟨rfl,rfl,rfl,trivial⟩⟩;intro y hy;rw[take_add_one,hx,mem_append]at hy;rcases hy with hy | hy
    ·exact hI y hy
    ·simp at hy;rw[hy];unfold b4U;rw[show decide (0<=q8 x.a size 8)=true by rw[decide_eq_true_eq];omega,show decide (0<=q8 x.b size 8)=true by rw[decide_eq_true_eq];omega];rfl
 ·have kE:k=c.length:=by
   have:¬ k<c.length:=by simpa using kA
   omega
  subst kE;rw[take_length]at hI;have qW:Y3 c most size=true:=by unfold Y3;rw[show decide (c.length<=most)=true by simpa using hl,Bool.true_and];exact List.all_eq_true.2 hI
  rw[qW];refine aE<|qz<|nc ze ?_;exact aT (And.intro (.inr rfl) rfl)
theorem K8{c:List Lt}{most:Nat}{size:Int}(h0:0<=size)(h1:size<=60)(h:Y3 c most size=true):c.length<=most/\∀l∈c,((l.a.sm/\l.a.rng/\l.a.ok)/\(l.a.wt:Int)<=size/\(l.a.size:Int)<=size)/\((l.b.sm/\l.b.rng/\l.b.ok)/\(l.b.wt:Int)<=size/\(l.b.size:Int)<=size):=by
 unfold Y3 at h;rw[Bool.and_eq_true,decide_eq_true_eq]at h;refine⟨h.1,λl hl=>?_⟩;have hf:=List.all_eq_true.1 h.2 l hl;unfold b4U at hf;rw[Bool.and_eq_true,decide_eq_true_eq,decide_eq_true_eq]at hf;have key:∀t:Tm,0<=q8 t size 8->(t.sm/\t.rng/\t.ok)/\(t.wt:Int)<=size/\(t.size:Int)<=size:=λt ht=>by
  have lI:=b7P t _ _ ht;have hwt:(t.wt:Int)<=size:=by have:=(a1v t size 8 h0).2.2 ht;omega
  have:=t.size_wt;exact⟨⟨lI,Tm.sm_rng lI,Tm.wt_ok (t:=t) (by omega)⟩,hwt,by omega⟩
 exact⟨key _ hf.1,key _ hf.2⟩
set_option maxHeartbeats 1000000 in
theorem b5g(W:World)(c:List Lt)(hl:c.length<=1000000)(hc:∀l∈c,l.a.ok/\l.b.ok):AFun Tryz.prog W 9 [.lst (c.map Lt.cv)] (.val (.lst ((c.map id).map Lt.cv))):=by
 have kC:=Lt.size_all c;refine b9 (rs:=[.lst ((c.map id).map Lt.cv)]) Tryz.func9 Tryz.ntmps9 rfl rfl rfl rfl ?_;intro w U hW;refine qz<|nc ze ?_;refine qz<|nc ze ?_;refine aS<|qz<|nc ze ?_;refine aB (n6 c.length (λk=>[(0,.val (.lst (c.map Lt.cv))),(3,.own (.lst (((c.take k).map id).map Lt.cv)) 200031),(200031,.tok 43 5),(4,.val (.i k))]) ((M9 3 200031 43 5 rfl rfl rfl rfl rfl rfl rfl).trans (a7 ⟨rfl,rfl,rfl,rfl,trivial⟩)) ?_);intro k hk;have jQ:=Lt.size_all ((c.take k).map id);refine aS<|qz<|nc zl<|nc zl<|nc zo<|nc zi ?_;refine aC rfl (λkA=>?_) (λkA=>?_)
 ·have kE:k<c.length:=by simpa using kA
  obtain⟨x,hx⟩:∃x,c[k]?=some x:=⟨c[k],getElem?_eq_getElem kE⟩
  have kT:=Lt.map_at hx;have cQ:=mem_of_getElem? hx;have oK:(((c.take k).map id).map Lt.cv).length<=1000000:=by rw[length_map,length_map,length_take];omega
  refine aK<|aS<|aB<|aD (by kernel_rfl) (by kernel_rfl) ?_;refine nc zl<|nc zl<|nc zl<|nc (zt (j:=k) (H:=kT) (hz:=kC))<|nc zbH<|nc zu<|nc zl<|nc zl<|nc (zt (j:=k) (H:=kT) (hz:=kC))<|nc zbH<|nc zu<|nc (zk (z:=b8O w x.a (hc x cQ).1))<|nc zl<|nc zl<|nc (zt (j:=k) (H:=kT) (hz:=kC))<|nc zbH<|nc zu<|nc (zk (z:=b8O w x.b (hc x cQ).2))<|nc zC<|nc zy<|nc zz<|nc ze ?_;refine⟨by kernel_rfl,?_⟩;refine aR<|nc zl<|nc zA<|nc ze ?_;refine⟨kE,Wk.trans (a7 (s':=[(0,.val (.lst (c.map Lt.cv))),(3,.own (.lst (((c.take (k+1)).map id).map Lt.cv)) 300031),(300031,.tok 43 5),(4,.val (.i ((k+1:Nat):Int)))]) ⟨rfl,?_,rfl,rfl,trivial⟩) (B1 300031 200031 rfl rfl rfl rfl)⟩;rw[take_add_one,hx,map_append,map_append];rfl
 ·have kE:k=c.length:=by
   have:¬ k<c.length:=by simpa using kA
   omega
  subst kE;rw[take_length];refine aE<|qz<|nc zl<|nc ze ?_;exact aT (And.intro (.inr rfl) rfl)
theorem b1j(W:World)(c:List Lt)(hl:c.length<=1000000)(hc:∀l∈c,l.a.ok/\l.b.ok):AFun Tryz.prog W 9 [.lst (c.map Lt.cv)] (.val (.lst (c.map Lt.cv))):=by
 have:=b5g W c hl hc;rw[List.map_id]at this;exact this
def b6H(x y:Lt):Bool:=(x.neg == y.neg)&&(y0 x.a y.a&&y0 x.b y.b)
theorem a7C(x y:Lt):b6H x y=true↔x.strip=y.strip:=by
 unfold b6H;rw[Bool.and_eq_true,Bool.and_eq_true,l8,l8,beq_iff_eq];cases x;cases y;simp[Lt.strip]
def M0:List Lt->List Lt->Bool
 | [],[]=>true
 | x::l,y::m=>b6H x y&&M0 l m
 | _,_=>false
theorem a2D:∀{l m:List Lt},M0 l m=true↔l.map Lt.strip=m.map Lt.strip
 | [],[]=>by simp[M0]
 | [],_::_=>by simp[M0]
 | _::_,[]=>by simp[M0]
 | x::l,y::m=>by
  rw[M0,Bool.and_eq_true,a7C,a2D,map_cons,map_cons,List.cons.injEq]
def a3P(c:List Lt):Tm:=⟨0,E2 c⟩
theorem b5Z(x y:Lt):smL x y=b6H x y:=by
 unfold smL;rw[Bool.eq_iff_iff,decide_eq_true_iff,b1U,a7C]
theorem a8w(img:Int->Tm)(c:List Lt):a8 img (a3P c)=a3P (c.map (Lt.rep img)):=a2I img c
def b9k(c d:List Lt):Bool:=decide (c.map Lt.neg=d.map Lt.neg)&&a8T (a3P c) (a3P d)
theorem ToldU.uniq{l:List (Tm×Tm)}{r1 r2:List Bd×Bool}(h1:ToldU l r1)(h2:ToldU l r2):r1=r2:=by
 rcases h1 with⟨a1,a2,a3⟩ | ⟨a1,s,a2,a3,a4,a5⟩
 ·rw[h2.no a3];cases r1;simp only at a1 a2;rw[a1,a2]
 ·have h:=(h2.yes a2 a3).1;cases r1;simp only at a1 a5;rw[h,a1,a5]
noncomputable def mgT(a b:Tm):List Bd×Bool:=open Classical in if h:∃r,Tells8 [(a,b)] r then Classical.choose h else([],false)
def Tm.ten(t:Tm):Prop:=(t.rng/\t.ok)/\t.size<=10
def Lt.ten(l:Lt):Prop:=l.a.ten/\l.b.ten
theorem a5f{a b:Tm}(ha:a.ten)(hb:b.ten):a6y [(a,b)]:=λp hp=>by
 rw[List.mem_singleton]at hp;subst hp;exact⟨⟨ha.1,Nat.le_trans ha.2 (by omega)⟩,hb.1,Nat.le_trans hb.2 (by omega)⟩
theorem c2D{a b:Tm}{r:List Bd×Bool}(h:Tells8 [(a,b)] r):mgT a b=r:=by
 have he:∃r,Tells8 [(a,b)] r:=⟨r,h⟩
 unfold mgT;rw[dif_pos he];exact(Classical.choose_spec he).told.uniq h.told
theorem a2d{a b:Tm}(ha:a.ten)(hb:b.ten):Tells8 [(a,b)] (mgT a b):=by
 obtain⟨n,r,_,_,_,h⟩:=b4j (l:=[(a,b)]) (by simp) (a5f ha hb);rw[c2D h];exact h
theorem b1p(l:List (Tm×Tm))(hl:l.length<=2)(ht:a6y l):∃r:Option (List Bd),(r=none->∀ τ,¬ uni τ l)/\∀s,r=some s->Mgu (f0 s) l/\O3 s/\Orig (K9 l) (f0 s):=by
 have hV:∀v∈I3 l,0<=v:=λv hv=>by obtain⟨p,_,hv⟩:=mem_flatMap.1 hv;rcases mem_append.1 hv with hv | hv<;>exact l9 _ v hv
 have kJ:∀p∈l,(∀u∈p.1.vs,u∈I3 l)/\∀u∈p.2.vs,u∈I3 l:=λp hp=>⟨λu hu=>mem_flatMap.2 ⟨p,hp,mem_append_left _ hu⟩,λu hu=>mem_flatMap.2 ⟨p,hp,mem_append_right _ hu⟩⟩
 have h0:Mgu (f0 []) []:=Mgu.nil;obtain⟨n,r,e,g1,g2⟩:=a2p hV l [] [] h0 (λb hb=>by cases hb) (λb hb=>by cases hb) kJ;rw[nil_append]at g1 g2;have hE:arA (K9 l)<=60:=by
  have:=a8N l λp hp=>⟨(ht p hp).1.2,(ht p hp).2.2⟩
  omega
 have dK:=a2J l ht;have oT:a9a (I3 l) (K9 l) 64 [] ([]++[]):=⟨h0,(λb hb=>by cases hb),(λb hb=>by cases hb),(λv hv hf=>by exfalso;apply hf;show(n7 v).f<0;rw[s7];omega),by
  have:frN (I3 l) []<=(I3 l).length:=b0q _;show 0+_<=64;omega,λb hb=>by cases hb⟩
 obtain⟨c1,c2⟩:=a4w (V:=I3 l) (S:=K9 l) (K:=64) (E:=[]) hV (b8V hV (R6 l) (by decide) hE n) l [] [] oT (λb hb=>by cases hb) λp hp=>by obtain⟨s1,s2⟩:=b0m hp;exact⟨λs1' F1 h1=>⟨⟨(kJ p hp).1,p.1,s1,rfl⟩,⟨(kJ p hp).2,p.2,s2,rfl⟩⟩,(ht p hp).1.1,(ht p hp).2.1⟩
 refine⟨r,g1,λs hs=>?_⟩;obtain⟨k1,k2,k3⟩:=g2 s hs;rw[hs]at e;exact⟨k1,k2,(c2 s e).1.orig⟩
theorem c3y{s E:Nat}(hE:E<=18)(h:Big E s):s<=2955:=by
 have h:=h.up hE;unfold Big at h;have e1:(2:Nat) ^ 18=262144:=by decide
 have e2:(3:Nat) ^ 18=387420489:=by decide
 rw[e1,e2]at h;omega
theorem c3V{a b:Tm}(ha:a.ten)(hb:b.ten){v:Int}(hv:0<=v):(f0 (mgT a b).1 v).size<=2955:=by
 have hT:=a2d ha hb;have oU:∀u:Tm,u.f<0->u.size<=2955:=λu hu=>by rw[Tm.size_var hu];omega
 cases h2:(mgT a b).2 with
 | false =>
  rw[(hT.no h2).1];exact oU _ (by show(n7 v).f<0;rw[s7];omega)
 | true =>
  have hm:=hT.yes h2;obtain⟨r,g1,g2⟩:=b1p [(a,b)] (by simp) (a5f ha hb);cases r with
  | none=>exact absurd hm.uni (g1 rfl _)
  | some s =>
   obtain⟨k1,k2,k3⟩:=g2 s rfl;rw[k1.one hm hv];by_cases hf:(f0 s v).f<0
   ·exact oU _ hf
   ·obtain⟨q,hq,_,e⟩:=k3 v hv hf;rw[<-e];refine c3y ?_ (a0a (R6 _) k3 (λv _=>L2 k2 v) ⟨q,hq,rfl⟩);have e1:K9 [(a,b)]=(a.flat++b.flat)++[]:=rfl;have e2:=T4 a;have e3:=T4 b;have e4:=ha.2;have e5:=hb.2;rw[e1,append_nil,a2i];omega
theorem b4s{σ:Int->Tm}{M:Nat}(hM:1<=M)(h:∀v,0<=v->(σ v).size<=M)(t:Tm):(a8 σ t).size<=M*t.size:=by
 induction t using Tm.indp with
 | h t ih =>
  by_cases hf:t.f<0
  ·rw[i9 hf,Tm.strip_size,Tm.size_var hf,Nat.mul_one];exact h _ (by omega)
  ·have e1:(a8 σ t).size=1+((t.l.map (a8 σ)).map Tm.size).sum:=by rw[c9 hf];exact Tm.size_sym (t:=⟨t.f,t.l.map (a8 σ)⟩) hf
   have e2:t.size=1+(t.l.map Tm.size).sum:=Tm.size_sym hf;have gR:t.ps=t.l:=Tm.ps_of_sym (by omega);rw[gR]at ih;have:∀L:List Tm,(∀s∈L,(a8 σ s).size<=M*s.size)->((L.map (a8 σ)).map Tm.size).sum<=M*(L.map Tm.size).sum:=λL=>by
    induction L with
    | nil=>intro _;simp
    | cons x L ihL =>
     intro g;rw[map_cons,map_cons,map_cons,List.sum_cons,List.sum_cons,Nat.mul_add];have a1:=g x (by simp);have a2:=ihL λs hs=>g s (List.mem_cons_of_mem _ hs);omega
   have h3:=this t.l ih;rw[e1,e2,Nat.mul_add,Nat.mul_one];omega
noncomputable def mgS(a b:Tm):Int->Tm:=f0 (mgT a b).1
def a1a(c:List Lt)(n:Nat):List Lt:=c.take n++c.drop (n+1)
theorem Z7{c:List Lt}{n:Nat}{l:Lt}(h:l∈a1a c n):l∈c:=by
 rcases mem_append.1 h with h | h
 ·exact List.mem_of_mem_take h
 ·exact List.mem_of_mem_drop h
theorem O8{c:List Lt}{n:Nat}(h:n<c.length):(a1a c n).length+1=c.length:=by
 unfold a1a;rw[length_append,length_take,List.length_drop];omega
noncomputable def A0(a b:Tm):Bool:=decide (kb a b=1\/kb a b=2)
section
open Go.RowKit Go.MapKept Go.Shelf
attribute [local go_sem] Oper.semAt_some
end
theorem b1t:(Tryz.prog.info? 43).map (λi=>(i.zero,i.size,i.bytes))=some (some (.agg #[.bool false,.int .i64 0,.slice none 0 0,.int .i64 0,.slice none 0 0]),5,72):=by kernel_rfl
set_option maxRecDepth 100000 in
set_option maxHeartbeats 400000 in
theorem b6n(n:Nat)(hn:n<=2199023255552)(w:World) :
  Calls Tryz.prog 132 #[.slice none 0 0,.int .i64 (n:Int)] w λe w'=>∃v,e=.returned v/\w'.ownsRow w.heap.size 43 5 v 0 []/\Below w.heap.size w w':=by
 obtain⟨i,bF,bZ,cA,eN⟩:=info_parts b1t;rcases Nat.eq_zero_or_pos n with rfl | h0
 ·go_enter Tryz.func132,Tryz.ntmps132
  go_wp2
  go_ret
  exact⟨_,rfl,World.ownsRow_nil _ _ _ _,bW _⟩
 ·have hr:=Lib.run_append_nil_zeros (P:=Tryz.prog) w 26 3 26 43 i (.agg #[.bool false,.int .i64 0,.slice none 0 0,.int .i64 0,.slice none 0 0]) .i64 .i64 Tryz.underlying26 Tryz.underlying3 bF bZ n h0 (by rw[cA];omega) (by omega) (by rw[eN];omega)
  go_enter Tryz.func132,Tryz.ntmps132
  go_wp2_with (at_builtin;refine Lib.wpList_append_run _ rfl _ _ _ _ rfl _ _ rfl rfl _ _ hr ?_)
  go_wp2
  go_ret
  refine⟨_,rfl,World.ownsRow_made w.drew _ _ (Nat.le_refl _) (grownCap_le_maxLen _ _ _ _ (by unfold maxLen;omega)) ?_,(Below.refl _ _).drew.alloc (Nat.le_refl _) _⟩;have:=grownCap_ge w n 0 43;simp[size_zeroCells]
  try omega
set_option maxRecDepth 100000 in
set_option maxHeartbeats 800000 in
theorem a9J(a:Option Addr)(m c:Nat)(A:Nat->Option Addr)(L C:Nat->Nat)(R:Nat->List Value)(w:World)(hr:Rw 5 w a m A L C R)(hm:m<=1000)(hs:a4o L m<=1099511627776) :
  Calls Tryz.prog 95 #[.slice a m c] w λe w'=>∃v,e=.returned v/\w'.ownsRow w.heap.size 43 5 v (a4o L m) (a3y R m)/\Below w.heap.size w w':=by
 obtain⟨J,hJ⟩:∃J:Nat->List Value,J=a3y R:=⟨_,rfl⟩
 obtain⟨N,hN⟩:∃N:Nat->Nat,N=a4o L:=⟨_,rfl⟩
 have HS:Hid (∀k,J (k+1)=J k++R k):=λk=>by rw[hJ];rfl
 have HSN:Hid (∀k,N (k+1)=N k+L k):=λk=>by rw[hN];rfl
 have HJ0:Hid (J 0=[]/\N 0=0):=by rw[hJ,hN];exact⟨rfl,rfl⟩
 have HL:Hid (∀k,k<=m->N k<=1099511627776):=λk hk=>by rw[hN];exact Nat.le_trans (b3x L hk) hs
 have HR:Hid (∀B w',Below B w w'->w.heap.size<=B->Rw 5 w' a m A L C R):=λB w' hb hB=>hr.below hb hB;have HR0:Hid (Rw 5 w a m A L C R):=hr;rw[<-hJ,<-hN];clear hJ hs hr hN
 go_enter Tryz.func95,Tryz.ntmps95
 go_wp2
 go_loop [3,11] (λs i=>∃k x:Nat,i=.int .i64 (k:Int)/\k<=m/\s=.int .i64 (x:Int)/\x=N k) (λs i=>m-(intOf i).toNat)
 case atStart=>exact⟨0,0,rfl,by omega,rfl,by rw[HJ0.out.2]⟩
 case round =>
  obtain⟨k,x,rfl,hk,rfl,hx⟩:=hrel;have HX:Hid (x=N k):=hx;have fE:x<=1099511627776:=by rw[hx];exact HL.out k hk
  clear hx;by_cases kA:k<m
  ·rcases HR0.out.2 with h0 | ⟨b,off,rfl,hb,hc⟩
   ·omega
   have dS:=hc k kA;have HXX:Hid (x+L k=N (k+1)):=by show x+L k=_;rw[HSN.out k,<-HX.out]
   have jN:x+L k<=1099511627776:=by rw[HXX.out];exact HL.out (k+1) kA
   obtain⟨Lk,eW⟩:∃y,L k=y:=⟨_,rfl⟩
   obtain⟨Ak,jO⟩:∃y,A k=y:=⟨_,rfl⟩
   obtain⟨Ck,lV⟩:∃y,C k=y:=⟨_,rfl⟩
   rw[eW]at HXX jN;rw[eW,jO,lV]at dS;clear eW jO lV hc
   go_wp2
   refine⟨⟨k+1,x+Lk,by go_num,by omega,by go_num,HXX.out⟩,?_⟩;simp[intOf];omega
  ·obtain rfl:k=m:=by omega
   go_wp2_with fail
   refine(b6n x (by omega) w).mono ?_;rintro e w1 ⟨v1,rfl,lG,kP⟩
   go_wp2
   go_loopw [6,27] (λu i wr=>∃j:Nat,i=.int .i64 (j:Int)/\j<=k/\wr.ownsRow w.heap.size 43 5 u (N j) (J j)/\Below w.heap.size w wr) (λ_ i _=>k-(intOf i).toNat)
   case atStart=>exact⟨0,rfl,by omega,by rw[HJ0.out.1,HJ0.out.2];exact lG,kP⟩
   case round =>
    obtain⟨j,rfl,hj,qC,nP⟩:=hrel;by_cases kA:j<k
    ·obtain⟨bI,eG,pE,dT⟩:=(HR.out _ _ nP (Nat.le_refl _)).1 j kA;rcases(HR.out _ _ nP (Nat.le_refl _)).2 with h0 | ⟨b,off,rfl,hb,hc⟩
     ·omega
     have dS:=hc j kA;have hJl:N j+L j<=1099511627776:=by have:=HL.out (j+1) kA;rw[HSN.out j]at this;exact this
     have HSj':Hid (J (j+1)=J j++R j/\N (j+1)=N j+L j):=⟨HS.out j,HSN.out j⟩
     obtain⟨Lk,eW⟩:∃y,L j=y:=⟨_,rfl⟩
     obtain⟨Ak,jO⟩:∃y,A j=y:=⟨_,rfl⟩
     obtain⟨Ck,lV⟩:∃y,C j=y:=⟨_,rfl⟩
     obtain⟨Rk,iN⟩:∃y,R j=y:=⟨_,rfl⟩
     obtain⟨Jk,sM⟩:∃y,J j=y:=⟨_,rfl⟩
     obtain⟨Nk,qD⟩:∃y,N j=y:=⟨_,rfl⟩
     rw[jO,iN]at eG;rw[iN]at dT;rw[eW,iN]at pE;rw[eW,jO,lV]at dS;rw[eW,jO,lV]at bI;rw[sM,iN,qD,eW]at HSj';rw[sM,qD]at qC;rw[qD,eW]at hJl;have kC:=nP.size;have HRl:=hid pE;clear eW jO lV iN sM qD hc pE
     go_wp2_with (at_builtin;refine L5 _ rfl _ _ 26 rfl w.heap.size 43 (.agg #[.bool false,.int .i64 0,.slice none 0 0,.int .i64 0,.slice none 0 0]) 5 72 Tryz.underlying26 b1t rfl (by decide) _ Nk Jk rfl qC Ak Lk Ck Rk rfl bI eG HRl.out dT ?d1 ?d2 kC ?_)
     case d1=>unfold maxLen;omega
     case d2=>omega
     intro v2 w2 jF pF;have gL:=nP.trans (a2S qC pF kC);clear pF
     go_wp2
     go_roundw
     case rel=>exact⟨j+1,by go_num,kA,by rw[HSj'.out.1,HSj'.out.2];exact jF,gL⟩
     case measure=>simp[intOf];omega
    ·obtain rfl:j=k:=by omega
     go_wp2
     go_ret
     exact⟨_,rfl,qC,nP⟩
theorem b0E{U:Nat->Nat->Prop}{w:World}:∀{l:List (List Lt)} {ys:List Value},Sq ((l.map λx=>CV.lst (x.map Lt.cv)).map λc=>Rep U w c) ys ->
  ∃(A:Nat->Option Addr) (L C:Nat->Nat) (R:Nat->List Value),∀r x,l[r]?=some x->ys[r]?=some (.slice (A r) (L r) (C r))/\L r=x.length/\(A r=none->L r=0/\C r=0)/\At U w (A r) (R r)/\Sq ((x.map Lt.cv).map λc=>Rep U w c) (R r)
 | [],ys,h=>⟨λ_=>none,λ_=>0,λ_=>0,λ_=>[],λr x hx=>by simp at hx⟩
 | x::l,ys,h=>by
  obtain⟨y1,y2,rfl,h1,h2⟩:=h;obtain⟨a,n,c,rfl,g1,g2,g3,g4,zs,g5,g6⟩:=N7.1 h1;obtain⟨A,L,C,R,hR⟩:=b0E (l:=l) h2;refine⟨λr=>match r with | 0=>a | r+1=>A r,λr=>match r with | 0=>n | r+1=>L r,λr=>match r with | 0=>c | r+1=>C r,λr=>match r with | 0=>zs | r+1=>R r,λr y hy=>?_⟩;cases r with
  | zero =>
   simp at hy;subst hy;exact⟨rfl,by rw[g1,length_map],g4,g5,g6⟩
  | succ r =>
   simp at hy;exact hR r y hy
theorem b2Z{U:Nat->Nat->Prop}{w:World}{l:List (List Lt)}{L:Nat->Nat}{R:Nat->List Value}(h:∀r x,l[r]?=some x->L r=x.length/\Sq ((x.map Lt.cv).map λc=>Rep U w c) (R r)) :
  ∀k,k<=l.length->Sq (((l.take k).flatten.map Lt.cv).map λc=>Rep U w c) (a3y R k)/\a4o L k=(l.take k).flatten.length:=by
 intro k
 induction k with
 | zero=>intro _;exact⟨rfl,rfl⟩
 | succ k ih =>
  intro hk;obtain⟨h1,h2⟩:=ih (by omega);obtain⟨x,hx⟩:∃x,l[k]?=some x:=⟨l[k],getElem?_eq_getElem (by omega)⟩
  obtain⟨h3,h4⟩:=h k x hx;rw[take_add_one,hx,List.flatten_append,a3y,a4o,map_append,map_append,length_append,h2,h3];simp only[Option.toList_some,List.flatten_cons,List.flatten_nil,append_nil];exact⟨y8 h1 h4,trivial⟩
theorem a2Y(W:World)(l:List (List Lt))(hl:l.length<=1000)(hs:l.flatten.length<=1099511627776):AFun Tryz.prog W 95 [.lst (l.map λx=>CV.lst (x.map Lt.cv))] (.val (.lst (l.flatten.map Lt.cv))):=by
 refine⟨x0 Tryz.func95 rfl rfl,.inl rfl,rfl,?_⟩;rintro U w vs hW ⟨u1,us1,rfl,h1,h3⟩;have h3:us1=[]:=h3;subst h3;obtain⟨a,n,c,rfl,g1,g2,g3,g4,ys,g5,g6⟩:=l5.1 h1;rw[length_map]at g1;subst g1;obtain⟨A,L,C,R,hR⟩:=b0E g6;obtain⟨hj,hn⟩:=b2Z (λr x hx=>⟨(hR r x hx).2.1,(hR r x hx).2.2.2.2⟩) l.length (Nat.le_refl _);rw[take_length]at hj hn;have hrw:Rw 5 w a l.length A L C R:=by
  refine⟨λr hr=>?_,?_⟩
  ·obtain⟨k1,k2,k3,k4,k5⟩:=hR r _ (getElem?_eq_getElem hr);refine⟨k3,a1U k4,?_,G3 k5⟩;rw[B0 (n:=λ_=>5) (λc hc xs hx=>by obtain⟨t,ht,rfl⟩:=mem_map.1 hc;rw[hx.len];exact Lt.size_all [t] _ (by simp)) k5,k2]
   rw[List.map_const',List.sum_replicate_nat];simp
  ·by_cases hz:l.length=0
   ·exact .inl hz
   ·refine .inr ?_;have hc:=a1U g5;have nV:=(hR 0 _ (getElem?_eq_getElem (by omega:0<l.length))).1;rcases hc with hc | ⟨b,off,ha,hb,hc⟩
    ·rw[hc]at nV;simp at nV
    ·refine⟨b,off,ha,hb,λr hr=>?_⟩;have hy:=(hR r _ (getElem?_eq_getElem hr)).1;have kA:r<ys.length:=by
      rcases Nat.lt_or_ge r ys.length with h | h
      ·exact h
      ·rw[List.getElem?_eq_none h]at hy;cases hy
     rw[hc r kA,hy]
 refine(a9J a l.length c A L C R w hrw hl (by rw[hn];exact hs)).mono ?_;rintro e w' ⟨v,rfl,ho,hb⟩;obtain⟨a',c',rfl,k1,k2,k3,k4⟩:=a4g ho;refine⟨_,rfl,l5.2 ⟨a',_,c',rfl,by rw[hn,length_map],k1,k2,k3,_,k4.keep λb o v h1 h2=>⟨.inr h1,h2⟩,hj.keep λb o v h1 h2=>⟨.inl h1,?_⟩⟩,hb⟩;rw[hb.cell (World.block_lt_of_cell? w _ h2)];exact h2
def b3L:List (Option (List Value))->Option (List Value)
 | []=>some []
 | none::_=>none
 | some x::r=>match b3L r with | some y=>some (x++y) | none=>none
def plS(k:Nat)(v:Value)(l:List CV)(r:Option (List Value)):Option (List Value):=match k,v,l with
 | 0,v,[]=>match Q1 v,I5 v with | true,false=>some [v] | _,_=>none
 | 1,.nilFunc,[]=>some [.slice none 0 0]
 | 2,.nilFunc,_=>r
 | _,_,_=>none
def plC:Nat->CV->Option (List Value)
 | 0,_=>none
 | n+1,⟨k,v,l⟩=>plS k v l (b3L (l.map (plC n)))
theorem a2r{U:Nat->Nat->Prop}{w:World}{n:Nat}(ih:∀c vs,plC n c=some vs->Rep U w c vs/\vs.length=c.size):∀{zs:List CV} {vs:List Value},b3L (zs.map (plC n))=some vs->∃segs:List (List Value),segs.flatten=vs/\segs.map List.length=zs.map CV.size/\zs.length=segs.length/\∀(i:Nat) (c:CV),zs[i]?=some c->∃seg,segs[i]?=some seg/\Rep U w c seg
 | [],vs,h=>by
  simp[b3L]at h;subst h;exact⟨[],rfl,rfl,rfl,λi c hi=>by simp at hi⟩
 | z::zs,vs,h=>by
  rw[map_cons]at h;cases hz:plC n z with
  | none=>rw[hz]at h;simp[b3L]at h
  | some x =>
   rw[hz]at h;unfold b3L at h;split at h
   ·rename_i y hy;cases h;obtain⟨segs,a1,a2,a3,a4⟩:=a2r ih hy;obtain⟨b1,b2⟩:=ih z x hz;refine⟨x::segs,by simp[a1],by simp[a2,b2],by simp[a3],λi c hi=>?_⟩;cases i with
    | zero=>simp at hi;subst hi;exact⟨x,rfl,b1⟩
    | succ i=>obtain⟨seg,c1,c2⟩:=a4 i c (by simpa using hi);exact⟨seg,by simpa using c1,c2⟩
   ·cases h
theorem a5Q{U:Nat->Nat->Prop}{w:World}:∀(n:Nat) (c:CV) (vs:List Value),plC n c=some vs->Rep U w c vs/\vs.length=c.size
 | 0,c,vs,h=>by cases h
 | n+1,⟨k,v,l⟩,vs,h=>by
  rw[plC]at h;unfold plS at h;split at h
  ·split at h
   ·rename_i h1 h2;cases h;exact⟨(Z9 h1).2 h2,rfl⟩
   ·cases h
  ·cases h;exact⟨a8P U w,rfl⟩
  ·obtain⟨segs,a1,a2,a3,a4⟩:=a2r (λc vs h=>a5Q (U:=U) (w:=w) n c vs h) h;refine⟨?_,?_⟩
   ·show Rep U w (.row l) vs;rw[J0,<-a1];exact J8 a3 a4
   ·rw[CV.size_mk,if_pos rfl,<-a1,List.length_flatten,a2]
  ·cases h
section
variable{P:Program}{w0:World}{U0:UX}{nt:Nat}{ops:Array Oper}{o:Oper}{S:Nat->Option AV}{gs:List Nat}{d:Nat}
theorem b7s(zs:List CV)(hg:Gd w0 U0 nt ops o gs S)(hd:o.dst=some d)(hn:Nat.blt d nt=true)(h5:Nat.blt d 100000=true){ty:TypeId}{it:TypeInfo}{cs:Array Value}(ho:o.op=.alloc ty)(hi:P.info? ty=some it)(hz:it.zero=some (.agg cs))(h0:plC 6 (.row zs)=some cs.toList):AOp P w0 U0 nt ops o gs [(d,[])] S [(d,.bp d 0 []),(100000+d,.bx (.row zs))]:=by
 intro s hs hN a w ⟨D,hv,h⟩ Q K hK;rw[if_pos (hg s hs a w D hv h)];have gG:Rep (Us w0 U0 D) w (.row zs) cs.toList:=(a5Q 6 _ _ h0).1;have he:(execOp a.eval o).run P w=.ok (.value (.pointer (some ⟨w.heap.size,0,none⟩))) (w.alloc (.cells cs ty)):=by simp[execOp,ho,Instr.alloc,zeroValue,typeInfo,hi,hz,D5,Value.cells]
 unfold Oper.wp;rw[he,Oper.upon_value,hd];have:=h.newbox (d:=d) (av:=.bx (.row zs)) (hN (d,[]) (by simp)).nr (bL hn) (bL h5) (.inl rfl) ty (λ_=>gG) (λ_ hl=>absurd hl A9);rw[Array.toArray_toList]at this;exact hK _ _ ⟨_,_,this⟩
theorem zbO{P:Program}{w0:World}{U0:UX}{nt:Nat}{ops:Array Oper}{o:Oper}{S:Nat->Option AV}{gs:List Nat}{d:Nat}{ty:TypeId}{it:TypeInfo}{cs:Array Value}(zs:List CV)(p:Gd w0 U0 nt ops o gs S:=by exact gN rfl)(q:o.dst=some d:=by exact rfl)(r:Nat.blt d nt=true:=by exact rfl)(t:Nat.blt d 100000=true:=by exact rfl)(u:o.op=.alloc ty:=by exact rfl)(v:P.info? ty=some it:=by exact rfl)(x:it.zero=some (.agg cs):=by exact rfl)(y:plC 6 (.row zs)=some cs.toList:=by exact rfl):AOp P w0 U0 nt ops o gs [(d,[])] S [(d,.bp d 0 []),(100000+d,.bx (.row zs))]:=b7s zs p q r t u v x y
theorem a5L(zs:List CV)(hg:Gd w0 U0 nt ops o gs S)(hd:o.dst=some d)(hn:Nat.blt d nt=true)(h5:Nat.blt d 100000=true){t:TypeId}{parts:Array (Nat×Operand)}{fs:Array Field}{it:TypeInfo}{cs:Array Value}{sz:List Nat}{r:List CV}(ho:o.op=.build t parts)(hu:P.underlying t=some (.struct fs))(hi:P.info? t=some it)(hz:it.zero=some (.agg cs))(kC:szO P fs.toList 0=some sz)(rI:zs.map CV.size=sz)(h0:b3L (zs.map (plC 6))=some cs.toList)(hr:Y2 S parts.toList zs=some r) :
  AOp P w0 U0 nt ops o (gs++rds parts.toList) [] S [(d,.val (.row r))]:=
 l4 hg hd hn h5 (λk hk=>mem_append_left _ hk) λs hs a w D hv hm=>by
  obtain⟨segs,e1,e2,e4,e5⟩:=a2r (U:=Us w0 U0 D) (w:=w) (a5Q 6) h0;obtain⟨g1,g2⟩:=V9 (U:=Us w0 U0 D) (w:=w) (ρ:=a.eval) (segs:=segs) hr (λx hx c n q p rQ=>A7 hm (λk hk=>hs k (mem_append_right _ (a4j hx k hk))) rQ) e4 e2 e5;obtain⟨pl,h1,h2⟩:=a5p kC;have iK:=a0t (place:=λi=>pl.toArray[i]?) sz (λi z hz=>by rw[List.getElem?_toArray,h2 i z hz,Nat.zero_add]) (parts.toList.map λx=>(x.1,a.eval x.2)) segs cs e1.symm (by rw[e2,rI]) (λx hx=>by rw[<-rI];exact g1 x hx);refine⟨.agg (G6 segs (parts.toList.map λx=>(x.1,a.eval x.2))).flatten.toArray,?_,n9 (F8.2 ⟨_,rfl,g2⟩)⟩;have hb:P.built t (parts.map λx=>(x.1,a.eval x.2)).toList=some (G6 segs (parts.toList.map λx=>(x.1,a.eval x.2))).flatten.toArray:=by unfold Program.built;rw[hi,hu];simp only[hz,h1];rw[Array.toList_map];exact iK
  have:=run_build w t _ _ hb;generalize a.eval=ρ at this |-;simp[execOp,ho,this]
theorem zbN{P:Program}{w0:World}{U0:UX}{nt:Nat}{ops:Array Oper}{o:Oper}{S:Nat->Option AV}{gs:List Nat}{d:Nat}{t:TypeId}{parts:Array (Nat×Operand)}{fs:Array Field}{it:TypeInfo}{cs:Array Value}{sz:List Nat}{r:List CV}(zs:List CV)(u:Gd w0 U0 nt ops o gs S:=by exact gN rfl)(v:o.dst=some d:=by exact rfl)(y:Nat.blt d nt=true:=by exact rfl)(A:Nat.blt d 100000=true:=by exact rfl)(B:o.op=.build t parts:=by exact rfl)(C:P.underlying t=some (.struct fs):=by exact rfl)(E:P.info? t=some it:=by exact rfl)(F:it.zero=some (.agg cs):=by exact rfl)(G:szO P fs.toList 0=some sz:=by exact rfl)(H:zs.map CV.size=sz:=by exact rfl)(h0:b3L (zs.map (plC 6))=some cs.toList:=by exact rfl)(hr:Y2 S parts.toList zs=some r:=by exact rfl):AOp P w0 U0 nt ops o (gs++rds parts.toList) [] S [(d,.val (.row r))]:=a5L zs u v y A B C E F G H h0 hr
end
theorem a1h(x:Int)(w:World) :
  Calls Tryz.prog 135 #[.int .u8 x] w λe w'=>e=.returned (.bool false)/\w'=w:=by
 go_enter Tryz.func135,Tryz.ntmps135
 go_wp2
 go_ret
 exact⟨by simp,rfl⟩
set_option maxHeartbeats 400000 in
theorem a9V(x y:Int)(w:World) :
  Calls Tryz.prog 100 #[.int .u8 x,.int .u8 y] w λe w'=>e=.returned (.int .i64 (G2 x y))/\Below w.heap.size w w':=by
 rcases Int.lt_trichotomy x y with h | h | h
 ·have h2:G2 x y = -1:=if_pos h;rw[h2];clear h2
  go_enter Tryz.func100,Tryz.ntmps100
  go_wp2_with (go_at_call 135;refine(a1h _ _).mono ?_;rintro e w1 ⟨rfl,rfl⟩)
  go_ret
  exact⟨rfl,bW _⟩
 ·subst h;have h2:G2 x x=0:=by simp[G2]
  rw[h2];clear h2
  go_enter Tryz.func100,Tryz.ntmps100
  go_wp2_with (go_at_call 135;refine(a1h _ _).mono ?_;rintro e w1 ⟨rfl,rfl⟩)
  go_ret
  exact⟨rfl,bW _⟩
 ·have h2:G2 x y=1:=by unfold G2;rw[if_neg (by omega),if_pos h]
  rw[h2];clear h2
  go_enter Tryz.func100,Tryz.ntmps100
  go_wp2_with (go_at_call 135;refine(a1h _ _).mono ?_;rintro e w1 ⟨rfl,rfl⟩)
  go_ret
  exact⟨rfl,bW _⟩
theorem b6Y(W:World)(x y:Int):AFun Tryz.prog W 100 [by8 x,by8 y] (.val (.i (G2 x y))):=by
 refine⟨x0 Tryz.func100 rfl rfl,.inl rfl,rfl,?_⟩;rintro U w vs hW ⟨u1,us1,rfl,h1,u2,us2,rfl,h2,h3⟩;have h3:us2=[]:=h3;subst h3;obtain⟨rfl,_⟩:=o0.1 h1;obtain⟨rfl,_⟩:=o0.1 h2;refine(a9V x y w).mono ?_;rintro e w' ⟨rfl,hb⟩;exact⟨_,rfl,o0.2 ⟨rfl,rfl⟩,hb⟩
theorem b5v(W:World)(x y:Lt)(hx:x.rng)(hy:y.rng):AFun Tryz.prog W 74 [x.cw,y.cw] (.val (.i (a3x x y))):=by
 refine b9 (rs:=[.i (a3x x y)]) Tryz.func74 Tryz.ntmps74 rfl rfl rfl rfl ?_;intro w U hW;refine qz<|nc zd<|nc zd<|nc ze ?_;refine aS<|aS<|aD (by kernel_rfl) (by kernel_rfl) ?_;refine nc zj<|nc (zk (z:=a6G w x))<|nc zj<|nc (zk (z:=a6G w y))<|nc (zk (z:=b6Y w _ _))<|nc ze ?_;refine⟨by kernel_rfl,?_⟩;refine qz<|nc zl<|nc z8 ?_;refine aC rfl (λhc=>?_) (λhc=>?_)
 ·have e:a3x x y=G2 (sgZ x.neg) (sgZ y.neg):=by unfold a3x;rw[if_pos];exact of_decide_eq_true hc
  rw[e];refine qz<|nc zl<|nc ze ?_;exact aT (And.intro (.inr rfl) rfl)
 ·have e:a3x x y=b0X x y:=by unfold a3x;rw[if_neg];exact of_decide_eq_false hc
  rw[e];refine aK<|qz<|nc zj<|nc zj<|nc (zk (z:=b5U w x y hx hy))<|nc ze ?_;exact aT (And.intro (.inr rfl) rfl)
theorem b2K(W:World)(x y:Lt)(hx:x.rng)(hy:y.rng):AFun Tryz.prog W 49 [x.cw,y.cw] (.val (.b (smL x y))):=by
 refine b9 (rs:=[.b (smL x y)]) Tryz.func49 Tryz.ntmps49 rfl rfl rfl rfl ?_;intro w U hW;refine qz<|nc zd<|nc zd<|nc ze ?_;refine qz<|nc zj<|nc zj<|nc (zk (z:=b5v w x y hx hy))<|nc zD<|nc ze ?_;exact aT (And.intro (.inr rfl) rfl)
def eqF(p:Lt->Lt->Bool):List Lt->List Lt->Bool
 | [],[]=>true
 | x::c,y::d=>p x y&&eqF p c d
 | _,_=>false
theorem b3W{p:Lt->Lt->Bool}:∀{c d:List Lt},c.length≠d.length->eqF p c d=false
 | [],[],h=>absurd rfl h
 | [],_::_,_=>rfl
 | _::_,[],_=>rfl
 | x::c,y::d,h=>by rw[eqF,b3W (c:=c) (d:=d) (by simpa using h),Bool.and_false]
theorem b8M{p:Lt->Lt->Bool}:∀{c d:List Lt} {k:Nat} {x y:Lt},c[k]?=some x->d[k]?=some y->p x y=false->eqF p c d=false
 | [],_,k,_,_,h,_,_=>by simp at h
 | _::_,[],k,_,_,_,h,_=>by simp at h
 | a::c,b::d,0,x,y,h1,h2,h=>by
  simp at h1 h2;subst h1 h2;rw[eqF,h,Bool.false_and]
 | a::c,b::d,k+1,x,y,h1,h2,h=>by rw[eqF,b8M (c:=c) (d:=d) (k:=k) (by simpa using h1) (by simpa using h2) h,Bool.and_false]
theorem b4m{p:Lt->Lt->Bool}:∀{c d:List Lt},c.length=d.length->(∀(k:Nat) (x y:Lt),c[k]?=some x->d[k]?=some y->p x y=true)->eqF p c d=true
 | [],[],_,_=>rfl
 | [],_::_,h,_=>by simp at h
 | _::_,[],h,_=>by simp at h
 | x::c,y::d,h,hp=>by
  rw[eqF,hp 0 x y rfl rfl,Bool.true_and];exact b4m (by simpa using h) λk a b h1 h2=>hp (k+1) a b (by simpa using h1) (by simpa using h2)
theorem b7V(c d:List Lt):eqF (λx y=>x.neg == y.neg) c d=decide (c.map Lt.neg=d.map Lt.neg):=by
 induction c generalizing d with
 | nil=>cases d<;>simp[eqF]
 | cons x c ih=>cases d with
  | nil=>simp[eqF]
  | cons y d=>rw[eqF,ih,Bool.eq_iff_iff];simp
theorem b8F(c d:List Lt):eqF smL c d=M0 c d:=by
 induction c generalizing d with
 | nil=>cases d<;>rfl
 | cons x c ih=>cases d with
  | nil=>rfl
  | cons y d=>rw[eqF,ih,b5Z];rfl
theorem b4I(W:World)(p:Lt->Lt->Bool)(fc:CV)(c d:List Lt)(hl:c.length<=1000000)(hc:∀W,∀x∈c,∀y∈d,P4 Tryz.prog W fc [x.cw,y.cw] (.val (.b (p x y)))):AFun Tryz.prog W 48 [.lst (c.map Lt.cv),.lst (d.map Lt.cv),fc] (.val (.b (eqF p c d))):=by
 have dG:=Lt.size_all c;have lX:=Lt.size_all d;refine b9 (rs:=[.b (eqF p c d)]) Tryz.func48 Tryz.ntmps48 rfl rfl rfl rfl ?_;intro w U hW;refine qz<|nc ze ?_;refine aS<|qz<|nc zl<|nc zo<|nc zl<|nc zo<|nc z8 ?_;refine aC rfl (λh=>?_) (λh=>?_)
 ·have h:=of_decide_eq_true h;rw[length_map,length_map]at h;rw[b3W (p:=p) (c:=c) (d:=d) (by omega)];refine qz<|nc ze ?_;exact aT (And.intro (.inr rfl) rfl)
 have cZ:c.length=d.length:=by have:=of_decide_eq_false h;simp only[length_map,ne_eq,Decidable.not_not]at this;omega
 refine aK<|aS<|qz<|nc zl<|nc zo<|nc zl ?_;refine aB (B6 c.length (λk=>∀(i:Nat) (x y:Lt),i<k->c[i]?=some x->d[i]?=some y->p x y=true) (λk=>[(1,.val (.lst (d.map Lt.cv))),(2,.val fc),(15,.val (.lst (c.map Lt.cv))),(16,.val (.i (c.map Lt.cv).length)),(17,.val (.i k))]) (a7 ⟨rfl,rfl,rfl,rfl,rfl,trivial⟩) (λi _ _ hi=>by omega) ?_);intro k hk hI;refine qz<|nc zi ?_;refine aS<|aC rfl (λkA=>?_) (λkA=>?_)
 ·have kE:k<c.length:=by simpa using kA
  obtain⟨x,hx⟩:∃x,c[k]?=some x:=⟨c[k],getElem?_eq_getElem kE⟩
  obtain⟨y,hy⟩:∃y,d[k]?=some y:=⟨d[k]'(by omega),getElem?_eq_getElem (by omega)⟩
  have kT:=Lt.map_at hx;have dW:=Lt.map_at hy;refine aK<|aS<|aB<|qz<|nc zl<|nc (zt (j:=k) (H:=kT) (hz:=dG))<|nc zu<|nc zw<|nc ze<|nc zx ?_;refine qz<|nc zl<|nc zl<|nc (zt (j:=k) (H:=dW) (hz:=lX))<|nc zu<|nc zw<|nc zx ?_;refine qz<|nc zl<|nc zj<|nc zj<|nc (zQ (E:=hc w x (mem_of_getElem? hx) y (mem_of_getElem? hy)))<|nc zZ ?_;refine aC rfl (λhq=>?_) (λhq=>?_)
  ·rw[b8M hx hy (by simpa using hq)];refine qz<|nc ze ?_;exact aT (And.intro (.inr rfl) rfl)
  ·have hq:p x y=true:=by simpa using hq
   refine aK<|aR<|nc zA<|nc zl ?_;refine⟨kE,λi a b hi h1 h2=>?_,a7 ⟨rfl,rfl,rfl,rfl,rfl,trivial⟩⟩;rcases Nat.lt_or_ge i k with h3 | h3
   ·exact hI i a b h3 h1 h2
   ·have:i=k:=by omega
    subst this;rw[hx]at h1;rw[hy]at h2;cases h1;cases h2;exact hq
 ·have kE:k=c.length:=by
   have:¬ k<c.length:=by simpa using kA
   omega
  subst kE;rw[b4m cZ λi x y h1 h2=>hI i x y (by have:=(List.getElem?_eq_some_iff.1 h1).1;omega) h1 h2];refine aE<|qz<|nc ze ?_;exact aT (And.intro (.inr rfl) rfl)
theorem b5L(W:World)(c d:List Lt)(hl:c.length<=1000000)(hc:∀l∈c,l.rng)(hd:∀l∈d,l.rng):AFun Tryz.prog W 19 [.lst (c.map Lt.cv),.lst (d.map Lt.cv)] (.val (.b (M0 c d))):=by
 have h:=λw=>b4I w smL (.sc (.func (.func 49) #[] #[])) c d hl (λW x hx y hy => .inr ⟨_,rfl,b2K W x y (hc x hx) (hd y hy)⟩);rw[b8F]at h;refine b9 (rs:=[.b (M0 c d)]) Tryz.func19 Tryz.ntmps19 rfl rfl rfl rfl ?_;intro w U hW;refine qz<|nc ze ?_;refine qz<|nc zl<|nc zl<|nc (zk (z:=h w))<|nc ze ?_;exact aT (And.intro (.inr rfl) rfl)
set_option maxHeartbeats 1000000 in
theorem a8d(W:World)(a b:Tm)(ha:a.rng)(hb:b.rng)(kH:a.ok)(has:a.size<=90000000000)(eG:b.size<=90000000000)(qK:a.nv.length<=1000000)(hnb:b.nv.length<=1000000):AFun Tryz.prog W 51 [a.cw,b.cw] (.val (.b (a8T a b))):=by
 refine b9 (rs:=[.b (a8T a b)]) Tryz.func51 Tryz.ntmps51 rfl rfl rfl rfl ?_;intro w U hW;have hV1:=b0Q w ha (by omega);have aW:=b0Q w hb (by omega);rw[c1y]at hV1 aW;refine qz<|nc zd<|nc zd<|nc ze ?_;refine aS<|aD (by kernel_rfl) (by kernel_rfl) ?_;refine nc zj<|nc (zk (z:=hV1))<|nc zj<|nc (zk (z:=aW))<|nc ze<|nc ze ?_;refine⟨by kernel_rfl,?_⟩;have aY:=c3A hb;unfold a8T;obtain⟨l,hl⟩:∃l,l=a.nv:=⟨_,rfl⟩
 obtain⟨m,hm⟩:∃m,m=b.nv:=⟨_,rfl⟩
 rw[<-hl]at qK |-;rw[<-hm]at hnb aY |-;have kC:=n8 l;have lI:=n8 m;refine aS<|qz<|nc zl<|nc zo<|nc zl<|nc zo<|nc z8 ?_;refine aC rfl (λhc=>?_) (λhc=>aK ?_)
 ·have kF:¬ l.length=m.length:=by simp only[length_map]at hc;simp at hc;omega
  rw[show decide (l.length=m.length)=false by simpa using kF,Bool.false_and];refine qz<|nc ze ?_;exact aT (And.intro (.inr rfl) rfl)
 have he:l.length=m.length:=by simp only[length_map]at hc;simp at hc;omega
 clear hc;rw[show decide (l.length=m.length)=true by simpa using he,Bool.true_and];obtain⟨z,hz⟩:∃z,z=b1H l m:=⟨_,rfl⟩
 have qG:z.length=l.length:=by rw[hz];exact c0K he
 have rI:=λk=>Bd.size_all (z.take k);have hzo:bdsOk z:=λx hx=>by rw[hz]at hx;obtain⟨u,hu,e⟩:=c1r hx;rw[e];exact⟨a1K (aY u hu).1 (aY u hu).2,by rw[a2G];omega⟩
 rw[<-hz];refine qz<|nc ze ?_;refine aS<|qz<|nc zl<|nc zo<|nc zl ?_;refine aB (n6 l.length (λk=>[(2,.bp 2 0 []),(100002,.bx a.cw),(3,.bp 3 0 []),(100003,.bx b.cw),(6,.val (.lst (m.map CV.i))),(7,.own (.lst ((z.take k).map Bd.cv)) 200035),(200035,.tok 112 3),(19,.val (.lst (l.map CV.i))),(20,.val (.i (l.map CV.i).length)),(21,.val (.i k))])
  ((M9 7 200035 112 3 rfl rfl rfl rfl rfl rfl rfl).trans (a7 ⟨rfl,rfl,rfl,rfl,rfl,rfl,rfl,rfl,rfl,rfl,trivial⟩)) ?_)
 intro k hk;refine qz<|nc zi ?_;refine aS<|aC rfl (λhc=>aK ?_) (λhc=>aE ?_)
 ·have kE:k<l.length:=by simp only[length_map,decide_eq_true_eq]at hc;omega
  clear hc;obtain⟨v,hv⟩:∃v,l[k]?=some v:=⟨l[k],getElem?_eq_getElem kE⟩
  obtain⟨u,hu⟩:∃u,m[k]?=some u:=⟨m[k],getElem?_eq_getElem (by omega)⟩
  have kG:=b4a hv;have yR:=b4a hu;have hub:=aY u (mem_of_getElem? hu);have hzk:z[k]?=some ⟨v,n7 u⟩:=by rw[hz];exact c3x hv hu
  refine aS<|aB<|qz<|nc zl<|nc (zt (H:=by assumption) (hz:=by first | assumption | exact sZ rfl | exact Tm.size_all _ | exact Bd.size_all _ | exact n8 _ | exact bys_size _ | exact Lt.size_all _))<|nc zu<|nc ze<|nc ze ?_;refine aR<|nc zl<|nc zl<|nc zl<|nc zl<|nc (zt (H:=by assumption) (hz:=by first | assumption | exact sZ rfl | exact Tm.size_all _ | exact Bd.size_all _ | exact n8 _ | exact bys_size _ | exact Lt.size_all _))<|nc zu<|nc (zk (z:=K0 w u hub.1 hub.2))<|nc zC<|nc zy<|nc zz<|nc ze ?_;refine aR<|nc zA<|nc zl ?_;refine⟨kE,Wk.trans (a7 (s':=[(2,.bp 2 0 []),(100002,.bx a.cw),(3,.bp 3 0 []),(100003,.bx b.cw),(6,.val (.lst (m.map CV.i))),(7,.own (.lst ((z.take (k+1)).map Bd.cv)) 300035),(300035,.tok 112 3),(19,.val (.lst (l.map CV.i))),(20,.val (.i (l.map CV.i).length)),(21,.val (.i ((k+1:Nat):Int)))]) ⟨rfl,rfl,rfl,rfl,rfl,?_,rfl,rfl,rfl,rfl,trivial⟩) (B1 300035 200035 rfl rfl rfl rfl)⟩;rw[take_add_one,hzk,map_append];rfl
 ·have kE:k=z.length:=by simp only[length_map,decide_eq_false_iff_not]at hc;omega
  subst kE;rw[take_length];refine aS<|aD (by kernel_rfl) (by kernel_rfl) ?_;refine nc zl<|nc zj<|nc (zk (z:=a0Z w z a (by omega) hzo ha kH))<|nc zj ?_;refine nc (zk (z:=b1E w (a5G ha λv h1 h2=>(a4K hzo h1 h2).1) hb)) ?_;refine nc ze ?_;refine⟨by kernel_rfl,?_⟩;exact aT (And.intro (.inr rfl) rfl)
theorem b1h{c:List Lt}{s:Tm}:s∈E2 c↔∃l∈c,s=l.a\/s=l.b:=by
 unfold E2;rw[mem_flatMap];constructor
 ·rintro⟨l,hl,h⟩;exact⟨l,hl,by simpa using h⟩
 ·rintro⟨l,hl,h⟩;exact⟨l,hl,by simpa using h⟩
end Go.Proofs.YteegmcfobgpemaaGreat
