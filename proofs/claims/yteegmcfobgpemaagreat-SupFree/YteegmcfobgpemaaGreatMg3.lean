/-
 AbObj AbCall AbObj2 AbFld AbMap AbFull AbArr AbRoom AbBox AbIter AbRange AbRangeV
-/
import Derived.Test.YteegmcfobgpemaaGreatMg2
import Derived.MapKept
import Derived.Laws.NewFold
namespace Go.Proofs.YteegmcfobgpemaaGreat
open List (all_cons all_eq_true append_assoc cons_append eq_nil_of_length_eq_zero ext_getElem? getElem?_append_left getElem?_append_right getElem?_eq_none getElem?_replicate length_append length_cons length_map length_nil length_set length_take map_append mem_append mem_append_left mem_append_right mem_cons mem_cons_of_mem mem_map mem_of_mem_take take_append_drop)
open Go.RowKit
set_option linter.unusedVariables false
set_option linter.unusedSimpArgs false
theorem Y0(b off j:Nat):(⟨b,off,none⟩:Addr).add j=⟨b,off+j,none⟩:=by unfold Addr.add;split<;>simp_all
section
variable{P:Program}{w0:World}{U0:UX}{nt:Nat}{ops:Array Oper}{o:Oper}{S:Nat->Option AV}{gs:List Nat}{d:Nat}{s:AS}{a:Act}{w:World}{D:Nat->Nat->Prop}{hv:Nat->Value}
theorem D4{e:TypeId}{z:Nat}(hi:(P.info? e).map (·.size)=some z):(sizeOf e).run P w=.ok z w:=by
 cases gH:P.info? e with
 | none=>rw[gH]at hi;simp at hi
 | some i=>rw[gH]at hi;simp at hi;simp[sizeOf,typeInfo,gH,hi]
theorem SimG.mrow(h:SimG w0 U0 nt s a w D hv){n e z:Nat}{l:List CV}(h1:look s n=some (.mrow e z l))(hn:RN n):∃xs,w.ownsRow 0 e z (hv n) l.length xs/\0<z/\(∀c∈l,c.size=z)/\Sq (l.map λc=>Rep (Us w0 U0 D) w c) xs:=by
 have:OC (Us w0 U0 D) w hv (a9 s) (.mrow e z l) (hv n):=h.obj n _ h1 (by unfold RN at hn;unfold n4;omega);exact this
theorem Z8{e z:Nat}{v:Value}{k:Nat}{xs:List Value}(h:w.ownsRow 0 e z v k xs)(hk:0<k):∃g cap cur,v=.slice (some ⟨g,0,none⟩) k cap/\w.heap[g]?=some (.cells cur e (0,0))/\k<=cap/\cap<=maxLen/\cur.size=cap*z/\cur.toList.take (k*z)=xs/\q6 v=g/\hb v=some g:=by
 rcases h.2 with⟨_,rfl⟩ | ⟨g,cap,cur,rfl,_,h3,h4,h5,h6,h7⟩
 ·omega
 ·exact⟨g,cap,cur,rfl,h3,h4,h5,h6,h7,rfl,rfl⟩
theorem M2{e z:Nat}{v:Value}{k:Nat}{xs:List Value}(h:w.ownsRow 0 e z v k xs):∃ao cap,v=.slice ao k cap/\k<=cap/\cap<=maxLen:=by
 rcases h.2 with⟨rfl,rfl⟩ | ⟨g,cap,cur,rfl,_,h3,h4,h5,h6,h7⟩
 ·exact⟨none,0,rfl,Nat.le_refl _,by unfold maxLen;omega⟩
 ·exact⟨_,cap,rfl,h4,h5⟩
section
variable(hg:Gd w0 U0 nt ops o gs S)(hd:o.dst=some d)(hn:Nat.blt d nt=true)(h5:Nat.blt d 100000=true)
include hg hd hn h5
theorem c2P{x:Operand}{t e:TypeId}{ts:Array TypeId}{n lo len z:Nat}(ho:o.op=.call { callee:=.builtin .len,args := #[x],argTypes:=ts })(ht:ts[0]?=some t)(hu:P.underlying t=some (.slice e))(hx:ev S x=some (.sl n lo len z)):AOp P w0 U0 nt ops o (gs++rd x) [] S [(d,.val (.i len))]:=
 l4 hg hd hn h5 (λk hk=>mem_append_left _ hk) λs hs a w D hv hm=>by obtain⟨_,ao,m,cap,ao',h1,h2,_⟩:RN n/\SlV (hv n) lo len z (a.eval x):=n5 hm (λk hk=>hs k (mem_append_right _ hk)) hx;refine⟨.int .i64 len,?_,o9 rfl⟩;generalize a.eval=ρ at h2 |-;simp[execOp,ho,resolve,invoke,builtin,Builtin.len_,ht,h2,goInt,run_underlying hu,go_sem]
theorem aIm{x y:Operand}{ty e e':TypeId}{l:List CV}{i:Int}{k n lo len z:Nat}{kd:IntKind}{n' q' p'}(ho:o.op=.indexAddr ty x y)(hu:P.underlying ty=some (.slice e))(hi:(P.info? e).map (·.size)=some z)(hx:ev S x=some (.sl n lo len z))(hy:ev S y=some ⟨0,.sc (.int kd i),n',q',p'⟩)(bS:S n=some (.mrow e' z l))(hk:i+(lo:Int)=(k:Int)/\lo<=k/\k<lo+len/\lo+len<=l.length):AOp P w0 U0 nt ops o (gs++(rd x++(rd y++[n]))) [] S [(d,.el n (k*z) [k])]:=
 l4 hg hd hn h5 (λk hk=>mem_append_left _ hk) λs hs a w D hv hm=>by
  obtain⟨lC,fQ,hj,hl⟩:=hk;obtain⟨j,rfl⟩:∃j,k=lo+j:=⟨k-lo,by omega⟩
  obtain⟨kN,ao,m,cap,ao',h1,h2,h3,h4,h6,_⟩:RN n/\SlV (hv n) lo len z (a.eval x):=n5 hm (λk hk=>hs k (mem_append_right _ (mem_append_left _ hk))) hx;have e2:=v9 hm (λk hk=>hs k (mem_append_right _ (mem_append_right _ (mem_append_left _ hk)))) hy;obtain⟨xs,g1,_⟩:=hm.mrow ((hs n (by simp)).trans bS) kN;obtain⟨g,cap',cur,f1,f2,f3,f4,f6,f7,f8,f9⟩:=Z8 g1 (by omega);rw[f1]at h1;injection h1 with h1 h7 h8;subst h1;subst h7;subst h8;have ha:ao'=some ⟨g,lo*z,none⟩:=h6 (by omega) g rfl;subst ha;have lC:i=(j:Int):=by omega
  have hj:j<len:=by omega
  subst lC;have kC:=D4 (P:=P) (w:=w) hi;refine⟨.pointer (some ⟨g,(lo+j)*z,none⟩),?_,?_⟩
  ·have bQ:(⟨g,lo*z,none⟩:Addr).add (j*z)=⟨g,(lo+j)*z,none⟩:=by rw[Y0,Nat.add_mul]
   generalize a.eval=ρ at h2 e2 |-;simp[execOp,ho,Instr.indexAt,asIntOf,h2,e2,run_underlying hu,hj,kC,bQ]
  ·exact⟨kN,by show _=Value.pointer (some ⟨q6 (hv n),_,none⟩);rw[f8]⟩
theorem b8f{x:Operand}{ty:TypeId}{fs:Array Field}{i:Nat}{f:Field}{n q p z}(ho:o.op=.fieldAddr ty x i)(hu:P.underlying ty=some (.struct fs))(hf:fs[i]?=some f)(hz:(P.info? f.type).map (·.size)=some z)(hz0:Nat.beq z 0=false)(hx:ev S x=some (.el n q p)):AOp P w0 U0 nt ops o (gs++rd x) [] S [(d,.el n (q+f.offset) (p++[i]))]:=
 l4 hg hd hn h5 (λk hk=>mem_append_left _ hk) λs hs a w D hv hm=>by
  obtain⟨kN,h1⟩:RN n/\a.eval x=.pointer (some ⟨q6 (hv n),q,none⟩):=n5 hm (λk hk=>hs k (mem_append_right _ hk)) hx;have kC:=D4 (P:=P) (w:=w) hz;have iJ:z≠0:=λe=>by rw[e]at hz0;cases hz0
  refine⟨.pointer (some ⟨q6 (hv n),q+f.offset,none⟩),?_,kN,rfl⟩;have bQ:=Y0 (q6 (hv n)) q f.offset;generalize a.eval=ρ at h1 |-;simp[execOp,ho,Instr.fieldAt,run_underlying hu,hf,Instr.sureAddr,h1,fieldPlace,kC,iJ,bQ]
omit hg hd hn h5 in
theorem c0U{U:Nat->Nat->Prop}{e z k j m q:Nat}{v:Value}{l:List CV}{c c':CV}{p:List Nat}{xs:List Value}(h:w.ownsRow 0 e z v l.length xs)(sI:Sq (l.map λc=>Rep U w c) xs)(hz:∀c∈l,c.size=z)(hc:l[j]?=some c)(cJ:c.at p=some (m,c'))(hq:q=j*z+m) :
  ∃g cap cur ys zs us,v=.slice (some ⟨g,0,none⟩) l.length cap/\q6 v=g/\hb v=some g/\w.heap[g]?=some (.cells cur e (0,0))/\l.length<=cap/\cap<=maxLen/\cur.size=cap*z/\cur.toList.take (l.length*z)=xs/\cur.toList=ys++zs++us/\ys.length=q/\Rep U w c' zs:=by
 have gI:j<l.length:=by
  rcases Nat.lt_or_ge j l.length with h | h
  ·exact h
  ·rw[getElem?_eq_none h]at hc;cases hc
 obtain⟨g,cap,cur,f1,f2,f3,f4,f6,f7,f8,f9⟩:=Z8 h (by omega);obtain⟨y1,z1,u1,e1,e2,e3⟩:=c2E hz sI hc;obtain⟨y2,z2,u2,e4,e5,e6⟩:=a8R cJ e3;refine⟨g,cap,cur,y1++y2,z2,u2++(u1++cur.toList.drop (l.length*z)),f1,f8,f9,f2,f3,f4,f6,f7,?_,by rw[length_append,e2,e5,hq],e6⟩
 conv=>lhs;rw[<-take_append_drop (l.length*z) cur.toList,f7,e1,e4]
 simp
theorem c0s{x:Operand}{ty:TypeId}{ds:TypeDesc}{e z z' j m n q:Nat}{l:List CV}{c c':CV}{p:List Nat}(ho:o.op=.load ty x)(hu:P.underlying ty=some ds)(hi:(P.info? ty).map (·.size)=some z')(hx:ev S x=some (.el n q (j::p)))(bS:S n=some (.mrow e z l))(hc:l[j]?=some c)(cJ:c.at p=some (m,c'))(hq:q=j*z+m)(hk:X1 ds=Nat.beq c'.k 2)(hz:c'.size=z'):AOp P w0 U0 nt ops o (gs++(rd x++[n])) [] S [(d,.val c')]:=
 l4 hg hd hn h5 (λk hk=>mem_append_left _ hk) λs hs a w D hv hm=>by obtain⟨kN,h1⟩:RN n/\a.eval x=.pointer (some ⟨q6 (hv n),q,none⟩):=n5 hm (λk hk=>hs k (mem_append_right _ (mem_append_left _ hk))) hx;obtain⟨xs,g1,g2,g3,g4⟩:=hm.mrow ((hs n (by simp)).trans bS) kN;obtain⟨g,cap,cur,ys,zs,us,f1,f2,f3,f4,f6,f7,f8,f9,f10,f11,f12⟩:=c0U (k:=0) g1 g4 g3 hc cJ hq;rw[f2]at h1;obtain⟨v,h6,h7,h8⟩:=D9 hu hi hk hz f12 (b:=g) (off:=q) (λi hi=>by rw[<-f11];exact H5 (xs:=cur.toList) (by rw[Array.toArray_toList];exact f4) f10 i hi);refine⟨v,?_,n9 h7⟩;generalize a.eval=ρ at h1 |-;simp[execOp,ho,Instr.loadAt,Instr.sureAddr,h1,h6]
theorem c0W{x y:Operand}{t e:TypeId}{z:Nat}{k:IntKind}{i:Int}{j n lo len:Nat}{n' q' p'}(ho:o.op=.slice t x (some y) none none)(hu:P.underlying t=some (.slice e))(hi:(P.info? e).map (·.size)=some z)(hx:ev S x=some (.sl n lo len z))(hy:ev S y=some ⟨0,.sc (.int k i),n',q',p'⟩)(lC:i=(j:Int))(hj:j<=len):AOp P w0 U0 nt ops o (gs++(rd x++rd y)) [] S [(d,.sl n (lo+j) (len-j) z)]:=
 l4 hg hd hn h5 (λk hk=>mem_append_left _ hk) λs hs a w D hv hm=>by
  obtain⟨kN,ao,m,cap,ao',h1,h2,h3,h4,h6,h7⟩:RN n/\SlV (hv n) lo len z (a.eval x):=n5 hm (λk hk=>hs k (mem_append_right _ (mem_append_left _ hk))) hx;have e2:=v9 hm (λk hk=>hs k (mem_append_right _ (mem_append_right _ hk))) hy;have kC:=D4 (P:=P) (w:=w) hi;refine⟨.slice (if cap-lo=j then ao' else ao'.map (·.add (j*z))) (len-j) (cap-lo-j),?_,kN,ao,m,cap,_,h1,by rw[Nat.sub_sub];rfl,by show lo+j+(len-j)<=cap;omega,λh8=>?_,λh8=>?_,?_⟩
  ·have hb:=E6 (P:=P) (w:=w) (k:=k) (j:=j) (y:=len) (code:=.sliceB) hj;subst lC;generalize a.eval=ρ at h2 e2 |-;simp[execOp,ho,Instr.sliceAt,Instr.slice,run_underlying hu,h2,e2,Instr.sliceBounds,hb,kC]
  ·have h8:lo+j=0:=h8;have hj0:j=0:=by omega
   subst hj0;rw[h4 (by omega)];split
   ·rfl
   ·cases ao with
    | none=>rfl
    | some ad=>simp[Addr.add]
  ·have h8:lo+j<cap:=h8;intro g dI;rw[if_neg (by omega),h6 (by omega) g dI];show some ((⟨g,lo*z,none⟩:Addr).add (j*z))=some ⟨g,(lo+j)*z,none⟩;rw[Y0,Nat.add_mul]
  ·split
   ·exact h7
   ·rw[Option.map_eq_none_iff];exact h7
theorem c1a{x y:Operand}{t e:TypeId}{z:Nat}{k:IntKind}{i:Int}{j n lo len:Nat}{n' q' p'}(ho:o.op=.slice t x none (some y) none)(hu:P.underlying t=some (.slice e))(hi:(P.info? e).map (·.size)=some z)(hx:ev S x=some (.sl n lo len z))(hy:ev S y=some ⟨0,.sc (.int k i),n',q',p'⟩)(lC:i=(j:Int))(hj:j<=len):AOp P w0 U0 nt ops o (gs++(rd x++rd y)) [] S [(d,.sl n lo j z)]:=
 l4 hg hd hn h5 (λk hk=>mem_append_left _ hk) λs hs a w D hv hm=>by
  obtain⟨kN,ao,m,cap,ao',h1,h2,h3,h4,h6,h7⟩:RN n/\SlV (hv n) lo len z (a.eval x):=n5 hm (λk hk=>hs k (mem_append_right _ (mem_append_left _ hk))) hx;have e2:=v9 hm (λk hk=>hs k (mem_append_right _ (mem_append_right _ hk))) hy;have kC:=D4 (P:=P) (w:=w) hi;have hid:(if cap-lo=0 then ao' else ao'.map (·.add (0*z)))=ao':=by
   split
   ·rfl
   ·cases ao' with
    | none=>rfl
    | some ad=>simp[Addr.add]
  refine⟨.slice ao' j (cap-lo),?_,kN,ao,m,cap,ao',h1,rfl,by show lo+j<=cap;omega,h4,h6,h7⟩;have hb:=E6 (P:=P) (w:=w) (k:=k) (j:=j) (y:=cap-lo) (code:=.sliceAcap) (by omega);subst lC;generalize a.eval=ρ at h2 e2 |-;simp[execOp,ho,Instr.sliceAt,Instr.slice,run_underlying hu,h2,e2,Instr.sliceBounds,hb,kC,hid]<;>simpa using hid
end
theorem zO{P:Program}{w0:World}{U0:UX}{nt:Nat}{ops:Array Oper}{o:Oper}{S:Nat->Option AV}{gs:List Nat}{d:Nat}{x:Operand}{y:Operand}{ty:TypeId}{e:TypeId}{e':TypeId}{l:List CV}{i:Int}{k:Nat}{n:Nat}{lo:Nat}{len:Nat}{z:Nat}{kd:IntKind}{n'}{q'}{p'}(p:Gd w0 U0 nt ops o gs S:=by exact gN rfl)(q:o.dst=some d:=by exact rfl)(r:Nat.blt d nt=true:=by exact rfl)(t:Nat.blt d 100000=true:=by exact rfl)(u:o.op=.indexAddr ty x y:=by exact rfl)(v:P.underlying ty=some (.slice e):=by exact rfl)(A:(P.info? e).map (·.size)=some z:=by exact rfl)(B:ev S x=some (.sl n lo len z):=by exact rfl)(C:ev S y=some ⟨0,.sc (.int kd i),n',q',p'⟩:=by exact rfl)(E:S n=some (.mrow e' z l):=by exact rfl)(F:i+(lo:Int)=(k:Int)/\lo<=k/\k<lo+len/\lo+len<=l.length:=by first | rfl | omega | (simp only[length_set,length_map,length_append,length_cons,length_nil]<;>omega) | (simp<;>omega)):AOp P w0 U0 nt ops o (gs++(rd x++(rd y++[n]))) [] S [(d,.el n (k*z) [k])]:=aIm p q r t u v A B C E F
theorem zP{P:Program}{w0:World}{U0:UX}{nt:Nat}{ops:Array Oper}{o:Oper}{S:Nat->Option AV}{gs:List Nat}{d:Nat}{x:Operand}{ty:TypeId}{ds:TypeDesc}{e:Nat}{z:Nat}{z':Nat}{j:Nat}{m:Nat}{n:Nat}{q:Nat}{l:List CV}{c:CV}{c':CV}{p:List Nat}(r:Gd w0 U0 nt ops o gs S:=by exact gN rfl)(t:o.dst=some d:=by exact rfl)(u:Nat.blt d nt=true:=by exact rfl)(y:Nat.blt d 100000=true:=by exact rfl)(A:o.op=.load ty x:=by exact rfl)(B:P.underlying ty=some ds:=by exact rfl)(C:(P.info? ty).map (·.size)=some z':=by exact rfl)(E:ev S x=some (.el n q (j::p)):=by exact rfl)(F:S n=some (.mrow e z l):=by exact rfl)(G:l[j]?=some c)(H:c.at p=some (m,c'):=by exact rfl)(hq:q=j*z+m:=by first | rfl | omega | (simp only[length_set,length_map,length_append,length_cons,length_nil]<;>omega) | (simp<;>omega))(hk:X1 ds=Nat.beq c'.k 2:=by exact rfl)(hz:c'.size=z':=by exact rfl):AOp P w0 U0 nt ops o (gs++(rd x++[n])) [] S [(d,.val c')]:=c0s r t u y A B C E F G H hq hk hz
theorem zX{P:Program}{w0:World}{U0:UX}{nt:Nat}{ops:Array Oper}{o:Oper}{S:Nat->Option AV}{gs:List Nat}{d:Nat}{x:Operand}{t:TypeId}{e:TypeId}{ts:Array TypeId}{n:Nat}{lo:Nat}{len:Nat}{z:Nat}(p:Gd w0 U0 nt ops o gs S:=by exact gN rfl)(q:o.dst=some d:=by exact rfl)(r:Nat.blt d nt=true:=by exact rfl)(u:Nat.blt d 100000=true:=by exact rfl)(v:o.op=.call { callee:=.builtin .len,args := #[x],argTypes:=ts }:=by exact rfl)(y:ts[0]?=some t:=by exact rfl)(A:P.underlying t=some (.slice e):=by exact rfl)(B:ev S x=some (.sl n lo len z):=by exact rfl):AOp P w0 U0 nt ops o (gs++rd x) [] S [(d,.val (.i len))]:=c2P p q r u v y A B
theorem zY{P:Program}{w0:World}{U0:UX}{nt:Nat}{ops:Array Oper}{o:Oper}{S:Nat->Option AV}{gs:List Nat}{d:Nat}{x:Operand}{y:Operand}{t:TypeId}{e:TypeId}{z:Nat}{k:IntKind}{i:Int}{j:Nat}{n:Nat}{lo:Nat}{len:Nat}{n'}{q'}{p'}(p:Gd w0 U0 nt ops o gs S:=by exact gN rfl)(q:o.dst=some d:=by exact rfl)(r:Nat.blt d nt=true:=by exact rfl)(u:Nat.blt d 100000=true:=by exact rfl)(v:o.op=.slice t x (some y) none none:=by exact rfl)(A:P.underlying t=some (.slice e):=by exact rfl)(B:(P.info? e).map (·.size)=some z:=by exact rfl)(C:ev S x=some (.sl n lo len z):=by exact rfl)(E:ev S y=some ⟨0,.sc (.int k i),n',q',p'⟩:=by exact rfl)(F:i=(j:Int):=by first | rfl | omega | (simp only[length_set,length_map,length_append,length_cons,length_nil]<;>omega) | (simp<;>omega))(G:j<=len:=by first | rfl | omega | (simp only[length_set,length_map,length_append,length_cons,length_nil]<;>omega) | (simp<;>omega)):AOp P w0 U0 nt ops o (gs++(rd x++rd y)) [] S [(d,.sl n (lo+j) (len-j) z)]:=c0W p q r u v A B C E F G
theorem z3{P:Program}{w0:World}{U0:UX}{nt:Nat}{ops:Array Oper}{o:Oper}{S:Nat->Option AV}{gs:List Nat}{d:Nat}{x:Operand}{y:Operand}{t:TypeId}{e:TypeId}{z:Nat}{k:IntKind}{i:Int}{j:Nat}{n:Nat}{lo:Nat}{len:Nat}{n'}{q'}{p'}(p:Gd w0 U0 nt ops o gs S:=by exact gN rfl)(q:o.dst=some d:=by exact rfl)(r:Nat.blt d nt=true:=by exact rfl)(u:Nat.blt d 100000=true:=by exact rfl)(v:o.op=.slice t x none (some y) none:=by exact rfl)(A:P.underlying t=some (.slice e):=by exact rfl)(B:(P.info? e).map (·.size)=some z:=by exact rfl)(C:ev S x=some (.sl n lo len z):=by exact rfl)(E:ev S y=some ⟨0,.sc (.int k i),n',q',p'⟩:=by exact rfl)(F:i=(j:Int):=by first | rfl | omega | (simp only[length_set,length_map,length_append,length_cons,length_nil]<;>omega) | (simp<;>omega))(G:j<=len:=by first | rfl | omega | (simp only[length_set,length_map,length_append,length_cons,length_nil]<;>omega) | (simp<;>omega)):AOp P w0 U0 nt ops o (gs++(rd x++rd y)) [] S [(d,.sl n lo j z)]:=c1a p q r u v A B C E F G
theorem z4{P:Program}{w0:World}{U0:UX}{nt:Nat}{ops:Array Oper}{o:Oper}{S:Nat->Option AV}{gs:List Nat}{d:Nat}{x:Operand}{ty:TypeId}{fs:Array Field}{i:Nat}{f:Field}{n}{q}{p}{z}(r:Gd w0 U0 nt ops o gs S:=by exact gN rfl)(t:o.dst=some d:=by exact rfl)(u:Nat.blt d nt=true:=by exact rfl)(v:Nat.blt d 100000=true:=by exact rfl)(y:o.op=.fieldAddr ty x i:=by exact rfl)(A:P.underlying ty=some (.struct fs):=by exact rfl)(B:fs[i]?=some f:=by exact rfl)(C:(P.info? f.type).map (·.size)=some z:=by exact rfl)(E:Nat.beq z 0=false:=by exact rfl)(F:ev S x=some (.el n q p):=by exact rfl):AOp P w0 U0 nt ops o (gs++rd x) [] S [(d,.el n (q+f.offset) (p++[i]))]:=b8f r t u v y A B C E F
theorem a0Y{α:Type}{l:List α}{j:Nat}{c x:α}(h:x∈l.set j c):x∈l\/x=c:=by
 rcases List.mem_or_eq_of_mem_set h with h | h
 ·exact .inl h
 ·exact .inr h
theorem b8e(hg:Gd w0 U0 nt ops o gs S)(hd:o.dst=none){x y:Operand}{ty:TypeId}{e z z' j m n q:Nat}{l:List CV}{c c' c2 v:CV}{p:List Nat}{m1 q1 p1}(ho:o.op=.store ty x y)(hi:(P.info? ty).map (·.size)=some z')(hx:ev S x=some (.el n q (j::p)))(bS:S n=some (.mrow e z l))(hy:ev S y=some ⟨0,v,m1,q1,p1⟩)(hc:l[j]?=some c)(cJ:c.at p=some (m,c'))(cX:c.upO p v=some c2)(hq:q=j*z+m)(hz:v.size=z') :
  AOp P w0 U0 nt ops o (gs++(rd x++(rd y++[n]))) [] S [(n,.mrow e z (l.set j c2))]:=by
 intro s hs hN a w ⟨D,hv,h⟩ Q K hK;rw[if_pos (hg s (λk hk=>hs k (mem_append_left _ hk)) a w D hv h)];have hm:=(hs n (by simp)).trans bS;obtain⟨kN,h1⟩:RN n/\a.eval x=.pointer (some ⟨q6 (hv n),q,none⟩):=n5 h (λk hk=>hs k (mem_append_right _ (mem_append_left _ hk))) hx;have h2:=A7 h (λk hk=>hs k (mem_append_right _ (mem_append_right _ (mem_append_left _ hk)))) hy;obtain⟨xs,g1,g2,g3,g4⟩:=h.mrow hm kN;have gI:j<l.length:=by
  rcases Nat.lt_or_ge j l.length with h | h
  ·exact h
  ·rw[getElem?_eq_none h]at hc;cases hc
 obtain⟨g,cap,cur,f1,f2,f3,f4,f6,f7,f8,f9⟩:=Z8 g1 (by omega);rw[f8]at h1;have hl:l=l.take j++c::l.drop (j+1):=by rw[List.getElem?_eq_getElem gI]at hc;rw[<-Option.some.inj hc,List.getElem_cons_drop,take_append_drop]
 have g4':=g4;rw[hl,map_append]at g4';obtain⟨y1,r1,e1,s1,z1,u1,e2,s2,s3⟩:=y5 g4';obtain⟨u1',u2⟩:=a1S (U:=Us w0 U0 D) (w:=w) (xs:=z1) cJ cX;obtain⟨y2,z2,u3,e3,e4,e5,e6⟩:=u2 s2;have lT:y1.length=j*z:=by rw[B0 (n:=CV.size) (λc _ xs h=>h.len) s1,s5 (λc hc=>g3 c (mem_of_mem_take hc)),length_take,Nat.min_eq_left (by omega)]
 have dK:=h2.cells.len;have eX:cur.toList=(y1++y2)++z2++(u3++u1++cur.toList.drop (l.length*z)):=by
  conv=>lhs;rw[<-take_append_drop (l.length*z) cur.toList,f7,e1,e2,e3]
  simp
 have kY:=J5 (P:=P) (ys:=y1++y2) (zs:=z2) (us:=u3++u1++cur.toList.drop (l.length*z)) (q:=q) (z:=z') hi (by rw[<-eX,Array.toArray_toList];exact f2) (by rw[length_append,lT,e4,hq]) (v:=a.eval y) rfl (by rw[dK,e5]) (by rw[dK,hz]) h2.cells.one;have he:(execOp a.eval o).run P w=.ok .skip (w.setRow g (y1++y2++(a.eval y).cells.toList++(u3++u1++cur.toList.drop (l.length*z))).toArray):=by generalize a.eval=ρ at h1 kY |-;simp[execOp,ho,Instr.storeAt,Instr.sureAddr,h1,kY]
 unfold Oper.wp;rw[he,Oper.upon_skip,hd];have kH:n4 n:=by unfold RN at kN;unfold n4;omega
 refine hK _ _ ⟨_,_,h.store (av:=.mrow e z (l.set j c2)) kH hm (by simp) (by simp) rfl (λg' hn o _=>hn o (by simp)) (by simp) f9 f2 λw' hw bC=>?_⟩;have bT:=(e6 _ h2.cells).keep bC;have jP:c2.size=z:=by have a1:=bT.len;have a2:=s2.len;rw[e3,g3 c (List.mem_of_getElem? hc)]at a2;simp only[length_append]at a1 a2;omega
 refine⟨y1++(y2++(a.eval y).cells.toList++u3)++u1,⟨?_,.inr ⟨g,cap,_,?_,Nat.zero_le _,hw,?_,f4,?_,?_⟩⟩,g2,λx hx=>?_,?_⟩
 ·have a1:=g1.1;rw[e1,e2,e3]at a1;simp only[length_append]at a1 |-;show _=(l.set j c2).length*z;rw[length_set];omega
 ·show hv n=.slice _ (l.set j c2).length cap;rw[length_set];exact f1
 ·show(l.set j c2).length<=cap;rw[length_set];exact f3
 ·have:=congrArg List.length eX;rw[Array.length_toList,f6]at this;simp only[List.size_toArray,length_append]at this |-;show _=cap*z;omega
 ·show List.take ((l.set j c2).length*z) _=_;rw[length_set];have a1:=g1.1;rw[e1,e2,e3]at a1;simp only[length_append]at a1;have e7:y1++y2++(a.eval y).cells.toList++(u3++u1++cur.toList.drop (l.length*z))=(y1++(y2++(a.eval y).cells.toList++u3)++u1)++cur.toList.drop (l.length*z):=by simp
  rw[e7,List.take_append_of_le_length (by simp only[length_append];omega),List.take_of_length_le (by simp only[length_append];omega)]
 ·rcases a0Y hx with hx | rfl
  ·exact g3 x hx
  ·exact jP
 ·show Sq ((l.set j c2).map λc=>Rep (Us w0 U0 D) w' c) _;have gC:l.set j c2=l.take j++c2::l.drop (j+1):=by
   conv=>lhs;rw[hl]
   rw[List.set_append_right _ _ (by simp;omega)];simp[Nat.min_eq_left (Nat.le_of_lt gI)]
  rw[gC,map_append,append_assoc];exact y8 (Sq.keep bC s1) ⟨_,u1,rfl,bT,Sq.keep bC s3⟩
theorem zR{P:Program}{w0:World}{U0:UX}{nt:Nat}{ops:Array Oper}{o:Oper}{S:Nat->Option AV}{gs:List Nat}{x:Operand}{y:Operand}{ty:TypeId}{e:Nat}{z:Nat}{z':Nat}{j:Nat}{m:Nat}{n:Nat}{q:Nat}{l:List CV}{c:CV}{c':CV}{c2:CV}{v:CV}{p:List Nat}{m1}{q1}{p1}(r:Gd w0 U0 nt ops o gs S:=by exact gN rfl)(t:o.dst=none:=by exact rfl)(u:o.op=.store ty x y:=by exact rfl)(A:(P.info? ty).map (·.size)=some z':=by exact rfl)(B:ev S x=some (.el n q (j::p)):=by exact rfl)(C:S n=some (.mrow e z l):=by exact rfl)(E:ev S y=some ⟨0,v,m1,q1,p1⟩:=by exact rfl)(F:l[j]?=some c)(G:c.at p=some (m,c'):=by exact rfl)(H:c.upO p v=some c2:=by exact rfl)(hq:q=j*z+m:=by first | rfl | omega | (simp only[length_set,length_map,length_append,length_cons,length_nil]<;>omega) | (simp<;>omega))(hz:v.size=z':=by exact rfl):AOp P w0 U0 nt ops o (gs++(rd x++(rd y++[n]))) [] S [(n,.mrow e z (l.set j c2))]:=b8e r t u A B C E F G H hq hz
end
def AVReps(U:Nat->Nat->Prop)(w:World)(hv:Nat->Value)(lv:Nat->Prop):List AV->List Value->Prop
 | [],vs=>vs=[]
 | c::cs,vs=>∃u us,vs=u::us/\AVRep U w hv lv c u/\AVReps U w hv lv cs us
theorem AVReps.len{U:Nat->Nat->Prop}{w:World}{hv:Nat->Value}{lv:Nat->Prop}:∀{l:List AV} {vs:List Value},AVReps U w hv lv l vs->vs.length=l.length
 | [],_,h=>by have h:_=[]:=h;rw[h];rfl
 | c::cs,vs,⟨u,us,e,h1,h2⟩=>by rw[e,length_cons,length_cons,AVReps.len h2]
theorem AVReps.at{U:Nat->Nat->Prop}{w:World}{hv:Nat->Value}{lv:Nat->Prop}:∀{l:List AV} {vs:List Value},AVReps U w hv lv l vs->∀{i:Nat} {c:AV},l[i]?=some c->∃v,vs[i]?=some v/\AVRep U w hv lv c v
 | [],_,_,i,c,hi=>by simp at hi
 | c'::cs,vs,⟨u,us,e,h1,h2⟩,0,c,hi=>by
  simp only[List.getElem?_cons_zero,Option.some.injEq]at hi;exact⟨u,by rw[e];rfl,hi▸h1⟩
 | c'::cs,vs,⟨u,us,e,h1,h2⟩,i+1,c,hi=>by
  obtain⟨v,h3,h4⟩:=AVReps.at h2 (i:=i) (c:=c) (by simpa using hi);exact⟨v,by rw[e];simpa using h3,h4⟩
theorem AVReps.imp{U V:Nat->Nat->Prop}{w w':World}{hv kG:Nat->Value}{lv lv':Nat->Prop}:∀{l:List AV} {vs:List Value},(∀c∈l,∀v,AVRep U w hv lv c v->AVRep V w' kG lv' c v)->AVReps U w hv lv l vs->AVReps V w' kG lv' l vs
 | [],_,_,h=>h
 | c::cs,vs,hc,⟨u,us,e,h1,h2⟩=>⟨u,us,e,hc c (by simp) u h1,AVReps.imp (λx hx=>hc x (mem_cons_of_mem _ hx)) h2⟩
def r8(P:Program)(f:FuncId)(pre:AS)(args:List AV)(r:AV)(post:AS):Prop:=
 a3H P f/\∀(U:UX) (w:World) (hv:Nat->Value) (a0:Act) (vs:List Value),(∀k v,U.f k=some v->l7 (kO pre) k=true)->SimG w U 0 pre a0 w (λ_ _=>False) hv->AVReps (Us w U (λ_ _=>False)) w hv (a9 pre) args vs ->
  Calls P f vs.toArray w λe w'=>∃v D' kG a',e=.returned v/\SimG w U 0 post a' w' D' kG/\AVRep (Us w U D') w' kG (a9 post) r v
def a4m(S:Nat->Option AV):List Operand->Option (List AV)
 | []=>some []
 | x::xs=>match ev S x,a4m S xs with
  | some c,some cs=>some (c::cs)
  | _,_=>none
def SubS(S:Nat->Option AV):AS->Prop
 | []=>True
 | (k,av)::s=>S k=some av/\SubS S s
theorem SubS.look{S:Nat->Option AV}:∀{s:AS},SubS S s->∀{k av},look s k=some av->S k=some av
 | [],_,k,av,h=>by simp[Go.Proofs.YteegmcfobgpemaaGreat.look]at h
 | (k',av')::s,⟨h1,h2⟩,k,av,h=>by
  rw[k9]at h;split at h
  ·rename_i e;subst e;cases h;exact h1
  ·exact SubS.look h2 h
def F5(p:Nat×AV):Bool:=match Nat.ble 500000 p.1 with
 | true=>true
 | false=>Nat.ble 300000 p.1&&!Nat.beq p.2.t 6&&!Nat.beq p.2.t 7&&(Nat.blt p.1 450000||Nat.beq p.2.t 5||Nat.beq p.2.t 9||Nat.beq p.2.t 23)
def a3G(ks:List Nat)(av:AV):Bool:=match Nat.beq av.t 0||Nat.beq av.t 5 with
 | true=>Nat.ble av.n 1
 | false=>match Nat.beq av.t 2||Nat.beq av.t 11||Nat.beq av.t 12||Nat.beq av.t 15||Nat.beq av.t 19 with
  | true=>l7 ks (hk av)
  | false=>true
def G7(ks:List Nat)(p:Nat×AV):Bool:=Nat.ble 200000 p.1&&!Nat.beq p.2.t 6&&a3G ks p.2&&(match Nat.ble 500000 p.1 with | true=>Nat.ble 350000 (fnm p.1)&&Nat.blt (fnm p.1) 400000&&l7 ks (100000+fnm p.1) | false=>true)
def J6(pre post:List Nat):List Nat->List (Nat×List Nat)
 | []=>[]
 | k::ks=>match Nat.ble 500000 k,Nat.blt k 400000,Nat.blt k 450000,l7 pre k with
  | true,_,_,_=>J6 pre post ks
  | false,true,_,_=>(k,pre++post)::J6 pre post ks
  | false,false,true,true=>J6 pre post ks
  | false,false,true,false=>(k,pre++post)::J6 pre post ks
  | false,false,false,true=>(k-100000+1000000,pre++post)::J6 pre post ks
  | false,false,false,false=>(k-100000,pre++post)::J6 pre post ks
theorem a9y{a b:Nat}(h:b<a):Nat.ble a b=false:=by
 cases e:Nat.ble a b with
 | false=>rfl
 | true=>have:=Nat.le_of_ble_eq_true e;omega
theorem a6l{a b:Nat}(h:b<=a):Nat.blt a b=false:=by
 cases e:Nat.blt a b with
 | false=>rfl
 | true=>have:=bL e;omega
theorem a8I{a b:Nat}(h:a<b):Nat.blt a b=true:=by simp[Nat.blt_eq,h]
theorem a2C{pre post:List Nat}{x:Nat}{ks:List Nat}{q:Nat×List Nat}(h:q∈J6 pre post ks):q∈J6 pre post (x::ks):=by
 unfold J6;split
 ·exact h
 ·exact mem_cons_of_mem _ h
 ·exact h
 ·exact mem_cons_of_mem _ h
 ·exact mem_cons_of_mem _ h
 ·exact mem_cons_of_mem _ h
theorem b1i{pre post:List Nat}:∀{ks:List Nat} {k:Nat},k∈ks->k<450000->(k<400000\/l7 pre k=false)->(k,pre++post)∈J6 pre post ks
 | x::ks,k,h,hk,hp=>by
  rcases mem_cons.1 h with rfl | h
  ·unfold J6;rw[a9y (by omega:k<500000)];by_cases h4:k<400000
   ·rw[a8I h4];simp
   ·rw[a6l (by omega:400000<=k),a8I hk];rcases hp with hp | hp
    ·omega
    ·rw[hp];simp
  ·exact a2C (b1i h hk hp)
theorem b0W{pre post:List Nat}:∀{ks:List Nat} {k:Nat},k∈ks->450000<=k->k<500000->l7 pre k=false->(k-100000,pre++post)∈J6 pre post ks
 | x::ks,k,h,hk,gY,hp=>by
  rcases mem_cons.1 h with rfl | h
  ·unfold J6;rw[a9y (by omega:k<500000),a6l (by omega:400000<=k),a6l hk,hp];simp
  ·exact a2C (b0W h hk gY hp)
theorem a7F{pre post:List Nat}:∀{ks:List Nat} {k:Nat},k∈ks->450000<=k->k<500000->l7 pre k=true->(k-100000+1000000,pre++post)∈J6 pre post ks
 | x::ks,k,h,hk,gY,hp=>by
  rcases mem_cons.1 h with rfl | h
  ·unfold J6;rw[a9y (by omega:k<500000),a6l (by omega:400000<=k),a6l hk,hp];simp
  ·exact a2C (a7F h hk gY hp)
theorem j5{s:AS}{k:Nat}{av:AV}(h:look s k=some av):k∈kO s:=mem_map.2 ⟨_,E0 h,rfl⟩
theorem R5{s:AS}{k:Nat}(h:k∈kO s):∃av,look s k=some av:=by
 induction s with
 | nil=>simp[kO]at h
 | cons p s ih =>
  obtain⟨d,x⟩:=p;by_cases e:d=k
  ·exact⟨x,by rw[k9,if_pos e]⟩
  ·rw[lN e];refine ih ?_;simp only[kO,List.map_cons,mem_cons]at h |-;rcases h with h | h
   ·exact absurd h.symm e
   ·exact h
theorem d8{e s:AS}{k:Nat}:look (e++s) k=(look e k).or (look s k):=by
 induction e with
 | nil=>rfl
 | cons p e ih =>
  obtain⟨d,x⟩:=p;by_cases h:d=k
  ·subst h;rw[cons_append,lS,lS];rfl
  ·rw[cons_append,lN h,lN h,ih]
theorem c1O{s:AS}{k:Nat}(h:l7 (kO s) k=false):look s k=none:=by
 cases e:look s k with
 | none=>rfl
 | some av=>rw[t8 (j5 e)]at h;cases h
theorem I2{q:Nat×AV->Bool}{s:AS}(h:s.all q=true){k:Nat}{av:AV}(h1:look s k=some av):q (k,av)=true:=by
 rw[all_eq_true]at h;exact h _ (E0 h1)
section
variable{P:Program}{w0:World}{U0:UX}{nt:Nat}{ops:Array Oper}{o:Oper}{S:Nat->Option AV}{gs:List Nat}{d:Nat}{s:AS}{a:Act}{w:World}{D:Nat->Nat->Prop}{hv:Nat->Value}
theorem S9(h:SimG w0 U0 nt s a w D hv):∀{xs:List Operand} {cs:List AV},(∀k∈rdl xs,look s k=S k)->a4m S xs=some cs->AVReps (Us w0 U0 D) w hv (a9 s) cs (xs.map a.eval)
 | [],cs,_,he=>by simp[a4m]at he;subst he;rfl
 | x::xs,cs,hs,he=>by
  unfold a4m at he;split at he
  ·rename_i c cs' h1 h2;cases he;exact⟨a.eval x,xs.map a.eval,rfl,n5 h (λk hk=>hs k (mem_append_left _ hk)) h1,S9 h (λk hk=>hs k (mem_append_right _ hk)) h2⟩
  ·cases he
theorem SimG.lend(h:SimG w0 U0 nt s a w D hv){pre:AS}(hp:Sub s pre)(hl:pre.all F5=true):∃V:UX,(∀k v,V.f k=some v->l7 (kO pre) k=true)/\SimG w V 0 pre ⟨#[],[]⟩ w (λ_ _=>False) hv/\(∀b,V.x b↔∃k av,look pre k=some av/\n4 k/\hb (hv k)=some b)/\(∀k,l7 (kO pre) k=true->400000<=k->k<500000->V.f k=some (hv k))/\(∀b o,V.m b o↔Us w0 U0 D b o)/\∀b o u,Us w0 U0 D b o->w.cell? ⟨b,o,none⟩=some u->Us w V (λ_ _=>False) b o/\w.cell? ⟨b,o,none⟩=some u:=by
 classical
 have kB:∀{k av},look pre k=some av->n4 k->300000<=k/\av.t≠6/\av.t≠7/\True:=fun{k av} h1 h2=>by
  have h3:=I2 hl h1;unfold n4 at h2;unfold F5 at h3;have h4:Nat.ble 500000 k=false:=by
   cases e:Nat.ble 500000 k with
   | false=>rfl
   | true=>have:=Nat.le_of_ble_eq_true e;omega
  simp only[h4,Bool.and_eq_true,Bool.or_eq_true,Bool.not_eq_true']at h3;obtain⟨⟨⟨h5,h6⟩,h7⟩,h8⟩:=h3;refine⟨Nat.le_of_ble_eq_true h5,(λe=>by rw[e]at h6;cases h6),(λe=>by rw[e]at h7;cases h7),trivial⟩
 let isB:Nat->Prop:=λk=>400000<=k/\k<500000/\l7 (kO pre) k=true
 let V:UX:=⟨Us w0 U0 D,λb=>∃k av,look pre k=some av/\n4 k/\hb (hv k)=some b,λk=>if isB k then some (hv k)else none,λk v (h1:(if isB k then some (hv k)else none)=some v)=>by
  split at h1
  ·rename_i h2;exact⟨h2.1,h2.2.1⟩
  ·cases h1⟩
 have kL:∀b o u,Us w0 U0 D b o->w.cell? ⟨b,o,none⟩=some u->Us w V (λ_ _=>False) b o/\w.cell? ⟨b,o,none⟩=some u:=λb o u hu hc=>by refine⟨.inl ⟨World.block_lt_of_cell? w _ hc,hu,?_⟩,hc⟩;rintro⟨k,av,h1,h2,h3⟩;obtain⟨g1,g2,g3,_⟩:=kB h1 h2;obtain⟨f1,f2,f3⟩:=h.blk k av b (hp _ _ h1) h2 g3 h3;exact a3s hu f1 (f3 o λe=>absurd e g2) rfl
 have iZ:∀n,a9 pre n->a9 s n:=λn h1=>h1.imp id λ⟨e,he⟩=>⟨e,hp _ _ he.1,he.2⟩
 refine⟨V,λn g h1=>?_,⟨BelowX.refl _ _,rfl,rfl,λd av h1 h2=>?_,λn o av h1 h2 h3 h4=>?_,λn o o' av av' h1 h2=>h.fdis n o o' av av' (hp _ _ h1) (hp _ _ h2),λk av h1 h2=>?_,λk av g h1 h2 h3 h4=>?_,λk k' av av' g h1 h2=>h.disj k k' av av' g (hp _ _ h1) (hp _ _ h2),λn g h1=>?_,λb o hd=>hd.elim⟩,λb=>Iff.rfl,λk h1 h2 h3=>?_,λb o=>Iff.rfl,kL⟩
 ·have h1:(if isB n then some (hv n)else none)=some g:=h1;split at h1
  ·rename_i h2;exact h2.2.2
  ·cases h1
 ·have h3:=I2 hl h1;unfold F5 at h3;have h4:Nat.ble 500000 d=false:=by
   cases e:Nat.ble 500000 d with
   | false=>rfl
   | true=>have:=Nat.le_of_ble_eq_true e;omega
  simp only[h4,Bool.and_eq_true]at h3;have:=Nat.le_of_ble_eq_true h3.1.1.1;omega
 ·obtain⟨v,h6,h7⟩:=h.fld n o av (hp _ _ h1) h2 (hp _ _ h3) h4;exact⟨v,h6.move kL (λ_=>iZ _) λ_=>rfl,h7⟩
 ·exact(h.obj k av (hp _ _ h1) h2).move kL (λ_ h3=>⟨iZ _ h3,rfl⟩) λ_ _=>rfl
 ·obtain⟨g1,g2,g3,_⟩:=kB h1 h2;obtain⟨f1,f2,f3⟩:=h.blk k av g (hp _ _ h1) h2 h3 h4;exact⟨.inr ⟨by rw[Q5 g1];exact g2,k,av,h1,h2,h4⟩,f2,λ_ _ h=>h⟩
 ·have h1:(if isB n then some (hv n)else none)=some g:=h1;split at h1
  ·cases h1;rfl
  ·cases h1
 ·show(if isB k then some (hv k)else none)=some (hv k);rw[if_pos ⟨h2,h3,h1⟩]
theorem SimG.back(h:SimG w0 U0 nt s a w D hv){pre post:AS}(hp:Sub s pre)(hl:pre.all F5=true)(hq:post.all (G7 (kO post))=true)(jQ:(kO pre).all (l7 (kO post))=true)(hN:∀q∈J6 (kO pre) (kO post) (kO post),NoRefE s q)(hnb:∀k v,U0.f k=some v->l7 (kO post) k=true->l7 (kO pre) k=true)
  {V:UX} (hVx:∀b,V.x b↔∃k av,look pre k=some av/\n4 k/\hb (hv k)=some b) (hVf:∀k,l7 (kO pre) k=true->400000<=k->k<500000->V.f k=some (hv k)) (hVm:∀b o,V.m b o↔Us w0 U0 D b o) (gE:SimG w V 0 pre ⟨#[],[]⟩ w (λ_ _=>False) hv)
  {w':World} {D':Nat->Nat->Prop} {kG:Nat->Value} {a':Act} (h':SimG w V 0 post a' w' D' kG) :
  ∃D'' vP,SimG w0 U0 nt (post++s) a w' D'' vP/\(∀r v,a3G (kO post) r=true->AVRep (Us w V D') w' kG (a9 post) r v->AVRep (Us w0 U0 D'') w' vP (a9 (post++s)) r v)/\∀b o,D b o->D'' b o:=by
 classical
 have kB:∀{k av},look pre k=some av->n4 k->300000<=k/\av.t≠6/\av.t≠7/\True:=fun{k av} h1 h2=>by
  have h3:=I2 hl h1;unfold n4 at h2;unfold F5 at h3;have h4:Nat.ble 500000 k=false:=by
   cases e:Nat.ble 500000 k with
   | false=>rfl
   | true=>have:=Nat.le_of_ble_eq_true e;omega
  simp only[h4,Bool.and_eq_true,Bool.or_eq_true,Bool.not_eq_true']at h3;obtain⟨⟨⟨h5,h6⟩,h7⟩,h8⟩:=h3;refine⟨Nat.le_of_ble_eq_true h5,(λe=>by rw[e]at h6;cases h6),(λe=>by rw[e]at h7;cases h7),trivial⟩
 have rH:∀{k av},look post k=some av->200000<=k/\av.t≠6/\a3G (kO post) av=true:=fun{k av} h1=>by have h3:=I2 hq h1;unfold G7 at h3;simp only[Bool.and_eq_true,Bool.not_eq_true']at h3;exact⟨Nat.le_of_ble_eq_true h3.1.1.1,(λe=>by rw[e]at h3;exact absurd h3.1.1.2 (by decide)),h3.1.2⟩
 have hqf:∀{n o av},look post (i7 n o)=some av->o<100->350000<=n/\n<400000/\l7 (kO post) (100000+n)=true:=fun{n o av} h1 h2=>by have h3:=I2 hq h1;unfold G7 at h3;have h4:Nat.ble 500000 (i7 n o)=true:=Nat.ble_eq_true_of_le (by unfold i7;omega);simp only[h4,Q8 h2,Bool.and_eq_true]at h3;exact⟨Nat.le_of_ble_eq_true h3.2.1.1,bL h3.2.1.2,h3.2.2⟩
 have kJ:∀{k},l7 (kO pre) k=true->l7 (kO post) k=true:=fun{k} h1=>by rw[all_eq_true]at jQ;exact jQ k (A4 h1)
 obtain⟨D2,qF⟩:∃D2:Nat->Nat->Prop,D2=λb o=>D b o\/(w.heap.size<=b/\D' b o):=⟨_,rfl⟩
 obtain⟨gD,gJ⟩:∃gD:Nat->Value,gD=λk=>if l7 (kO post) k=true then kG k else hv k:=⟨_,rfl⟩
 have nW:∀{k},l7 (kO post) k=true->gD k=kG k:=fun{k} h1=>by rw[gJ];simp only[h1,if_true]
 have kR:∀{k},l7 (kO post) k=false->gD k=hv k:=fun{k} h1=>by rw[gJ];simp[h1]
 obtain⟨s2,lX⟩:∃s2,s2=post++s:=⟨_,rfl⟩
 have hly:∀{k av},look post k=some av->look s2 k=some av:=fun{k av} h1=>by rw[lX,d8,h1];rfl
 have cN:∀{k av},look s2 k=some av->look post k=some av\/(l7 (kO post) k=false/\look s k=some av):=fun{k av} h1=>by
  cases e:l7 (kO post) k with
  | true =>
   obtain⟨av',h2⟩:=R5 (A4 e);rw[hly h2]at h1;cases h1;exact .inl h2
  | false =>
   rw[lX,d8,c1O e]at h1;exact .inr ⟨rfl,h1⟩
 have kI:∀n e,v8 s2 n e->l7 (kO post) n=false/\v8 s n e:=λn e ⟨h1,h2⟩=>by
  rcases cN h1 with h3 | ⟨h3,h4⟩
  ·exact absurd rfl (rH h3).2.1
  ·exact⟨h3,h4,h2⟩
 have iZ:∀n,a9 s2 n->a9 s n:=λn h1=>h1.imp id λ⟨e,he⟩=>⟨e,(kI n e he).2⟩
 have lR:=h'.below
 have lY:∀b,b<w.heap.size->¬ V.x b->w'.heap[b]?=w.heap[b]?:=lR.block;have fC:∀b o u,Us w0 U0 D b o->w.cell? ⟨b,o,none⟩=some u->Us w0 U0 D2 b o/\w'.cell? ⟨b,o,none⟩=some u:=λb o u hu hc=>by
  refine⟨hu.imp id λh1=>⟨h1.1,by rw[qF];exact .inl h1.2⟩,?_⟩;have jB:¬ V.x b:=λhx=>by obtain⟨k,av,h1,h2,h3⟩:=(hVx b).1 hx;obtain⟨g1,g2,g3,_⟩:=kB h1 h2;obtain⟨f1,f2,f3⟩:=h.blk k av b (hp _ _ h1) h2 g3 h3;exact a3s hu f1 (f3 o λe=>absurd e g2) rfl
  rw[World.cell?_of_block (w:=w) (lY b (World.block_lt_of_cell? w _ hc) jB)];exact hc
 have gY:∀b o u,Us w V D' b o->w'.cell? ⟨b,o,none⟩=some u->Us w0 U0 D2 b o/\w'.cell? ⟨b,o,none⟩=some u:=λb o u hu hc=>by
  refine⟨?_,hc⟩;rcases hu with⟨h1,h2,h3⟩ | ⟨h1,h2⟩
  ·exact((hVm b o).1 h2).imp id λh4=>⟨h4.1,by rw[qF];exact .inl h4.2⟩
  ·exact .inr ⟨Nat.le_trans h.below.size h1,by rw[qF];exact .inr ⟨h1,h2⟩⟩
 have eU:∀k,400000<=k->k<500000->l7 (kO pre) k=true->kG k=hv k:=λk h2 h3 h1=>h'.fix k _ (hVf k h1 h2 h3);have jM:∀{k av n},look s k=some av->l7 (kO post) k=false->RN n->l7 (kO post) n=true->(n<400000\/l7 (kO pre) n=false)->av.n≠n:=fun{k av n} h1 h2 h3 h4 h6=>by
  have h5:=hN _ (b1i (pre:=kO pre) (post:=kO post) (A4 h4) h3.2 h6);refine(h5 k av h1 ?_).1;cases e:l7 (kO pre++kO post) k with
  | false=>rfl
  | true =>
   rcases mem_append.1 (A4 e)with e | e
   ·rw[kJ (t8 e)]at h2;cases h2
   ·rw[t8 e]at h2;cases h2
 have dU:∀{k av n},look s k=some av->l7 (kO post) k=false->BN n->350000<=n->l7 (kO post) (100000+n)=true->l7 (kO pre) (100000+n)=false->av.n≠n/\fnm k≠n/\fnm k+1000000≠n:=fun{k av n} h1 h2 h3 h6 h4 h5=>by
  unfold BN at h3;have h7:=hN _ (b0W (pre:=kO pre) (post:=kO post) (A4 h4) (by omega) (by omega) h5);rw[show 100000+n-100000=n by omega]at h7;refine h7 k av h1 ?_;cases e:l7 (kO pre++kO post) k with
  | false=>rfl
  | true =>
   rcases mem_append.1 (A4 e)with e | e
   ·rw[kJ (t8 e)]at h2;cases h2
   ·rw[t8 e]at h2;cases h2
 have sP:∀{n o av},look s (i7 n o)=some av->l7 (kO post) (i7 n o)=false->o<100->350000<=n->n<400000->l7 (kO post) (100000+n)=true->False:=fun{n o av} h1 h2 h3 h4 h5 h6=>by
  cases e:l7 (kO pre) (100000+n)with
  | false =>
   have:=(dU h1 h2 (.inr ⟨h4,h5⟩) h4 h6 e).2.1;rw[Q8 h3]at this;exact this rfl
  | true =>
   have h7:=hN _ (a7F (pre:=kO pre) (post:=kO post) (A4 h6) (by omega) (by omega) e);have h8:=(h7 (i7 n o) av h1 (by
    cases e:l7 (kO pre++kO post) (i7 n o)with
    | false=>rfl
    | true =>
     rcases mem_append.1 (A4 e)with e | e
     ·rw[kJ (t8 e)]at h2;cases h2
     ·rw[t8 e]at h2;cases h2)).2.2
   rw[Q8 h3]at h8;apply h8;show n+1000000=100000+n-100000+1000000;omega
 have cF:∀{k av v},look s k=some av->l7 (kO post) k=false->AVRep (Us w0 U0 D) w hv (a9 s) av v->AVRep (Us w0 U0 D2) w' gD (a9 s2) av v:=fun{k av v} h1 h2 h3 =>
  h3.move fC (λ_=>iZ _) λhR=>by
   cases e:l7 (kO post) (hk av)with
   | false=>exact kR e
   | true =>
    rcases hR with⟨r1,r2,r3⟩ | ⟨r1,r2⟩ | ⟨r1,r2⟩
    ·rw[L8.2 (by omega)]at e;rcases r2 with r4 | ⟨_,r4⟩
     ·exact absurd r4 r3
     ·exact absurd rfl (jM h1 h2 ⟨r4.2.1,Nat.lt_trans r4.2.2 (by omega)⟩ e (.inl r4.2.2))
    ·rw[L8.1 r1]at e |-;rw[nW e];cases e2:l7 (kO pre) (100000+av.n)with
     | true =>
      obtain⟨av',h7⟩:=R5 (A4 e);have:=(rH h7).1;unfold BN at r2;exact eU _ (by omega) (by omega) e2
     | false =>
      have h6:350000<=av.n:=by obtain⟨av',h7⟩:=R5 (A4 e);have:=(rH h7).1;unfold BN at r2;omega
      exact absurd rfl (dU h1 h2 r2 h6 e e2).1
    ·rw[L8.2 (by omega)]at e |-;cases e2:l7 (kO pre) av.n with
     | false=>exact absurd rfl (jM h1 h2 r2 e (.inr e2))
     | true =>
      by_cases h4:av.n<400000
      ·exact absurd rfl (jM h1 h2 r2 e (.inl h4))
      ·have:=r2.2;rw[nW e];exact eU _ (by omega) (by omega) e2
 have lQ:∀{av v},a3G (kO post) av=true->AVRep (Us w V D') w' kG (a9 post) av v->AVRep (Us w0 U0 D2) w' gD (a9 s2) av v:=fun{av v} h1 h2=>by
  unfold a3G at h1;refine h2.move gY (λh3 h4=>?_) λhR=>?_
  ·rw[h3]at h1;have h1:Nat.ble av.n 1=true:=h1;have:=Nat.le_of_ble_eq_true h1;rcases F7 h4 with h5 | h5
   ·exact .inl h5
   ·unfold RN at h5;omega
  ·rcases hR with⟨r1,r2,r3⟩ | ⟨r1,r2⟩ | ⟨r1,r2⟩
   ·rw[r1]at h1;have h1:Nat.ble av.n 1=true:=h1;have:=Nat.le_of_ble_eq_true h1;rcases F7 r2 with h5 | h5
    ·exact absurd h5 r3
    ·unfold RN at h5;omega
   ·rw[r1]at h1;have h1:l7 (kO post) (hk av)=true:=h1;exact nW h1
   ·rcases r1 with r1 | r1 | r1 | r1<;>(rw[r1]at h1;have h1:l7 (kO post) (hk av)=true:=h1;exact nW h1)
 refine⟨D2,gD,?_,λr v h1 h2=>by rw[<-lX];exact lQ h1 h2,λb o hd=>by rw[qF];exact .inl hd⟩;rw[<-lX]
 have nX:∀{k av g},look s k=some av->l7 (kO post) k=false->n4 k->av.t≠7->hb (hv k)=some g->¬ V.x g:=fun{k av g} h1 h2 h3 h4 h5 hx=>by obtain⟨k',av',f1,f2,f3⟩:=(hVx g).1 hx;refine h.disj k k' av av' g h1 (hp _ _ f1) h3 f2 h4 (kB f1 f2).2.2.1 (λe=>?_) h5 f3;rw[e,kJ (t8 (j5 f1))]at h2;cases h2
 have nY:∀{g},V.x g->∃k av,look s k=some av/\n4 k/\av.t≠7/\av.t≠6/\l7 (kO post) k=true/\hb (hv k)=some g:=fun{g} hx=>by obtain⟨k',av',f1,f2,f3⟩:=(hVx g).1 hx;obtain⟨g1,g2,g3,_⟩:=kB f1 f2;exact⟨k',av',hp _ _ f1,f2,g3,g2,kJ (t8 (j5 f1)),f3⟩
 refine⟨⟨lR.os.trans h.below.os,lR.tape.trans h.below.tape,lR.output.trans h.below.output,Nat.le_trans h.below.size lR.size,λb hb hx=>?_⟩,h.dfr,h.size,λd av h1 h2=>?_,λn o av h1 h2 h3 h4=>?_,λn o o' av av' h1 h2 h3 h4 h5=>?_,λk av h1 h2=>?_,λk av g h1 h2 h3 h4=>?_,λk k' av av' g h1 h2 h3 h4 h5 h6 kF=>?_,λn g h1=>?_,λb o hd=>?_⟩
 ·rw[lY b (Nat.lt_of_lt_of_le hb h.below.size) λhv=>?_]
  ·exact h.below.block b hb hx
  ·obtain⟨k,av,f1,f2,f3,f4,f5,f6⟩:=nY hv;rcases(h.blk k av b f1 f2 f3 f6).1 with f7 | f7
   ·omega
   ·exact hx f7.2
 ·rcases cN h1 with h3 | ⟨h3,h4⟩
  ·have:=(rH h3).1;omega
  ·obtain⟨v,f1,f2⟩:=h.slot d av h4 h2;exact⟨v,f1,cF h4 h3 f2⟩
 ·have bE:=cN h3;rcases cN h1 with h5 | ⟨h5,h6⟩
  ·rcases bE with h7 | ⟨h7,h8⟩
   ·obtain⟨v,f1,f2,f3⟩:=h'.fld n o av h5 h2 h7 h4;refine⟨v,lQ (rH h5).2.2 f1,f2,?_⟩;rw[nW (t8 (j5 h7))];exact f3
   ·rw[(hqf h5 h2).2.2]at h7;cases h7
  ·rcases bE with h7 | ⟨h7,h8⟩
   ·have h8:=(rH h7).1;have pR:=h4;unfold BN at pR;exact(sP h6 h5 h2 (by omega) (by omega) (t8 (j5 h7))).elim
   ·obtain⟨v,f1,f2,f3⟩:=h.fld n o av h6 h2 h8 h4;refine⟨v,cF h6 h5 f1,f2,λi hi=>?_⟩;rw[kR h7];have f4:=f3 i hi;obtain⟨g2,ys,ty2,e1,e2,e3⟩:=h.obj9 h8 h4;rw[e2]at f4 |-;rw[World.cell?_of_block (w:=w) (lY g2 (Array.getElem?_eq_some_iff.1 e3).1 (nX h8 h7 (H4 h4) (by simp) (by rw[e1];rfl)))];exact f4
 ·rcases cN h1 with f1 | ⟨f1,f2⟩
  ·rcases cN h2 with f3 | ⟨f3,f4⟩
   ·exact h'.fdis n o o' av av' f1 f3 h3 h4 h5
   ·obtain⟨g1,g2,g3⟩:=hqf f1 h3;exact(sP f4 f3 h4 g1 g2 g3).elim
  ·rcases cN h2 with f3 | ⟨f3,f4⟩
   ·obtain⟨g1,g2,g3⟩:=hqf f3 h4;exact(sP f2 f1 h3 g1 g2 g3).elim
   ·exact h.fdis n o o' av av' f2 f4 h3 h4 h5
 ·rcases cN h1 with h3 | ⟨h3,h4⟩
  ·rw[nW (t8 (j5 h3))];refine(h'.obj k av h3 h2).move gY (λh5 h6=>?_) λ_ _=>rfl;have h7:=(rH h3).2.2;unfold a3G at h7;rw[h5]at h7;have h7:Nat.ble av.n 1=true:=h7;have:=Nat.le_of_ble_eq_true h7;rcases F7 h6 with h8 | h8
   ·exact⟨.inl h8,by rw[h8];rfl⟩
   ·unfold RN at h8;omega
  ·rw[kR h3];by_cases h7:av.t=7
   ·exact a3A h7
   ·refine(h.obj k av h4 h2).move fC (λh5 h6=>⟨iZ _ h6,?_⟩) λg hg=>lY g (h.blk k av g h4 h2 h7 hg).2.1 (nX h4 h3 h2 h7 hg);unfold J1;by_cases h8:av.n=1
    ·rw[if_pos h8,if_pos h8]
    ·rw[if_neg h8,if_neg h8];rcases h6 with h6 | ⟨e,he⟩
     ·exact absurd h6 h8
     ·rw[kR (kI _ _ he).1]
 ·rcases cN h1 with h5 | ⟨h5,h6⟩
  ·rw[nW (t8 (j5 h5))]at h4 |-;obtain⟨f1,f2,f3⟩:=h'.blk k av g h5 h2 h3 h4;have rS:=(rH h5).2.1;refine⟨?_,f2,λo _ hd=>?_⟩
   ·rcases f1 with f1 | ⟨f1,f4⟩
    ·exact .inl (Nat.le_trans h.below.size f1)
    ·obtain⟨k1,av1,e1,e2,e3,e4,e5,e6⟩:=nY f4;rcases(h.blk k1 av1 g e1 e2 e3 e6).1 with e7 | e7
     ·exact .inl e7
     ·exact .inr ⟨f1,e7.2⟩
   ·rw[qF]at hd;rcases hd with hd | hd
    ·rcases f1 with f1 | ⟨f1,f4⟩
     ·have:=h.dlt _ _ hd;omega
     ·obtain⟨k1,av1,e1,e2,e3,e4,e5,e6⟩:=nY f4;exact(h.blk k1 av1 g e1 e2 e3 e6).2.2 o (λe=>absurd e e4) hd
    ·exact f3 o (λe=>absurd e rS) hd.2
  ·rw[kR h5]at h4 |-;obtain⟨f1,f2,f3⟩:=h.blk k av g h6 h2 h3 h4;refine⟨f1,Nat.lt_of_lt_of_le f2 lR.size,λo ho hd=>?_⟩;rw[qF]at hd;rcases hd with hd | hd
   ·exact f3 o ho hd
   ·omega
 ·have vQ:∀{k k' av av'},look post k=some av->n4 k->av.t≠7->look s k'=some av'->l7 (kO post) k'=false->n4 k'->av'.t≠7->hb (kG k)=some g->hb (hv k')≠some g:=fun{k k' av av'} e1 e2 e3 e4 e5 e6 e7 e8 e9=>by
   rcases(h'.blk k av g e1 e2 e3 e8).1 with f1 | f1
   ·have:=(h.blk k' av' g e4 e6 e7 e9).2.1;omega
   ·exact nX e4 e5 e6 e7 e9 f1.2
  rcases cN h1 with e1 | ⟨e1,e2⟩
  ·rw[nW (t8 (j5 e1))];rcases cN h2 with e3 | ⟨e3,e4⟩
   ·rw[nW (t8 (j5 e3))];exact h'.disj k k' av av' g e1 e3 h3 h4 h5 h6 kF
   ·rw[kR e3];exact vQ e1 h3 h5 e4 e3 h4 h6
  ·rw[kR e1];rcases cN h2 with e3 | ⟨e3,e4⟩
   ·rw[nW (t8 (j5 e3))];exact λf1 f2=>vQ e3 h4 h6 e2 e1 h3 h5 f2 f1
   ·rw[kR e3];exact h.disj k k' av av' g e2 e4 h3 h4 h5 h6 kF
 ·cases e:l7 (kO post) n with
  | false=>rw[kR e];exact h.fix n g h1
  | true =>
   rw[nW e];have h2:=U0.hf n g h1;rw[eU n h2.1 h2.2 (hnb n g h1 e)];exact h.fix n g h1
 ·rw[qF]at hd;rcases hd with hd | hd
  ·exact Nat.lt_of_lt_of_le (h.dlt b o hd) lR.size
  ·exact h'.dlt b o hd.2
def nbB(pre post:List Nat):Bool:=post.all λk=>match Nat.ble 400000 k&&Nat.blt k 500000 with | true=>l7 pre k | false=>true
theorem i8{pre post:List Nat}(h:nbB pre post=true):∀k v,U0.f k=some v->l7 post k=true->l7 pre k=true:=λk v h1 h2=>by
 have h3:=U0.hf k v h1;unfold nbB at h;rw[all_eq_true]at h;have h4:=h _ (A4 h2);rw[Nat.ble_eq_true_of_le h3.1,a8I h3.2]at h4;exact h4
theorem b3z{f:FuncId}{xs:Array Operand}{ts:Array TypeId}{avs:List AV}{r:AV}{pre post:AS}(hg:Gd w0 U0 nt ops o gs S)(hd:o.dst=some d)(hn:Nat.blt d nt=true)(h5:Nat.blt d 100000=true)
  (ho:o.op=.call { callee:=.value (.func f),args:=xs,argTypes:=ts }) (hx:a4m S xs.toList=some avs) (hc:r8 P f pre avs r post) (hp:SubS S pre) (hl:pre.all F5=true) (hq:post.all (G7 (kO post))=true) (jQ:(kO pre).all (l7 (kO post))=true) (hr:a3G (kO post) r=true) (hnb:∀k v,U0.f k=some v->l7 (kO post) k=true->l7 (kO pre) k=true) :
  AOp P w0 U0 nt ops o (gs++(rdl xs.toList++kO pre)) (J6 (kO pre) (kO post) (kO post)) S ((d,r)::post):=by
 intro s hs hN a w ⟨D,hv,h⟩ Q K hK;rw[if_pos (hg s (λk hk=>hs k (mem_append_left _ hk)) a w D hv h)];have hargs:=S9 h (λk hk=>hs k (mem_append_right _ (mem_append_left _ hk))) hx;have kJ:Sub s pre:=λk av h1=>(hs k (mem_append_right _ (mem_append_right _ (j5 h1)))).trans (hp.look h1);obtain⟨V,v1,v2,v3,v4,v5,v6⟩:=h.lend kJ hl;obtain⟨h1,h2⟩:=hc;have kK:=h2 V w hv ⟨#[],[]⟩ _ v1 v2 (hargs.imp λc _ v fU=>fU.move v6 (λ_ h3=>h3.imp id λ⟨e,he⟩=>⟨e,kJ _ _ he.1,he.2⟩) λ_=>rfl);have he:(execOp a.eval o).run P w=.ok (.enter f (xs.toList.map a.eval).toArray) w:=by
  have hf:a.eval (.func f)=.func (.func f) #[] #[]:=rfl;have cW:=h1 (xs.map a.eval) w;have gT:(xs.toList.map a.eval).toArray=xs.map a.eval:=by apply Array.ext';simp
  rw[gT];generalize a.eval=ρ at hf cW |-;simp[execOp,ho,resolve,invoke,Deferred.ofValue,hf,cW]
 unfold Oper.wp;rw[he,Oper.upon_enter];refine kK.mono ?_;rintro e w' ⟨v,D',kG,a',rfl,h6,h7⟩;rw[hd];obtain⟨D2,gD,h8,h9⟩:=h.back kJ hl hq jQ hN hnb v3 v4 v5 v2 h6;exact hK _ _ ⟨D2,gD,h8.put (bL hn) (bL h5) (h9.1 r v hr h7)⟩
theorem zW{P:Program}{w0:World}{U0:UX}{nt:Nat}{ops:Array Oper}{o:Oper}{S:Nat->Option AV}{gs:List Nat}{d:Nat}{f:FuncId}{xs:Array Operand}{ts:Array TypeId}{avs:List AV}{r:AV}{pre:AS}{post:AS}(p:Gd w0 U0 nt ops o gs S:=by exact gN rfl)(q:o.dst=some d:=by exact rfl)(t:Nat.blt d nt=true:=by exact rfl)(u:Nat.blt d 100000=true:=by exact rfl)(x:o.op=.call { callee:=.value (.func f),args:=xs,argTypes:=ts }:=by exact rfl)(y:a4m S xs.toList=some avs:=by exact rfl)(z:r8 P f pre avs r post)(A:SubS S pre:=by repeat (first | exact trivial | refine⟨rfl,?_⟩))(B:pre.all F5=true:=by first | rfl | kernel_rfl)(C:post.all (G7 (kO post))=true:=by first | rfl | kernel_rfl)(E:(kO pre).all (l7 (kO post))=true:=by first | rfl | kernel_rfl)(F:a3G (kO post) r=true:=by first | rfl | kernel_rfl)(G:∀k v,U0.f k=some v->l7 (kO post) k=true->l7 (kO pre) k=true):AOp P w0 U0 nt ops o (gs++(rdl xs.toList++kO pre)) (J6 (kO pre) (kO post) (kO post)) S ((d,r)::post):=b3z p q t u x y z A B C E F G
def D7:List AV->Nat->AS
 | [],_=>[]
 | c::cs,i=>(i,c)::D7 cs (i+1)
theorem x9:∀{cs:List AV} {i k:Nat} {av:AV},look (D7 cs i) k=some av->i<=k/\cs[k-i]?=some av
 | [],_,_,_,h=>by simp[D7,look]at h
 | c::cs,i,k,av,h=>by
  rw[D7,k9]at h;split at h
  ·rename_i e;subst e;cases h;exact⟨Nat.le_refl _,by simp⟩
  ·rename_i e;obtain⟨h1,h2⟩:=x9 h;refine⟨by omega,?_⟩;rw[show k-i=(k-(i+1))+1 by omega];simpa using h2
noncomputable def b6L(P:Program)(s:AS)(rs:List ResultVar):Option AV:=match rs with
 | [.tmp t]=>match Nat.blt t 100000,look s t with
  | true,some ⟨0,c,_,_,_⟩=>some (.val c)
  | true,some av=>some av
  | _,_=>none
 | rs=>match b1u P s rs with | some cs=>some (O4 cs) | none=>none
theorem S3(h:SimG w0 U0 nt s a w D hv){fn:Func}{r:AV}(hr:b6L P s fn.results.toList=some r):∃v,(results fn a.tmps).run P w=.ok v w/\AVRep (Us w0 U0 D) w hv (a9 s) r v:=by
 unfold b6L at hr;split at hr
 ·rename_i t ht;have iB:fn.results = #[.tmp t]:=by apply Array.ext';simpa using ht
  have jR:∀v,a.tmps[t]?=some v->(results fn a.tmps).run P w=.ok v w:=λv hv=>by rw[a5b,iB];simp[b9y,Array.getD_eq_getD_getElem?,hv]
  split at hr
  ·rename_i c n q p h1 h2;cases hr;obtain⟨v,h3,h4⟩:=h.slot t _ h2 (bL h1);exact⟨v,jR v h3,n9 h4.1⟩
  ·rename_i av h1 h2;cases hr;obtain⟨v,h3,h4⟩:=h.slot t _ h2 (bL h1);exact⟨v,jR v h3,h4⟩
  ·cases hr
 ·split at hr
  ·rename_i cs h1;cases hr;obtain⟨v,h2,h3⟩:=a9c h h1;refine⟨v,h2,S7 ?_ ?_ h3⟩
   ·unfold O4;split
    ·exact .inl rfl
    ·exact .inr rfl
   ·unfold O4;split<;>rfl
  ·cases hr
def c1I(P:Program)(w0:World)(U0:UX)(nt:Nat)(fn:Func)(s:AS)(r:AV)(post:AS):Prop:=∃s',Wk w0 U0 nt s s'/\b6L P s' fn.results.toList=some r/\SubL s' post
theorem l6 {f : FuncId} {fn : Func} {c : Code} {pre post : AS} {args : List AV} {r : AV} (hf : P.funcs[f]? = some fn) (hn : fn.ntmps = nt) (gM : (fn.name == "runtime.NumGoroutine") = false) (hb : fn.body = some c) (hl : Nat.ble args.length nt = true) (cG : Nat.blt nt 100000 = true) (gB : (kO pre).all (Nat.ble 100000) = true) (kS : (kO post).all (Nat.ble 100000) = true)
  (h:∀(w:World) (U:UX),(∀k v,U.f k=some v->l7 (kO pre) k=true)->AWp P w U nt c (λe s'=>(e=.normal\/e=.ret)/\c1I P w U nt fn s' r post) (D7 args 0++pre)):r8 P f pre args r post:=by
 refine⟨x0 hf gM (by rw[hb];rfl),λU w hv a0 vs hU gE hargs=>?_⟩;have kD:=hargs.len;refine calls_of_wp hf hb ?_;have cS:=Nat.le_of_ble_eq_true hl;have cG:=bL cG;have kV:∀{k av},look pre k=some av->100000<=k:=fun{k av} h1=>by rw[all_eq_true]at gB;exact Nat.le_of_ble_eq_true (gB k (j5 h1))
 have kB:∀{k},100000<=k->look (D7 args 0++pre) k=look pre k:=fun{k} h1=>by
  rw[d8];cases h2:look (D7 args 0) k with
  | none=>rfl
  | some av =>
   obtain⟨_,h3⟩:=x9 h2;rw[Nat.sub_zero,getElem?_eq_none (by omega)]at h3;cases h3
 have kI:a9 (D7 args 0++pre)=a9 pre:=by
  funext n;unfold a9 v8;apply propext;constructor
  ·rintro(h1 | ⟨e,h1,h2,h3⟩)
   ·exact .inl h1
   ·rw[kB (by omega)]at h1;exact .inr ⟨e,h1,h2,h3⟩
  ·rintro(h1 | ⟨e,h1,h2,h3⟩)
   ·exact .inl h1
   ·exact .inr ⟨e,by rw[kB (by omega)];exact h1,h2,h3⟩
 have hs:Sim w U nt (D7 args 0++pre) { tmps:=vs.toArray++Array.replicate (fn.ntmps-vs.toArray.size) undef,defers:=[] } w:=by
  refine⟨λ_ _=>False,hv,gE.below,rfl,by simp[hn];omega,λd av h1 h2=>?_,λn o av h1 h2 h3 h4=>?_,λn o o' av av' h1 h2=>?_,λk av h1 h2=>?_,λk av g h1 h2=>?_,λk k' av av' g h1 h2 h3 h4=>?_,gE.fix,λb o hd=>hd.elim⟩
  ·rw[d8]at h1;cases h3:look (D7 args 0) d with
   | none =>
    rw[h3]at h1;have:=kV h1;omega
   | some av' =>
    rw[h3]at h1;cases h1;obtain⟨_,h4⟩:=x9 h3;rw[Nat.sub_zero]at h4;obtain⟨v,h6,h7⟩:=hargs.at h4;have hdl:d<vs.length:=by
     rcases Nat.lt_or_ge d vs.length with h | h
     ·exact h
     ·rw[getElem?_eq_none h]at h6;cases h6
    rw[kI];refine⟨v,?_,h7⟩;rw[Array.getElem?_append_left (by simpa using hdl)];simpa using h6
  ·rw[kB (by unfold i7;omega)]at h1;rw[kB (by omega)]at h3;rw[kI];exact gE.fld n o av h1 h2 h3 h4
  ·rw[kB (by unfold i7;omega)]at h1 h2;exact gE.fdis n o o' av av' h1 h2
  ·rw[kB h2.1]at h1;rw[kI];exact gE.obj k av h1 h2
  ·rw[kB h2.1]at h1;exact gE.blk k av g h1 h2
  ·rw[kB h3.1]at h1;rw[kB h4.1]at h2;exact gE.disj k k' av av' g h1 h2 h3 h4
 refine wp_mono ((h w U hU ⟨none,[]⟩ _ w hs).wp rfl (λe a w ⟨s,_,h⟩=>h.df)) ?_;rintro e a' w' ⟨s',⟨h1,s2,g1,g2,g3⟩,h3⟩;obtain⟨D',kG,h4⟩:=g1 a' w' h3;obtain⟨v,h5,h6⟩:=S3 h4 g2;have hS:=h4.sub g3.sub;have gW:∀{k av},look post k=some av->100000<=k:=fun{k av} h1=>by rw[all_eq_true]at kS;exact Nat.le_of_ble_eq_true (kS k (j5 h1))
 have jS:SimG w U 0 post ⟨#[],[]⟩ w' D' kG:=⟨hS.below,rfl,rfl,λd av h7 h8=>by have:=gW h7;omega,hS.fld,hS.fdis,hS.obj,hS.blk,hS.disj,hS.fix,hS.dlt⟩
 rcases h1 with rfl | rfl
 ·exact⟨h4.dfr,v,h5,v,D',kG,_,rfl,jS,h6.move (λ_ _ _ h1 h2=>⟨h1,h2⟩) (λ_ h7=>h7.imp id λ⟨e,he⟩=>⟨e,g3.sub _ _ he.1,he.2⟩) λ_=>rfl⟩
 ·exact⟨h4.dfr,v,h5,v,D',kG,_,rfl,jS,h6.move (λ_ _ _ h1 h2=>⟨h1,h2⟩) (λ_ h7=>h7.imp id λ⟨e,he⟩=>⟨e,g3.sub _ _ he.1,he.2⟩) λ_=>rfl⟩
end
def Y5(P:Program)(e:TypeId):Option CV:=match P.info? e with
 | some it=>match it.zero with
  | some (.agg cs)=>match P.underlying e with
   | some (.struct fs)=>match szO P fs.toList 0 with
    | some sz=>match zsO sz cs.toList with | some zs=>some (.row zs) | none=>none
    | none=>none
   | _=>none
  | some v=>match Q1 v with | true=>some (T3 v) | false=>none
  | none=>none
 | none=>none
theorem N8{P:Program}{e:TypeId}{c:CV}(h:Y5 P e=some c):∃it z,P.info? e=some it/\it.zero=some z/\∀U w,Rep U w c z.cells.toList:=by
 unfold Y5 at h;split at h
 ·rename_i it hi;split at h
  ·rename_i cs hz;refine⟨it,_,hi,hz,λU w=>?_⟩;split at h
   ·split at h
    ·split at h
     ·rename_i zs h0;cases h;obtain⟨segs,e1,e2,e3,e4,e5⟩:=H9 (U:=U) (w:=w) h0;rw[J0];show Sq _ cs.toList;rw[<-e1];exact J8 e4 (λi c hi=>by obtain⟨seg,f1,f2,_⟩:=e5 i c hi;exact⟨seg,f1,f2⟩)
     ·cases h
    ·cases h
   ·cases h
  ·rename_i v hz hv;refine⟨it,_,hi,hv,λU w=>?_⟩;split at h
   ·rename_i hp;cases h;have:=a0u U w v hp;have hc:v.cells = #[v]:=by
     cases v with
     | agg cs=>exact absurd rfl (hz cs)
     | _=>rfl
    rw[hc];exact this
   ·cases h
  ·cases h
 ·cases h
section
variable{P:Program}{w0:World}{U0:UX}{nt:Nat}{ops:Array Oper}{o:Oper}{S:Nat->Option AV}{gs:List Nat}{d:Nat}{s:AS}{a:Act}{w:World}{D:Nat->Nat->Prop}{hv:Nat->Value}
theorem a8D{U:Nat->Nat->Prop}{c:CV}{xs:List Value}(h:Rep U w c xs):∀k,Sq ((List.replicate k c).map λc=>Rep U w c) (List.replicate k xs).flatten
 | 0=>rfl
 | k+1=>⟨_,_,rfl,h,a8D h k⟩
theorem J4{v:Value}{k cap:Nat}{ao:Option Addr}{z:Nat}(h:v=.slice ao k cap)(hk:k<=cap)(hg:ao=none\/∃g,ao=some ⟨g,0,none⟩):SlV v 0 k z v:=by
 refine⟨ao,k,cap,ao,h,by rw[h];rfl,by omega,λ_=>rfl,λ_ g e=>by rw[Nat.zero_mul];exact e,Iff.rfl⟩
theorem a5j{e z:Nat}{v:Value}{k:Nat}{xs:List Value}(h:w.ownsRow 0 e z v k xs):∃ao cap,v=.slice ao k cap/\k<=cap/\(ao=none\/∃g,ao=some ⟨g,0,none⟩):=by
 rcases h.2 with⟨rfl,rfl⟩ | ⟨g,cap,cur,rfl,_,h3,h4,h5,h6,h7⟩
 ·exact⟨none,0,rfl,Nat.le_refl _,.inl rfl⟩
 ·exact⟨_,cap,rfl,h4,.inr ⟨g,rfl⟩⟩
theorem b4v{Q:Exit->Act->World->Prop}{K:Act->World->Prop}(h:SimG w0 U0 nt s a w D hv){n e size bytes:Nat}{z:Value}{t:TypeId}(hd:o.dst=some d)(eD:d<nt)(h5:d<100000)(hn:RW n)(hr:W6 s n){x y:Operand}(ho:o.op=.call { callee:=.builtin .append,args := #[x,y],argTypes := #[t,t] })
  (ht:P.underlying t=some (.slice e)) (hi:(P.info? e).map (λi=>(i.zero,i.size,i.bytes))=some (some z,size,bytes)) (bP:z.cells.size=size) (kC:0<size) (dP:bytes<=1000)
  {l l2:List CV} (hl:∀c∈l,c.size=size) (kM:∀c∈l2,c.size=size) (bR:l.length+l2.length<=100000000000)
  {v:Value} (hx:a.eval x=v) (hy:VRep (Us w0 U0 D) w (.lst l2) (a.eval y)) {xs:List Value} (kU:w.ownsRow 0 e size v l.length xs) (sI:Sq (l.map λc=>Rep (Us w0 U0 D) w c) xs)
  (hroom:∀g,v.ownBlock=some g->Mn w0 U0 (lcl n (.mrow e size (l++l2))) g/\(∀o,¬ D g o)/\∀q av,look s q=some av->n4 q->av.t≠7->q≠n->hb (hv q)≠some g)
  (hK:∀a' w',Sim w0 U0 nt ((d,.sl n 0 (l.length+l2.length) size)::(n,.mrow e size (l++l2))::s) a' w'->K a' w'):o.wp P a w K Q:=by
 obtain⟨ao2,m,c2,g1,g2,g3,g4,g6,ys2,g7,g8⟩:=l5.1 hy;have jJ:ys2.length=m*size:=by rw[B0 (n:=CV.size) (λc _ xs h=>h.len) g8,s5 kM,g2]
 have nE:(l.length+m)*bytes<=100000000000*1000:=Nat.mul_le_mul (by omega) dP;obtain⟨v',w',r1,r2,r3,r4⟩:=b3F (P:=P) (ty:=o.type) ht hi bP kC (Nat.zero_le _) kU g6 g7 jJ (G3 g8) (by unfold maxLen;omega) (by omega);have cR:∀{u:Value} {k xs} {w:World},w.ownsRow 0 e size u k xs->hb u=u.ownBlock:=fun{u k xs w} h1=>by rcases h1.2 with⟨rfl,rfl⟩ | ⟨g,cap,cur,rfl,_⟩<;>rfl
 have gL:=cR r2;have bC:∀b o u,Us w0 U0 D b o->w.cell? ⟨b,o,none⟩=some u->Us w0 U0 D b o/\w'.cell? ⟨b,o,none⟩=some u:=λb o u hu hc=>by
  refine⟨hu,?_⟩;have kA:b<w.heap.size:=World.block_lt_of_cell? w _ hc;have hnb:some b≠v.ownBlock:=λe=>by obtain⟨f1,f2,_⟩:=hroom b e.symm;exact a3s hu f1 (f2 o) rfl
  rw[World.cell?_of_block (w:=w) (r3.block b kA hnb)];exact hc
 have hG:=h.newrow (avn:=.mrow e size (l++l2)) (v':=v') (D':=D) (X:=λb=>v.ownBlock=some b) hn hr (by simp) ⟨r3.os,r3.tape,r3.output,r3.size,λb hb hx=>r3.block b hb λe=>hx e.symm⟩ (λb hb=>⟨(hroom b hb).1,(hroom b hb).2.2⟩) (λg hg=>by
   rw[gL]at hg;refine⟨?_,(r2.lt g hg).2,λo _ hd=>?_⟩
   ·rcases r4 with r4 | ⟨_,r4⟩
    ·exact .inl (r4▸hg)
    ·exact .inr (r4 g hg)
   ·rcases r4 with r4 | ⟨_,r4⟩
    ·exact(hroom g (r4▸hg)).2.1 o hd
    ·have:=r4 g hg;have:=h.dlt _ _ hd;omega) (λb o hd => .inl hd) (λb o hd=>Nat.lt_of_lt_of_le (h.dlt _ _ hd) r3.size) bC (λhv lv=>by
   refine⟨xs++ys2,?_,kC,λc hc=>?_,?_⟩
   ·show w'.ownsRow 0 e size v' (l++l2).length (xs++ys2);rw[length_append,<-g2];exact r2
   ·rcases mem_append.1 hc with hc | hc
    ·exact hl c hc
    ·exact kM c hc
   ·show Sq ((l++l2).map _) _;rw[map_append];exact y8 (Sq.keep bC sI) (Sq.keep bC g8))
 have he:(execOp a.eval o).run P w=.ok (.value v') w':=by generalize a.eval=ρ at hx g1 |-;simp[execOp,ho,resolve,invoke,builtin,hx,g1,r1,Result.andThen]
 unfold Oper.wp;rw[he,Oper.upon_value,hd];refine hK _ _ ⟨_,_,hG.put eD h5 ?_⟩;refine⟨hn.rn,?_⟩;obtain⟨a1,c1,e1,e2,e3⟩:=a5j r2;have:=J4 (z:=size) e1 e2 e3;show SlV ((λx=>if x=n then v' else hv x) n) 0 (l.length+l2.length) size v';simp only[if_true];rw[<-g2];exact this
theorem c1t(nn:Nat)(hg:Gd w0 U0 nt ops o gs S)(hd:o.dst=some d)(hn:Nat.blt d nt=true)(h5:Nat.blt d 100000=true){x y:Operand}{t e size bytes:Nat}{z:Value}{l2:List CV}{n q n2 q2 p2}(ho:o.op=.call { callee:=.builtin .append,args := #[x,y],argTypes := #[t,t] })(ht:P.underlying t=some (.slice e))(hi:(P.info? e).map (λi=>(i.zero,i.size,i.bytes))=some (some z,size,bytes))(bP:Nat.beq z.cells.size size=true)(kC:Nat.blt 0 size=true)(dP:Nat.ble bytes 1000=true)
  (hx:ev S x=some ⟨0,.lst [],n,q,[]⟩) (hy:ev S y=some ⟨0,.lst l2,n2,q2,p2⟩) (iM:(Nat.ble 200000 n&&Nat.blt n 400000)=true) (bH:(Nat.ble 200000 nn&&Nat.blt nn 400000)=true) (kF:Nat.beq n nn=false) (bU:S n=some (.tok e size)) (kM:∀c∈l2,c.size=size) (bR:l2.length<=100000000000) :
  AOp P w0 U0 nt ops o (gs++(rd x++(rd y++[n]))) [(nn,[])] S [(d,.sl nn 0 l2.length size),(nn,.mrow e size l2),(n,.no)]:=by
 intro s hs hN a w ⟨D,hv,h⟩ Q K hK;rw[if_pos (hg s (λk hk=>hs k (mem_append_left _ hk)) a w D hv h)];obtain⟨h1,h2⟩:VRep (Us w0 U0 D) w (.lst []) (a.eval x)/\Tk hv (a9 s) ⟨0,.lst [],n,q,[]⟩ (a.eval x).cells.toList:=n5 h (λk hk=>hs k (mem_append_right _ (mem_append_left _ hk))) hx;have h3:=A7 h (λk hk=>hs k (mem_append_right _ (mem_append_right _ (mem_append_left _ hk)))) hy;have kN:=rnB iM;have dV:=rnB bH;have kH:n4 n:=⟨by omega,by omega⟩
 have kB:=(hs n (by simp)).trans bU;have kI:v8 s n (e,size):=⟨kB,kN.1,kN.2⟩
 have hval:a.eval x=hv n:=by obtain⟨m,c,g1,g2⟩:=h2 (.inr ⟨_,kI⟩);simp only at g1;rw[S2]at g1;cases g1;obtain⟨ao,k,c,e1,_⟩:=l5.1 h1;unfold J1 at g2;rw[if_neg (by show n≠1;omega)]at g2;rw[e1]at g2 |-;simpa[Value.cells]using g2
 obtain⟨k,xs,g1,g2⟩:∃k xs,w.ownsRow 0 e size (hv n) k xs/\0<size:=h.obj n _ kB kH;have cR:hb (hv n)=(hv n).ownBlock/\lenOf (hv n)=k:=by
  rcases g1.2 with⟨e1,e2⟩ | ⟨g,cap,cur,e1,_⟩
  ·rw[e1,e2];exact⟨rfl,rfl⟩
  ·rw[e1];exact⟨rfl,rfl⟩
 have pB:k=0:=by obtain⟨ao,k',c,e1,e2,_⟩:=l5.1 h1;rw[hval]at e1;rw[e1]at cR;have:k'=k:=cR.2;rw[<-this,e2];rfl
 subst pB;have jT:xs=[]:=eq_nil_of_length_eq_zero (by simpa using g1.1);subst jT;have vC:n≠nn:=λe=>by rw[e,Nat.beq_refl]at kF;cases kF
 refine b4v (l:=[]) (n:=nn) (h.kill kH) hd (bL hn) (bL h5) dV (λk av hk=>?_) ho ht hi (Nat.eq_of_beq_eq_true bP) (bL kC) (Nat.le_of_ble_eq_true dP) (λc hc=>by cases hc) kM (by simpa using bR) hval h3 g1 rfl (λg hg=>?_) (λa' w' gC=>hK a' w' ?_)
 ·by_cases e:n=k
  ·subst e;rw[lS]at hk;cases hk;refine⟨by show 0≠_;omega,?_⟩;have dQ:fnm n=100000:=by
    unfold fnm;have:Nat.ble 500000 n=false:=by
     cases hb:Nat.ble 500000 n with
     | false=>rfl
     | true=>have:=Nat.le_of_ble_eq_true hb;omega
    rw[this]
   rw[dQ];omega
  ·rw[lN e]at hk;exact(hN (nn,[]) (by simp)).nr k av hk
 ·rw[<-cR.1]at hg;obtain⟨f1,f2,f3⟩:=h.blk n _ g kB kH (by simp) hg;rw[N9 rfl]at f1;refine⟨?_,λo=>f3 o λ_=>?_,λq av h6 h7 h8 h9=>?_⟩
  ·rcases f1 with f1 | f1
   ·exact .inl f1
   ·exact absurd rfl f1.1
  ·rw[cR.2];simp
  ·have hq:n≠q:=λe=>by subst e;rw[lS]at h6;cases h6;exact h8 rfl
   rw[lN hq]at h6;exact h.disj n q _ av g kB h6 kH h7 (by simp) h8 hq hg
 ·simpa using gC
theorem zV{P:Program}{w0:World}{U0:UX}{nt:Nat}{ops:Array Oper}{o:Oper}{S:Nat->Option AV}{gs:List Nat}{d:Nat}{x:Operand}{y:Operand}{t:Nat}{e:Nat}{size:Nat}{bytes:Nat}{z:Value}{l2:List CV}{n}{q}{n2}{q2}{p2}(nn:Nat)(p:Gd w0 U0 nt ops o gs S:=by exact gN rfl)(r:o.dst=some d:=by exact rfl)(u:Nat.blt d nt=true:=by exact rfl)(v:Nat.blt d 100000=true:=by exact rfl)(A:o.op=.call { callee:=.builtin .append,args := #[x,y],argTypes := #[t,t] }:=by exact rfl)(B:P.underlying t=some (.slice e):=by exact rfl)(C:(P.info? e).map (λi=>(i.zero,i.size,i.bytes))=some (some z,size,bytes):=by exact rfl)(E:Nat.beq z.cells.size size=true:=by exact rfl)(F:Nat.blt 0 size=true:=by exact rfl)(G:Nat.ble bytes 1000=true:=by exact rfl)(H:ev S x=some ⟨0,.lst [],n,q,[]⟩:=by exact rfl)(hy:ev S y=some ⟨0,.lst l2,n2,q2,p2⟩:=by exact rfl)(iM:(Nat.ble 200000 n&&Nat.blt n 400000)=true:=by exact rfl)(bH:(Nat.ble 200000 nn&&Nat.blt nn 400000)=true:=by exact rfl)(kF:Nat.beq n nn=false:=by exact rfl)(bU:S n=some (.tok e size):=by exact rfl)(kM:∀c∈l2,c.size=size:=by first | assumption | exact sZ rfl | exact Tm.size_all _ | exact Bd.size_all _ | exact n8 _ | exact bys_size _ | exact Lt.size_all _)(bR:l2.length<=100000000000:=by first | omega | (simp only[length_map,length_append,length_cons,length_nil]<;>omega) | (simp<;>omega)):AOp P w0 U0 nt ops o (gs++(rd x++(rd y++[n]))) [(nn,[])] S [(d,.sl nn 0 l2.length size),(nn,.mrow e size l2),(n,.no)]:=c1t nn p r u v A B C E F G H hy iM bH kF bU kM bR
theorem c3e(nn:Nat)(hg:Gd w0 U0 nt ops o gs S)(hd:o.dst=some d)(hn:Nat.blt d nt=true)(h5:Nat.blt d 100000=true){x y:Operand}{t e size bytes:Nat}{z:Value}{l l2:List CV}{n len n2 q2 p2}(ho:o.op=.call { callee:=.builtin .append,args := #[x,y],argTypes := #[t,t] })(ht:P.underlying t=some (.slice e))(hi:(P.info? e).map (λi=>(i.zero,i.size,i.bytes))=some (some z,size,bytes))(bP:Nat.beq z.cells.size size=true)(dP:Nat.ble bytes 1000=true)
  (hx:ev S x=some (.sl n 0 len size)) (hy:ev S y=some ⟨0,.lst l2,n2,q2,p2⟩) (bH:(Nat.ble 200000 nn&&Nat.blt nn 400000)=true) (kF:(!Nat.beq n nn&&(Nat.blt n 300000||Nat.ble 300000 nn))=true) (bU:S n=some (.mrow e size l)) (kD:len=l.length) (kM:∀c∈l2,c.size=size) (bR:l.length+l2.length<=100000000000) :
  AOp P w0 U0 nt ops o (gs++(rd x++(rd y++[n]))) [(nn,[])] S [(d,.sl nn 0 (l.length+l2.length) size),(nn,.mrow e size (l++l2)),(n,.no)]:=by
 intro s hs hN a w ⟨D,hv,h⟩ Q K hK;rw[if_pos (hg s (λk hk=>hs k (mem_append_left _ hk)) a w D hv h)];obtain⟨kN,dN⟩:RN n/\SlV (hv n) 0 len size (a.eval x):=n5 h (λk hk=>hs k (mem_append_right _ (mem_append_left _ hk))) hx;have h3:=A7 h (λk hk=>hs k (mem_append_right _ (mem_append_right _ (mem_append_left _ hk)))) hy;have dV:=rnB bH;have fV:=kN;unfold RN at fV;have kH:n4 n:=⟨by omega,by omega⟩
 have kB:=(hs n (by simp)).trans bU;obtain⟨xs,g1,g2,g3,g4⟩:=h.mrow kB kN;have hval:a.eval x=hv n:=by obtain⟨ao,m,cap,ao',e1,e2,e3,e4,_⟩:=dN;obtain⟨ao2,cap2,f1,f2,f3⟩:=a5j g1;rw[f1]at e1 |-;injection e1 with e5 e6 e7;subst e5;subst e6;subst e7;rw[e2,e4 rfl,kD];rfl
 have cR:hb (hv n)=(hv n).ownBlock:=by
  rcases g1.2 with⟨e1,e2⟩ | ⟨g,cap,cur,e1,_⟩
  ·rw[e1];rfl
  ·rw[e1];rfl
 rw[Bool.and_eq_true,Bool.or_eq_true]at kF;have vC:n≠nn:=λe=>by rw[e,Nat.beq_refl]at kF;exact absurd kF.1 (by decide)
 refine b4v (l:=l) (n:=nn) (h.kill kH) hd (bL hn) (bL h5) dV (λk av hk=>?_) ho ht hi (Nat.eq_of_beq_eq_true bP) g2 (Nat.le_of_ble_eq_true dP) g3 kM bR hval h3 g1 g4 (λg hg=>?_) (λa' w' gC=>hK a' w' gC)
 ·by_cases e:n=k
  ·subst e;rw[lS]at hk;cases hk;refine⟨by show 0≠_;omega,?_⟩;have dQ:fnm n=100000:=by
    unfold fnm;have:Nat.ble 500000 n=false:=by
     cases hb:Nat.ble 500000 n with
     | false=>rfl
     | true=>have:=Nat.le_of_ble_eq_true hb;omega
    rw[this]
   rw[dQ];omega
  ·rw[lN e]at hk;exact(hN (nn,[]) (by simp)).nr k av hk
 ·rw[<-cR]at hg;obtain⟨f1,f2,f3⟩:=h.blk n _ g kB kH (by simp) hg;refine⟨?_,λo=>f3 o (λe=>by cases e),λq av h6 h7 h8 h9=>?_⟩
  ·rcases f1 with f1 | f1
   ·exact .inl f1
   ·rcases kF.2 with h6 | h6
    ·rw[a2e (bL h6)]at f1;exact absurd rfl f1.1
    ·exact .inr ⟨by rw[Q5 (Nat.le_of_ble_eq_true h6)];simp,f1.2⟩
  ·have hq:n≠q:=λe=>by subst e;rw[lS]at h6;cases h6;exact h8 rfl
   rw[lN hq]at h6;exact h.disj n q _ av g kB h6 kH h7 (by simp) h8 hq hg
theorem zba{P:Program}{w0:World}{U0:UX}{nt:Nat}{ops:Array Oper}{o:Oper}{S:Nat->Option AV}{gs:List Nat}{d:Nat}{x:Operand}{y:Operand}{t:Nat}{e:Nat}{size:Nat}{bytes:Nat}{z:Value}{l:List CV}{l2:List CV}{n}{len}{n2}{q2}{p2}(nn:Nat)(p:Gd w0 U0 nt ops o gs S:=by exact gN rfl)(r:o.dst=some d:=by exact rfl)(u:Nat.blt d nt=true:=by exact rfl)(v:Nat.blt d 100000=true:=by exact rfl)(A:o.op=.call { callee:=.builtin .append,args := #[x,y],argTypes := #[t,t] }:=by exact rfl)(B:P.underlying t=some (.slice e):=by exact rfl)(C:(P.info? e).map (λi=>(i.zero,i.size,i.bytes))=some (some z,size,bytes):=by exact rfl)(E:Nat.beq z.cells.size size=true:=by exact rfl)(F:Nat.ble bytes 1000=true:=by exact rfl)(G:ev S x=some (.sl n 0 len size):=by exact rfl)(H:ev S y=some ⟨0,.lst l2,n2,q2,p2⟩:=by exact rfl)(bH:(Nat.ble 200000 nn&&Nat.blt nn 400000)=true:=by exact rfl)(kF:(!Nat.beq n nn&&(Nat.blt n 300000||Nat.ble 300000 nn))=true:=by exact rfl)(bU:S n=some (.mrow e size l):=by exact rfl)(kD:len=l.length:=by first | rfl | omega | (simp only[length_set,length_map,length_append,length_cons,length_nil]<;>omega) | (simp<;>omega))(kM:∀c∈l2,c.size=size:=by first | assumption | exact sZ rfl | exact Tm.size_all _ | exact Bd.size_all _ | exact n8 _ | exact bys_size _ | exact Lt.size_all _)(bR:l.length+l2.length<=100000000000:=by first | omega | (simp only[length_map,length_append,length_cons,length_nil]<;>omega) | (simp<;>omega)):AOp P w0 U0 nt ops o (gs++(rd x++(rd y++[n]))) [(nn,[])] S [(d,.sl nn 0 (l.length+l2.length) size),(nn,.mrow e size (l++l2)),(n,.no)]:=c3e nn p r u v A B C E F G H bH kF bU kD kM bR
theorem b8w(hg:Gd w0 U0 nt ops o gs S)(hd:o.dst=none){x:Operand}{t e e':TypeId}{ts:Array TypeId}{n lo len z:Nat}{l:List CV}{zc:CV}(ho:o.op=.call { callee:=.builtin .clear,args := #[x],argTypes:=ts })(ht:ts[0]?=some t)(hu:P.underlying t=some (.slice e))(nZ:Y5 P e=some zc)(hx:ev S x=some (.sl n lo len z))(bS:S n=some (.mrow e' z l))(rI:zc.size=z)(hl:lo+len<=l.length) :
  AOp P w0 U0 nt ops o (gs++(rd x++[n])) [] S [(n,.mrow e' z (l.take lo++(List.replicate len zc++l.drop (lo+len))))]:=by
 intro s hs hN a w ⟨D,hv,h⟩ Q K hK;rw[if_pos (hg s (λk hk=>hs k (mem_append_left _ hk)) a w D hv h)];have hm:=(hs n (by simp)).trans bS;obtain⟨kN,ao,m,cap,ao',h1,h2,h3,h4,h6,h7⟩:RN n/\SlV (hv n) lo len z (a.eval x):=n5 h (λk hk=>hs k (mem_append_right _ (mem_append_left _ hk))) hx;obtain⟨xs,g1,g2,g3,g4⟩:=h.mrow hm kN;obtain⟨it,zv,i1,i2,i3⟩:=N8 nZ;by_cases vR:len=0
 ·subst vR;have he:(execOp a.eval o).run P w=.ok (.value (.tuple #[])) w:=by generalize a.eval=ρ at h2 |-;cases ao'<;>simp[execOp,ho,resolve,invoke,builtin,Builtin.clear_,ht,h2,run_underlying hu]
  unfold Oper.wp;rw[he,Oper.upon_value,hd];have:l.take lo++(List.replicate 0 zc++l.drop (lo+0))=l:=by simp
  refine hK _ _ ⟨D,hv,h.congr λk=>?_⟩;rw[this];by_cases e:n=k
  ·subst e;rw[cons_append,lS];exact hm.symm
  ·rw[cons_append,lN e];rfl
 obtain⟨g,cap',cur,f1,f2,f3,f4,f6,f7,f8,f9⟩:=Z8 g1 (by omega);obtain rfl:cap=cap':=by rw[f1]at h1;injection h1 with k1 k2 k3;exact k3.symm
 obtain rfl:ao=some ⟨g,0,none⟩:=by rw[f1]at h1;injection h1 with k1 k2 k3;exact k1.symm
 have ha:ao'=some ⟨g,lo*z,none⟩:=h6 (by omega) g rfl;subst ha;have qG:zv.cells.size=z:=by have:=(i3 (λ_ _=>True) w).len;rw[rI]at this;simpa using this
 obtain⟨zs,bP⟩:∃zs,zs=(List.replicate len zv.cells.toList).flatten:=⟨_,rfl⟩
 have cU:zs.length=len*z:=by rw[bP];simp[qG]
 have hzc2:(Builtin.zeroCells zv.cells len).toList=zs:=by
  rw[bP];apply ext_getElem?;intro k;rw[O5 g2 _ (by intro v kG;rw[List.mem_replicate]at kG;rw[kG.2];simpa using qG)];unfold Builtin.zeroCells;rw[qG];by_cases hk:k<len*z
  ·have e1:k / z<len:=(Nat.div_lt_iff_lt_mul g2).2 hk;have e2:k % z<zv.cells.size:=by rw[qG];exact Nat.mod_lt _ g2
   simp[hk,getElem?_replicate,e1,e2]
  ·have e1:¬ k / z<len:=by rw[Nat.div_lt_iff_lt_mul g2];exact hk
   simp[hk,getElem?_replicate,e1]
 have dT:∀v∈zs,v.oneCell'=true:=by intro v kG;rw[bP,List.mem_flatten]at kG;obtain⟨r,iP,jC⟩:=kG;rw[List.mem_replicate]at iP;rw[iP.2]at jC;exact(i3 (λ_ _=>True) w).one v jC
 have eF:lo*z+len*z<=l.length*z:=by rw[<-Nat.add_mul];exact Nat.mul_le_mul_right _ hl
 have qH:l.length*z<=cap*z:=Nat.mul_le_mul_right _ f3;have dJ:=run_storeCells_at (P:=P) g (lo*z) e' zs 0 cur w f2 (by rw[cU,f6];omega) dT;rw[Nat.add_zero]at dJ;have he:(execOp a.eval o).run P w=.ok (.value (.tuple #[])) (w.setRow g (cur.toList.take (lo*z)++zs++cur.toList.drop (lo*z+zs.length)).toArray):=by
  have sQ:(zeroValue e).run P w=.ok zv w:=by simp[zeroValue,typeInfo,i1,i2]
  obtain⟨len',rfl⟩:∃k,len=k+1:=⟨len-1,by omega⟩
  generalize a.eval=ρ at h2 |-;simp[execOp,ho,resolve,invoke,builtin,Builtin.clear_,ht,h2,run_underlying hu,sQ,hzc2,dJ]
 unfold Oper.wp;rw[he,Oper.upon_value,hd];have kH:n4 n:=by unfold RN at kN;unfold n4;omega
 obtain⟨l',cB⟩:∃l',l'=l.take lo++(List.replicate len zc++l.drop (lo+len)):=⟨_,rfl⟩
 have cZ:l'.length=l.length:=by rw[cB];simp;omega
 refine hK _ _ ?_;rw[<-cB];refine⟨_,_,h.store (av:=.mrow e' z l') kH hm (by simp) (by simp) rfl (λg' hn o _=>hn o (by simp)) (by simp) f9 f2 λw' hw bC=>?_⟩;have gU:l=l.take lo++((l.drop lo).take len++(l.drop lo).drop len):=by rw[take_append_drop,take_append_drop]
 have g4':=g4;rw[gU,map_append,map_append]at g4';obtain⟨y1,r1,e1,s1,s2⟩:=y5 g4';obtain⟨y2,y3,e2,s3,s4⟩:=y5 s2;have lT:y1.length=lo*z:=by rw[B0 (n:=CV.size) (λc _ xs h=>h.len) s1,s5 (λc hc=>g3 c (mem_of_mem_take hc)),length_take,Nat.min_eq_left (by omega)]
 have iG:y2.length=len*z:=by rw[B0 (n:=CV.size) (λc _ xs h=>h.len) s3,s5 (λc hc=>g3 c (List.mem_of_mem_drop (mem_of_mem_take hc))),length_take,List.length_drop,Nat.min_eq_left (by omega)]
 have hy3:y1.length+(y2.length+y3.length)=l.length*z:=by have:=g1.1;rw[e1,e2]at this;simpa using this
 have eX:cur.toList=y1++(y2++(y3++cur.toList.drop (l.length*z))):=by
  conv=>lhs;rw[<-take_append_drop (l.length*z) cur.toList,f7,e1,e2]
  simp
 have bT:cur.toList.take (lo*z)++zs++cur.toList.drop (lo*z+zs.length)=(y1++(zs++y3))++cur.toList.drop (l.length*z):=by
  have t1:cur.toList.take (lo*z)=y1:=by rw[eX,<-lT];simp
  have t2:cur.toList.drop (lo*z+zs.length)=y3++cur.toList.drop (l.length*z):=by
   rw[cU,<-lT,<-iG]
   conv=>lhs;rw[eX]
   rw[<-append_assoc,List.drop_append_of_le_length (by simp)];simp
  rw[t1,t2];simp
 rw[bT]at hw;refine⟨y1++(zs++y3),⟨?_,.inr ⟨g,cap,_,?_,Nat.zero_le _,hw,?_,f4,?_,?_⟩⟩,g2,λx hx=>?_,?_⟩
 ·show _=l'.length*z;rw[cZ];simp only[length_append,cU];omega
 ·show hv n=.slice _ l'.length cap;rw[cZ];exact f1
 ·show l'.length<=cap;rw[cZ];exact f3
 ·have:=congrArg List.length eX;rw[Array.length_toList,f6]at this;simp only[List.size_toArray,length_append,cU]at this |-;show _=cap*z;omega
 ·show List.take (l'.length*z) _=_;rw[cZ,List.take_append_of_le_length (by simp only[length_append,cU];omega),List.take_of_length_le (by simp only[length_append,cU];omega)]
 ·have hx:x∈l':=hx;rw[cB,mem_append,mem_append]at hx;rcases hx with hx | hx | hx
  ·exact g3 x (mem_of_mem_take hx)
  ·rw[List.mem_replicate]at hx;rw[hx.2,rI];rfl
  ·exact g3 x (List.mem_of_mem_drop hx)
 ·show Sq (l'.map λc=>Rep (Us w0 U0 D) w' c) _;rw[cB,map_append,map_append];refine y8 (Sq.keep bC s1) (y8 ?_ ?_)
  ·rw[bP];exact a8D (i3 _ _) len
  ·rw[<-List.drop_drop];exact Sq.keep bC s4
theorem z0{P:Program}{w0:World}{U0:UX}{nt:Nat}{ops:Array Oper}{o:Oper}{S:Nat->Option AV}{gs:List Nat}{x:Operand}{t:TypeId}{e:TypeId}{e':TypeId}{ts:Array TypeId}{n:Nat}{lo:Nat}{len:Nat}{z:Nat}{l:List CV}{zc:CV}(p:Gd w0 U0 nt ops o gs S:=by exact gN rfl)(q:o.dst=none:=by exact rfl)(u:o.op=.call { callee:=.builtin .clear,args := #[x],argTypes:=ts }:=by exact rfl)(y:ts[0]?=some t:=by exact rfl)(A:P.underlying t=some (.slice e):=by exact rfl)(B:Y5 P e=some zc:=by exact rfl)(C:ev S x=some (.sl n lo len z):=by exact rfl)(E:S n=some (.mrow e' z l):=by exact rfl)(F:zc.size=z:=by exact rfl)(G:lo+len<=l.length:=by first | rfl | omega | (simp only[length_set,length_map,length_append,length_cons,length_nil]<;>omega) | (simp<;>omega)):AOp P w0 U0 nt ops o (gs++(rd x++[n])) [] S [(n,.mrow e' z (l.take lo++(List.replicate len zc++l.drop (lo+len))))]:=b8w p q u y A B C E F G
theorem a9w(d n:Nat){e z lo len:Nat}{l:List CV}(hs:look s d=some (.sl n lo len z))(hm:look s n=some (.mrow e z l))(hd:Nat.blt d 100000=true)(hloc:(∀b,¬ U0.x b)\/n<300000)(kD:lo+len<=l.length){s':AS}(kJ:SubL s s')(hk:V4 s' n=true):Wk w0 U0 nt s ((d,.val (.lst ((l.drop lo).take len)))::s'):=by
 rintro a w ⟨D,hv,h⟩;have hd:=bL hd;obtain⟨v,g1,kN,ao,m,cap,ao',h1,h2,h3,h4,h6,h7⟩:∃v,a.tmps[d]?=some v/\RN n/\SlV (hv n) lo len z v:=h.slot d _ hs hd;have h2:v=.slice ao' len (cap-lo):=h2;obtain⟨xs,f1,f2,f3,f4⟩:=h.mrow hm kN;have fV:=kN;unfold RN at fV;have kH:n4 n:=⟨by omega,by omega⟩
 have oA:=kJ.sub;have kZ:∀av,look s' n≠some av:=λav h8=>by have h9:=E0 h8;unfold V4 at hk;rw[all_eq_true]at hk;have:=hk _ h9;simp at this
 rcases f1.2 with⟨e1,e2⟩ | ⟨g,cap',cur,e1,_,e3,e4,e5,e6,e7⟩
 ·
  have vR:l=[]:=eq_nil_of_length_eq_zero e2;subst vR;rw[e1]at h1;injection h1 with h1 h8 h9;subst h1;subst h8;subst h9;have fQ:lo=0:=by simp at kD;omega
  have cS:len=0:=by simp at kD;omega
  subst fQ;subst cS;have hao:ao'=none:=h7.2 rfl;refine⟨D,hv,(h.sub oA).know hd g1 (n9 ?_)⟩;rw[h2,hao];exact l5.2 ⟨none,0,0,rfl,rfl,Nat.le_refl _,by unfold maxLen;omega,λ_=>⟨rfl,rfl⟩,[],.inl rfl,rfl⟩
 ·obtain rfl:cap=cap':=by rw[e1]at h1;injection h1 with k1 k2 k3;exact k3.symm
  obtain rfl:ao=some ⟨g,0,none⟩:=by rw[e1]at h1;injection h1 with k1 k2 k3;exact k1.symm
  have jI:hb (hv n)=some g:=by rw[e1];rfl
  obtain⟨b1,b2,b3⟩:=h.blk n _ g hm kH (by simp) jI;have dD:w0.heap.size<=g:=by
   rcases b1 with b1 | b1
   ·exact b1
   ·rcases hloc with hloc | hloc
    ·exact absurd b1.2 (hloc g)
    ·exact absurd (a2e hloc _) b1.1
  have hG:=(h.sub oA).moreD (g:=g) b2 λk av dH uV lM yD=>h.disj n k _ av g hm (oA _ _ dH) kH uV (by simp) lM (λe=>kZ av (e▸dH)) jI yD;refine⟨_,hv,hG.know hd g1 (n9 ?_)⟩;rw[h2];have bC:∀b o v,Us w0 U0 D b o->w.cell? ⟨b,o,none⟩=some v->Us w0 U0 (λb o=>D b o\/b=g) b o/\w.cell? ⟨b,o,none⟩=some v:=λb o v hu hc=>⟨hu.imp id λh=>⟨h.1,.inl h.2⟩,hc⟩
  have gU:l=l.take lo++((l.drop lo).take len++(l.drop lo).drop len):=by rw[take_append_drop,take_append_drop]
  have f4':=f4;rw[gU,map_append,map_append]at f4';obtain⟨y1,r1,c1,s1,s2⟩:=y5 f4';obtain⟨y2,y3,c2,s3,s4⟩:=y5 s2;have lT:y1.length=lo*z:=by rw[B0 (n:=CV.size) (λc _ xs h=>h.len) s1,s5 (λc hc=>f3 c (mem_of_mem_take hc)),length_take,Nat.min_eq_left (by omega)]
  refine l5.2 ⟨ao',len,cap-lo,rfl,by simp;omega,by omega,by omega,λdH=>?_,y2,?_,Sq.keep bC s3⟩
  ·have:=h7.1 dH;cases this
  ·by_cases cN:lo<cap
   ·refine .inr ⟨g,lo*z,h6 cN g rfl,λi hi=>⟨.inr ⟨dD,.inr rfl⟩,?_⟩⟩;have kA:lo*z+i<l.length*z:=by have:=f1.1;rw[c1,c2]at this;simp only[length_append]at this;omega
    rw[a0b f1 (by rw[e1];rfl) kA,c1,c2,<-lT,getElem?_append_right (by omega),getElem?_append_left (by omega)];congr 1;omega
   ·left;have:len=0:=by omega
    rw[this]at s3;exact s3
def P4(P:Program)(W:World)(fc:CV)(args:List CV)(r:AV):Prop:=AFunV P W fc args r\/∃f,fc=.sc (.func (.func f) #[] #[])/\AFun P W f args r
theorem c1Q{x:Operand}{xs:Array Operand}{ts:Array TypeId}{fc:CV}{cs:List CV}{r:AV}{n q p}(hg:Gd w0 U0 nt ops o gs S)(hd:o.dst=some d)(hn:Nat.blt d nt=true)(h5:Nat.blt d 100000=true)
  (ho:o.op=.call { callee:=.value x,args:=xs,argTypes:=ts }) (hf:ev S x=some ⟨0,fc,n,q,p⟩) (hx:a0K S xs.toList=some cs) (hc:P4 P w0 fc cs r):AOp P w0 U0 nt ops o (gs++(rd x++rdl xs.toList)) [] S [(d,r)]:=by
 rcases hc with hc | ⟨f,rfl,hc⟩
 ·exact a8v hg hd hn h5 ho hf hx hc
 intro s hs _ a w ⟨D,hv,h⟩ Q K hK;rw[if_pos (hg s (λk hk=>hs k (mem_append_left _ hk)) a w D hv h)];have hargs:=I8 h (λk hk=>hs k (mem_append_right _ (mem_append_right _ hk))) hx;have nI:=v9 h (λk hk=>hs k (mem_append_right _ (mem_append_left _ hk))) hf;obtain⟨h1,h2,h3,h4⟩:=hc;have kK:=h4 _ w _ trivial hargs;have he:(execOp a.eval o).run P w=.ok (.enter f (xs.toList.map a.eval).toArray) w:=by
  have cW:=h1 (xs.map a.eval) w;have gT:(xs.toList.map a.eval).toArray=xs.map a.eval:=by apply Array.ext';simp
  rw[gT];generalize a.eval=ρ at nI cW |-;simp[execOp,ho,resolve,invoke,Deferred.ofValue,nI,cW]
 unfold Oper.wp;rw[he,Oper.upon_enter];refine kK.mono ?_;rintro e w' ⟨v,rfl,h6,h7⟩;rw[hd];exact hK _ _ ⟨Dn D w w',hv,(h.growN h7).put (bL hn) (bL h5) (S7 h2 h3 (a0h rfl h7.size h.below.size h6))⟩
theorem zQ{P:Program}{w0:World}{U0:UX}{nt:Nat}{ops:Array Oper}{o:Oper}{S:Nat->Option AV}{gs:List Nat}{d:Nat}{x:Operand}{xs:Array Operand}{ts:Array TypeId}{fc:CV}{cs:List CV}{r:AV}{n}{q}{p}(t:Gd w0 U0 nt ops o gs S:=by exact gN rfl)(u:o.dst=some d:=by exact rfl)(y:Nat.blt d nt=true:=by exact rfl)(z:Nat.blt d 100000=true:=by exact rfl)(A:o.op=.call { callee:=.value x,args:=xs,argTypes:=ts }:=by exact rfl)(B:ev S x=some ⟨0,fc,n,q,p⟩:=by exact rfl)(C:a0K S xs.toList=some cs:=by exact rfl)(E:P4 P w0 fc cs r):AOp P w0 U0 nt ops o (gs++(rd x++rdl xs.toList)) [] S [(d,r)]:=c1Q t u y z A B C E
theorem AWp.nil{c:Code}{Q:Exit->AS->Prop}(d:Nat){l:List CV}(h5:Nat.blt d 100000=true)(hs:look s d=some (.val (.lst l)))(h1:l=[]->AWp P w0 U0 nt c Q ((d,⟨0,.lst [],1,0,[]⟩)::s))(h2:AWp P w0 U0 nt c Q ((d,⟨16,.lst l,0,0,[]⟩)::s)):AWp P w0 U0 nt c Q s:=by
 intro M a w ⟨D,hv,h⟩;have h5:=bL h5;obtain⟨v,g1,g2⟩:=h.slot d _ hs h5;have g2:VRep (Us w0 U0 D) w (.lst l) v:=g2.1;cases hn:I5 v with
 | false=>exact h2 M a w ⟨D,hv,h.know h5 g1 ⟨g2,hn⟩⟩
 | true =>
  have hv0:=b1J hn;subst hv0;obtain⟨ao,n,cc,e1,e2,_⟩:=l5.1 g2;injection e1 with _ e3 _;have hl:l=[]:=eq_nil_of_length_eq_zero (by omega);subst hl;exact h1 rfl M a w ⟨D,hv,h.know h5 g1 ⟨g2,λ_=>⟨0,.lst [],rfl,rfl⟩⟩⟩
theorem c3N(d:Nat){c:CV}(h5:Nat.blt d 100000=true)(hs:look s d=some ⟨16,c,0,0,[]⟩):Wk w0 U0 nt s ((d,.val c)::s):=by
 rintro a w ⟨D,hv,h⟩;have h5:=bL h5;obtain⟨v,g1,g2⟩:=h.slot d _ hs h5;exact⟨D,hv,h.know h5 g1 (n9 g2.1)⟩
theorem a7v{t e:TypeId}(hu:P.underlying t=some (.slice e))(v:Value)(w:World)(hv:∃ao n c,v=.slice ao n c/\(ao=none->n=0/\c=0)):(Op.equal t v (.slice none 0 0)).run P w=.ok (I5 v) w:=by
 obtain⟨ao,n,c,rfl,h⟩:=hv;unfold Op.equal;rw[show Op.maxDepth=9999+1 from rfl,Op.equalIn];cases ao with
 | none=>obtain⟨rfl,rfl⟩:=h rfl;simp[run_underlying hu,I5]
 | some ad=>simp[run_underlying hu,I5]
theorem c0p(hg:Gd w0 U0 nt ops o gs S)(hd:o.dst=some d)(hn:Nat.blt d nt=true)(h5:Nat.blt d 100000=true){x:Operand}{t1 t2 e:TypeId}{q}(ho:o.op=.binOp .eql t1 x (.const (.slice none 0 0)) t2)(hu:P.underlying t1=some (.slice e))(hx:ev S x=some ⟨0,.lst [],1,q,[]⟩):AOp P w0 U0 nt ops o (gs++rd x) [] S [(d,.val (.b true))]:=
 l4 hg hd hn h5 (λk hk=>mem_append_left _ hk) λs hs a w D hv hm=>by
  obtain⟨h1,h2⟩:VRep (Us w0 U0 D) w (.lst []) (a.eval x)/\Tk hv (a9 s) ⟨0,.lst [],1,q,[]⟩ (a.eval x).cells.toList:=n5 hm (λk hk=>hs k (mem_append_right _ hk)) hx;have dA:a.eval x=.slice none 0 0:=by obtain⟨m,c,g1,g2⟩:=h2 (.inl rfl);simp only at g1;rw[S2]at g1;cases g1;obtain⟨ao,k,c,e1,_⟩:=l5.1 h1;rw[e1]at g2 |-;simpa[Value.cells,J1]using g2
  refine⟨.bool true,?_,o9 rfl⟩;have hb:=a7v (P:=P) hu (.slice none 0 0) w ⟨none,0,0,rfl,λ_=>⟨rfl,rfl⟩⟩;have hc:a.eval (.const (.slice none 0 0))=.slice none 0 0:=rfl;generalize a.eval=ρ at dA hc |-;simp[execOp,ho,dA,hc,eqGuard,binOp,hb,I5]
theorem zS{P:Program}{w0:World}{U0:UX}{nt:Nat}{ops:Array Oper}{o:Oper}{S:Nat->Option AV}{gs:List Nat}{d:Nat}{x:Operand}{t1:TypeId}{t2:TypeId}{e:TypeId}{q}(p:Gd w0 U0 nt ops o gs S:=by exact gN rfl)(r:o.dst=some d:=by exact rfl)(t:Nat.blt d nt=true:=by exact rfl)(u:Nat.blt d 100000=true:=by exact rfl)(v:o.op=.binOp .eql t1 x (.const (.slice none 0 0)) t2:=by exact rfl)(y:P.underlying t1=some (.slice e):=by exact rfl)(z:ev S x=some ⟨0,.lst [],1,q,[]⟩:=by exact rfl):AOp P w0 U0 nt ops o (gs++rd x) [] S [(d,.val (.b true))]:=c0p p r t u v y z
theorem b8h(hg:Gd w0 U0 nt ops o gs S)(hd:o.dst=some d)(hn:Nat.blt d nt=true)(h5:Nat.blt d 100000=true){x:Operand}{t1 t2 e:TypeId}{l:List CV}{n q p}(ho:o.op=.binOp .eql t1 x (.const (.slice none 0 0)) t2)(hu:P.underlying t1=some (.slice e))(hx:ev S x=some ⟨16,.lst l,n,q,p⟩):AOp P w0 U0 nt ops o (gs++rd x) [] S [(d,.val (.b false))]:=
 l4 hg hd hn h5 (λk hk=>mem_append_left _ hk) λs hs a w D hv hm=>by obtain⟨h1,h2⟩:VRep (Us w0 U0 D) w (.lst l) (a.eval x)/\I5 (a.eval x)=false:=n5 hm (λk hk=>hs k (mem_append_right _ hk)) hx;obtain⟨ao,k,c,e1,e2,e3,e4,e5,_⟩:=l5.1 h1;refine⟨.bool false,?_,o9 rfl⟩;have hb:=a7v (P:=P) hu (a.eval x) w ⟨ao,k,c,e1,e5⟩;rw[h2]at hb;have hc:a.eval (.const (.slice none 0 0))=.slice none 0 0:=rfl;generalize a.eval=ρ at hb hc |-;simp[execOp,ho,hc,eqGuard,binOp,hb]
theorem zT{P:Program}{w0:World}{U0:UX}{nt:Nat}{ops:Array Oper}{o:Oper}{S:Nat->Option AV}{gs:List Nat}{d:Nat}{x:Operand}{t1:TypeId}{t2:TypeId}{e:TypeId}{l:List CV}{n}{q}{p}(r:Gd w0 U0 nt ops o gs S:=by exact gN rfl)(t:o.dst=some d:=by exact rfl)(u:Nat.blt d nt=true:=by exact rfl)(v:Nat.blt d 100000=true:=by exact rfl)(y:o.op=.binOp .eql t1 x (.const (.slice none 0 0)) t2:=by exact rfl)(z:P.underlying t1=some (.slice e):=by exact rfl)(A:ev S x=some ⟨16,.lst l,n,q,p⟩:=by exact rfl):AOp P w0 U0 nt ops o (gs++rd x) [] S [(d,.val (.b false))]:=b8h r t u v y z A
theorem c0J(d n e z:Nat)(hs:look s d=some ⟨0,.lst [],1,0,[]⟩)(h5:Nat.blt d 100000=true)(hn:(Nat.ble 200000 n&&Nat.blt n 400000)=true)(hz:Nat.blt 0 z=true)(hr:A6 s [(n,[])]=true):Wk w0 U0 nt s ((d,.sl n 0 0 z)::(n,.mrow e z [])::s):=by
 rintro a w ⟨D,hv,h⟩;have h5:=bL h5;have kN:=rnB hn;have hz:=bL hz;have hr:=(q9 hr (n,[]) (by simp)).nr;obtain⟨v,g1,g2⟩:=h.slot d _ hs h5;have hv0:v=.slice none 0 0:=by obtain⟨h1,h2⟩:VRep (Us w0 U0 D) w (.lst []) v/\Tk hv (a9 s) ⟨0,.lst [],1,0,[]⟩ v.cells.toList:=g2;obtain⟨m,c,f1,f2⟩:=h2 (.inl rfl);simp only at f1;rw[S2]at f1;cases f1;obtain⟨ao,k,c,e1,_⟩:=l5.1 h1;rw[e1]at f2 |-;simpa[Value.cells,J1]using f2
 have hG:=h.newrow (X:=λ_=>False) (avn:=.mrow e z []) (v':=.slice none 0 0) kN hr (by simp) (BelowX.refl _ _) (λb hb=>hb.elim) (λg hg=>by cases hg) (λb o hd => .inl hd) h.dlt (λb o u h1 h2=>⟨h1,h2⟩) (λhv lv=>⟨[],World.ownsRow_nil _ _ _ _,hz,(λc hc=>by cases hc),rfl⟩);refine⟨D,_,hG.know h5 g1 ⟨RW.rn kN,?_⟩⟩;show SlV ((λx=>if x=n then Value.slice none 0 0 else hv x) n) 0 0 z v;simp only[if_true];rw[hv0];exact J4 rfl (Nat.le_refl _) (.inl rfl)
end
section
variable{P:Program}{w0:World}{U0:UX}{nt:Nat}{ops:Array Oper}{o:Oper}{S:Nat->Option AV}{gs:List Nat}{d:Nat}{s:AS}{a:Act}{w:World}{D:Nat->Nat->Prop}{hv:Nat->Value}
def c1T(av:AV):Bool:=match Nat.beq av.t 0 with | true=>Nat.beq av.c.k 2 | false=>false
theorem b0R{U:Nat->Nat->Prop}{c:CV}{v:Value}(h:VRep U w c v)(hk:c.k≠2):v.cells = #[v]/\v.oneCell'=true:=by
 unfold VRep at h;rw[if_neg hk]at h;have h1:=h.one v (by simp);exact⟨by cases v<;>first | rfl | simp[Value.oneCell']at h1,h1⟩
def b3G(av:AV):Bool:=Nat.beq av.t 0||Nat.beq av.t 2||Nat.beq av.t 11||Nat.beq av.t 12||Nat.beq av.t 15
theorem a2v{v:Value}(h:v.oneCell'=true):v.cells = #[v]:=by cases v<;>first | rfl | simp[Value.oneCell']at h
theorem a8t{U:Nat->Nat->Prop}{lv:Nat->Prop}{av:AV}{v:Value}(h:AVRep U w hv lv av v)(hf:b3G av=true)(ht:av.t≠0):v.cells = #[v]/\v.oneCell'=true:=by
 unfold b3G at hf;simp only[Bool.or_eq_true]at hf;unfold AVRep at h;rw[if_neg ht]at h;rcases hf with(((hf | hf) | hf) | hf) | hf<;>have hf:=Nat.eq_of_beq_eq_true hf
 ·exact absurd hf ht
 ·rw[if_pos hf]at h;rw[h.2];exact⟨rfl,rfl⟩
 ·rw[if_neg (by omega),if_neg (by omega),if_neg (by omega),if_pos hf]at h;rw[h.2];exact⟨rfl,rfl⟩
 ·rw[if_neg (by omega),if_neg (by omega),if_neg (by omega),if_neg (by omega),if_pos hf]at h;obtain⟨_,ao,m,cap,ao',_,e,_⟩:=h;rw[e];exact⟨rfl,rfl⟩
 ·rw[if_neg (by omega),if_neg (by omega),if_neg (by omega),if_neg (by omega),if_neg (by omega),if_pos hf]at h;exact⟨a2v h.2.2,h.2.2⟩
theorem aLf(hg:Gd w0 U0 nt ops o gs S)(hd:o.dst=some d)(hn:Nat.blt d nt=true)(h5:Nat.blt d 100000=true){x:Operand}{ty:TypeId}{ds:TypeDesc}{z n q:Nat}{p:List Nat}{k' v' l'}{av:AV}(ho:o.op=.load ty x)(hu:P.underlying ty=some ds)(hi:(P.info? ty).map (·.size)=some z)(hx:ev S x=some ⟨2,⟨k',v',l'⟩,n,q,p⟩)(hb:S (100000+n)=some .obj)(hf:S (i7 n q)=some av)(hq:Nat.blt q 100=true)(hz:av.sz=z)(hk:X1 ds=c1T av)(ht:b3G av=true):AOp P w0 U0 nt ops o (gs++(rd x++[100000+n,i7 n q])) [] S [(d,av)]:=
 l4 hg hd hn h5 (λk hk=>mem_append_left _ hk) λs hs a w D hv hm=>by
  obtain⟨bK,h1⟩:BN n/\a.eval x=.pointer (some ⟨q6 (hv (100000+n)),q,none⟩):=n5 hm (λk hk=>hs k (mem_append_right _ (mem_append_left _ hk))) hx;obtain⟨v,g1,g2,g3⟩:=hm.fld n q av ((hs (i7 n q) (by simp)).trans hf) (bL hq) ((hs (100000+n) (by simp)).trans hb) bK;have kC:=D4 (P:=P) (w:=w) hi;refine⟨v,?_,g1⟩;have hl:(loadVar ty ⟨q6 (hv (100000+n)),q,none⟩).run P w=.ok v w:=by
   cases pG:c1T av with
   | true =>
    rw[pG]at hk;unfold c1T at pG;split at pG
    ·rename_i dB;have dB:=Nat.eq_of_beq_eq_true dB;have gY:=Nat.eq_of_beq_eq_true pG;unfold AVRep at g1;rw[if_pos dB]at g1;have g4:=g1.1;unfold VRep at g4;rw[if_pos gY]at g4;obtain⟨xs,rfl,g5⟩:=g4;have lO:xs.length=z:=by rw[<-hz,<-g2];simp[Value.cells]
     have:=run_loadCells_list (P:=P) w ⟨q6 (hv (100000+n)),q,none⟩ xs (λj u hj=>by
      have gI:j<xs.length:=by
       rcases Nat.lt_or_ge j xs.length with h | h
       ·exact h
       ·rw[getElem?_eq_none h]at hj;cases hj
      rw[Y0,g3 j (by simpa[Value.cells]using gI)];simpa[Value.cells]using hj)
     rw[lO]at this;simp[loadVar,a0s hu,hk,kC,this]
    ·cases pG
   | false =>
    rw[pG]at hk;have gA:v.cells = #[v]:=by
     by_cases dB:av.t=0
     ·unfold c1T at pG;rw[dB]at pG;have gY:av.c.k≠2:=λe=>by rw[e]at pG;cases pG
      unfold AVRep at g1;rw[if_pos dB]at g1;exact(b0R g1.1 gY).1
     ·exact(a8t g1 ht dB).1
    have:=g3 0 (by rw[gA];simp);rw[gA]at this;simp only[Nat.add_zero]at this;simp[loadVar,a0s hu,hk,run_load,this]
  generalize a.eval=ρ at h1 |-;simp[execOp,ho,Instr.loadAt,Instr.sureAddr,h1,hl]
theorem z7{P:Program}{w0:World}{U0:UX}{nt:Nat}{ops:Array Oper}{o:Oper}{S:Nat->Option AV}{gs:List Nat}{d:Nat}{x:Operand}{ty:TypeId}{ds:TypeDesc}{z:Nat}{n:Nat}{q:Nat}{p:List Nat}{k'}{v'}{l'}{av:AV}(r:Gd w0 U0 nt ops o gs S:=by exact gN rfl)(y:o.dst=some d:=by exact rfl)(A:Nat.blt d nt=true:=by exact rfl)(B:Nat.blt d 100000=true:=by exact rfl)(C:o.op=.load ty x:=by exact rfl)(E:P.underlying ty=some ds:=by exact rfl)(F:(P.info? ty).map (·.size)=some z:=by exact rfl)(G:ev S x=some ⟨2,⟨k',v',l'⟩,n,q,p⟩:=by exact rfl)(H:S (100000+n)=some .obj:=by exact rfl)(hf:S (i7 n q)=some av:=by exact rfl)(hq:Nat.blt q 100=true:=by exact rfl)(hz:av.sz=z:=by exact rfl)(hk:X1 ds=c1T av:=by exact rfl)(ht:b3G av=true:=by exact rfl):AOp P w0 U0 nt ops o (gs++(rd x++[100000+n,i7 n q])) [] S [(d,av)]:=aLf r y A B C E F G H hf hq hz hk ht
theorem SimG.storeF(h:SimG w0 U0 nt s a w D hv){n q:Nat}(bK:BN n)(bE:look s (100000+n)=some .obj)(hq:q<100){av0 av:AV}(h0:look s (i7 n q)=some av0)(kC:av.sz=av0.sz)(hz0:0<av.sz){v:Value}(bJ:AVRep (Us w0 U0 D) w hv (a9 s) av v)(cR:v.cells.size=av.sz) :
  ∃g ys zs us ty,q6 (hv (100000+n))=g/\w.heap[g]?=some (.cells (ys++zs++us).toArray ty (0,0))/\ys.length=q/\zs.length=av.sz/\SimG w0 U0 nt ((i7 n q,av)::s) a (w.setRow g (ys++v.cells.toList++us).toArray) D hv:=by
 obtain⟨g,xs,ty,e1,e2,e3⟩:=h.obj9 bE bK;have jI:hb (hv (100000+n))=some g:=by rw[e1];rfl
 obtain⟨v0,f1,f2,f3⟩:=h.fld n q av0 h0 hq bE bK;obtain⟨pU,kA,hD⟩:=h.blk (100000+n) _ g bE (H4 bK) (by simp) jI;have mO:∀o,¬ D g o:=λo=>hD o λe=>by cases e
 have hqz:q+av.sz<=xs.size:=by have:=f3 (av.sz-1) (by rw[f2,<-kC];omega);rw[e2]at this;simp only[World.cell?,e3]at this;rw[Array.getElem?_eq_getElem (xs:=v0.cells) (by rw[f2,<-kC];omega)]at this;have h2:=(Array.getElem?_eq_some_iff.1 (by simpa using this)).1;omega
 obtain⟨ys,fS⟩:∃ys,ys=xs.toList.take q:=⟨_,rfl⟩
 obtain⟨zs,bP⟩:∃zs,zs=(xs.toList.drop q).take av.sz:=⟨_,rfl⟩
 obtain⟨us,fW⟩:∃us,us=(xs.toList.drop q).drop av.sz:=⟨_,rfl⟩
 have eV:xs.toList=ys++zs++us:=by rw[fS,bP,fW,append_assoc,take_append_drop,take_append_drop]
 have jA:ys.length=q:=by rw[fS];simp;omega
 have qG:zs.length=av.sz:=by rw[bP];simp;omega
 have dK:v.cells.toList.length=av.sz:=by simpa using cR
 have kT:w.heap[g]?=some (.cells (ys++zs++us).toArray ty (0,0)):=by rw[<-eV,Array.toArray_toList];exact e3
 refine⟨g,ys,zs,us,ty,e2,kT,jA,qG,?_⟩;obtain⟨w',eQ⟩:∃w',w'=w.setRow g (ys++v.cells.toList++us).toArray:=⟨_,rfl⟩
 rw[<-eQ];have eC:∀k,k≠g->w'.heap[k]?=w.heap[k]?:=λk hk=>by rw[eQ];exact setRow_other w g k _ hk
 have bT:w'.heap[g]?=some (.cells (ys++v.cells.toList++us).toArray ty (0,0)):=by rw[eQ];exact setRow_heap w _ _ _ _ _ kT
 have kL:∀b o u,Us w0 U0 D b o->w.cell? ⟨b,o,none⟩=some u->Us w0 U0 D b o/\w'.cell? ⟨b,o,none⟩=some u:=λb o u hu hc=>by
  refine⟨hu,?_⟩;rw[eQ,cell_setRow_other]
  ·exact hc
  ·exact a3s hu pU (mO o)
 have eY:∀i,i<q\/q+av.sz<=i->w'.cell? ⟨g,i,none⟩=w.cell? ⟨g,i,none⟩:=λi hi=>by
  simp only[World.cell?,bT,kT];simp only[Option.isSome_none,Bool.false_eq_true,if_false,List.getElem?_toArray];rcases hi with hi | hi
  ·rw[append_assoc,append_assoc,getElem?_append_left (by omega),getElem?_append_left (by omega)]
  ·rw[getElem?_append_right (by simp only[length_append];omega),getElem?_append_right (by simp only[length_append];omega)];simp only[length_append,dK,qG]
 have dE:∀{m o:Nat},o<100->i7 m o=i7 n q->m=n/\o=q:=fun{m o} ho e=>by unfold i7 at e;omega
 have kB:∀{k},k≠i7 n q->look ((i7 n q,av)::s) k=look s k:=fun{k} hk=>lN (Ne.symm hk);have hl:∀m e,v8 ((i7 n q,av)::s) m e↔v8 s m e:=λm e=>by
  unfold v8;constructor
  ·rintro⟨g1,g2⟩;rw[kB (by unfold i7;omega)]at g1;exact⟨g1,g2⟩
  ·rintro⟨g1,g2⟩;exact⟨by rw[kB (by unfold i7;omega)];exact g1,g2⟩
 have kM:a9 ((i7 n q,av)::s)=a9 s:=by funext k;simp only[a9,hl]
 have eH:w'.heap.size=w.heap.size:=by rw[eQ,setRow_size]
 refine⟨⟨?_,?_,?_,by rw[eH];exact h.below.size,λk hk oX=>?_⟩,h.dfr,h.size,λd av' g1 g2=>?_,λm o av' g1 g2 g3 g4=>?_,λm o o' av1 av2 g1 g2 g3 g4 g5=>?_,λk av' g1 g2=>?_,λk av' g' g1 g2 g3 g4=>?_,λk k' av1 av2 g' g1 g2 g3 g4=>?_,h.fix,λb o hd=>by rw[eH];exact h.dlt b o hd⟩
 ·rw[eQ];exact h.below.os
 ·rw[eQ];exact h.below.tape
 ·rw[eQ];exact h.below.output
 ·rw[eC k]
  ·exact h.below.block k hk oX
  ·rintro rfl;rcases pU with h1 | h1
   ·omega
   ·exact oX h1.2
 ·rw[kB (by unfold i7;omega)]at g1;rw[kM];obtain⟨u,g3,g4⟩:=h.slot d av' g1 g2;exact⟨u,g3,g4.keep kL⟩
 ·rw[kB (by unfold i7 BN at *;omega)]at g3;rw[kM];by_cases e:i7 m o=i7 n q
  ·obtain⟨rfl,rfl⟩:=dE g2 e;rw[lS]at g1;cases g1;refine⟨v,bJ.keep kL,cR,λi hi=>?_⟩;rw[e2];simp only[World.cell?,bT];simp only[Option.isSome_none,Bool.false_eq_true,if_false,List.getElem?_toArray];rw[append_assoc,getElem?_append_right (by omega),jA,show o+i-o=i by omega,getElem?_append_left (by omega)];simp
  ·rw[kB e]at g1;obtain⟨u,k1,k2,k3⟩:=h.fld m o av' g1 g2 g3 g4;refine⟨u,k1.keep kL,k2,λi hi=>?_⟩;by_cases em:m=n
   ·subst em;have ho:o≠q:=λe3=>e (by rw[e3]);rw[e2];have k4:=k3 i hi;rw[e2]at k4;rw[eY]
    ·exact k4
    ·rcases Nat.lt_or_ge o q with h3 | h3
     ·have:=h.fdis m o q av' av0 g1 h0 g2 hq h3;rw[k2]at hi;omega
     ·have:=h.fdis m q o av0 av' h0 g1 hq g2 (by omega);omega
   ·obtain⟨g2',_,_,c1,c2,c3⟩:=h.obj9 g3 g4;have kF:g2'≠g:=λe3=>h.disj (100000+n) (100000+m) _ _ g bE g3 (H4 bK) (H4 g4) (by simp) (by simp) (by omega) jI (by rw[c1,e3];rfl);rw[c2];have k4:=k3 i hi;rw[c2]at k4;rw[World.cell?_of_block (w:=w) (eC g2' kF)];exact k4
 ·have conv:∀{o:Nat} {aq:AV},o<100->look ((i7 n q,av)::s) (i7 m o)=some aq->∃aq',look s (i7 m o)=some aq'/\aq'.sz=aq.sz:=fun{o aq} ho g6=>by
   by_cases e:i7 m o=i7 n q
   ·rw[e,lS]at g6;cases g6;exact⟨av0,by rw[e];exact h0,kC.symm⟩
   ·rw[kB e]at g6;exact⟨aq,g6,rfl⟩
  obtain⟨b1,c1,c2⟩:=conv g3 g1
  obtain⟨b2,c3,c4⟩:=conv g4 g2
  rw[<-c2];exact h.fdis m o o' b1 b2 c1 c3 g3 g4 g5
 ·have g2':=g2;unfold n4 at g2';rw[kB (by unfold i7;omega)]at g1;rw[kM];by_cases e:k=100000+n
  ·subst e;rw[bE]at g1;cases g1;exact⟨g,_,ty,e1,bT⟩
  ·by_cases h7:av'.t=7
   ·exact a3A h7
   ·exact(h.obj k av' g1 g2).move kL (λ_ hx=>⟨hx,rfl⟩) λg' dI=>eC g' λe3=>h.disj (100000+n) k _ av' g bE g1 (H4 bK) g2 (by simp) h7 (Ne.symm e) jI (e3▸dI)
 ·have g2':=g2;unfold n4 at g2';rw[kB (by unfold i7;omega)]at g1;rw[eH];exact h.blk k av' g' g1 g2 g3 g4
 ·have g3':=g3;have g4':=g4;unfold n4 at g3' g4';rw[kB (by unfold i7;omega)]at g1 g2;exact h.disj k k' av1 av2 g' g1 g2 g3 g4
theorem a9O(hg:Gd w0 U0 nt ops o gs S)(hd:o.dst=none){x y:Operand}{ty:TypeId}{z n q:Nat}{p:List Nat}{k' v' l'}{av0 av:AV}(ho:o.op=.store ty x y)(hi:(P.info? ty).map (·.size)=some z)(hx:ev S x=some ⟨2,⟨k',v',l'⟩,n,q,p⟩)(hb:S (100000+n)=some .obj)(hf:S (i7 n q)=some av0)(hy:ev S y=some av)(hq:Nat.blt q 100=true)(hz:av.sz=z)(hz0:av0.sz=z)(vS:Nat.blt 0 z=true)(ht:b3G av=true):AOp P w0 U0 nt ops o (gs++(rd x++(rd y++[100000+n,i7 n q]))) [] S [(i7 n q,av)]:=by
 intro s hs hN a w ⟨D,hv,h⟩ Q K hK;rw[if_pos (hg s (λk hk=>hs k (mem_append_left _ hk)) a w D hv h)];obtain⟨bK,h1⟩:BN n/\a.eval x=.pointer (some ⟨q6 (hv (100000+n)),q,none⟩):=n5 h (λk hk=>hs k (mem_append_right _ (mem_append_left _ hk))) hx;have h2:=n5 h (λk hk=>hs k (mem_append_right _ (mem_append_right _ (mem_append_left _ hk)))) hy;have eP:(a.eval y).cells.size=av.sz/\∀u∈(a.eval y).cells.toList,u.oneCell'=true:=by
  by_cases dB:av.t=0
  ·have h3:=h2;unfold AVRep at h3;rw[if_pos dB]at h3;refine⟨?_,h3.1.cells.one⟩;have:=h3.1.cells.len;unfold AV.sz;rw[dB];simpa using this
  ·obtain⟨g1,g2⟩:=a8t h2 ht dB;rw[g1];refine⟨?_,by simpa using g2⟩;unfold AV.sz;rw[X8 dB];rfl
 obtain⟨g,ys,zs,us,t,e1,e2,e3,e4,e5⟩:=h.storeF bK ((hs (100000+n) (by simp)).trans hb) (bL hq) ((hs (i7 n q) (by simp)).trans hf) (hz.trans hz0.symm) (by rw[hz];exact bL vS) h2 eP.1;rw[e1]at h1;have eF:(a.eval y).cells.toList.length=av.sz:=by simpa using eP.1
 have kY:=J5 (P:=P) hi e2 e3 (v:=a.eval y) rfl (by rw[eF,e4]) (by rw[eF,hz]) eP.2;have he:(execOp a.eval o).run P w=.ok .skip (w.setRow g (ys++(a.eval y).cells.toList++us).toArray):=by generalize a.eval=ρ at h1 kY |-;simp[execOp,ho,Instr.storeAt,Instr.sureAddr,h1,kY]
 unfold Oper.wp;rw[he,Oper.upon_skip,hd];exact hK _ _ ⟨_,_,e5⟩
theorem zbb{P:Program}{w0:World}{U0:UX}{nt:Nat}{ops:Array Oper}{o:Oper}{S:Nat->Option AV}{gs:List Nat}{x:Operand}{y:Operand}{ty:TypeId}{z:Nat}{n:Nat}{q:Nat}{p:List Nat}{k'}{v'}{l'}{av0:AV}{av:AV}(r:Gd w0 U0 nt ops o gs S:=by exact gN rfl)(A:o.dst=none:=by exact rfl)(B:o.op=.store ty x y:=by exact rfl)(C:(P.info? ty).map (·.size)=some z:=by exact rfl)(E:ev S x=some ⟨2,⟨k',v',l'⟩,n,q,p⟩:=by exact rfl)(F:S (100000+n)=some .obj:=by exact rfl)(G:S (i7 n q)=some av0:=by exact rfl)(H:ev S y=some av:=by exact rfl)(hq:Nat.blt q 100=true:=by exact rfl)(hz:av.sz=z:=by exact rfl)(hz0:av0.sz=z:=by exact rfl)(vS:Nat.blt 0 z=true:=by exact rfl)(ht:b3G av=true:=by exact rfl):AOp P w0 U0 nt ops o (gs++(rd x++(rd y++[100000+n,i7 n q]))) [] S [(i7 n q,av)]:=a9O r A B C E F G H hq hz hz0 vS ht
theorem SimG.addF(h:SimG w0 U0 nt s a w D hv){n q:Nat}(bK:BN n)(bE:look s (100000+n)=some .obj)(hq:q<100){av:AV}{v:Value}(bJ:AVRep (Us w0 U0 D) w hv (a9 s) av v)(cR:v.cells.size=av.sz)(hc:∀i,i<v.cells.size->w.cell? ⟨q6 (hv (100000+n)),q+i,none⟩=v.cells[i]?)(ho:∀o av',look s (i7 n o)=some av'->o<100->q+av.sz<=o):SimG w0 U0 nt ((i7 n q,av)::s) a w D hv:=by
 have dE:∀{m o:Nat},o<100->i7 m o=i7 n q->m=n/\o=q:=fun{m o} ho e=>by unfold i7 at e;omega
 have kB:∀{k},k≠i7 n q->look ((i7 n q,av)::s) k=look s k:=fun{k} hk=>lN (Ne.symm hk);have hl:∀m e,v8 ((i7 n q,av)::s) m e↔v8 s m e:=λm e=>by
  unfold v8;constructor
  ·rintro⟨g1,g2⟩;rw[kB (by unfold i7;omega)]at g1;exact⟨g1,g2⟩
  ·rintro⟨g1,g2⟩;exact⟨by rw[kB (by unfold i7;omega)];exact g1,g2⟩
 have kM:a9 ((i7 n q,av)::s)=a9 s:=by funext k;simp only[a9,hl]
 refine⟨h.below,h.dfr,h.size,λd av' g1 g2=>?_,λm o av' g1 g2 g3 g4=>?_,λm o o' av1 av2 g1 g2 g3 g4 g5=>?_,λk av' g1 g2=>?_,λk av' g' g1 g2 g3 g4=>?_,λk k' av1 av2 g' g1 g2 g3 g4=>?_,h.fix,h.dlt⟩
 ·rw[kB (by unfold i7;omega)]at g1;rw[kM];exact h.slot d av' g1 g2
 ·rw[kB (by unfold i7 BN at *;omega)]at g3;rw[kM];by_cases e:i7 m o=i7 n q
  ·obtain⟨rfl,rfl⟩:=dE g2 e;rw[lS]at g1;cases g1;exact⟨v,bJ,cR,hc⟩
  ·rw[kB e]at g1;exact h.fld m o av' g1 g2 g3 g4
 ·by_cases e1:i7 m o=i7 n q
  ·obtain⟨rfl,rfl⟩:=dE g3 e1;rw[lS]at g1;cases g1;rw[kB (by unfold i7;omega)]at g2;exact ho o' av2 g2 g4
  ·rw[kB e1]at g1;by_cases e2:i7 m o'=i7 n q
   ·obtain⟨rfl,rfl⟩:=dE g4 e2;have:=ho o av1 g1 g3;omega
   ·rw[kB e2]at g2;exact h.fdis m o o' av1 av2 g1 g2 g3 g4 g5
 ·have g2':=g2;unfold n4 at g2';rw[kB (by unfold i7;omega)]at g1;rw[kM];exact h.obj k av' g1 g2
 ·have g2':=g2;unfold n4 at g2';rw[kB (by unfold i7;omega)]at g1;exact h.blk k av' g' g1 g2 g3 g4
 ·have g3':=g3;have g4':=g4;unfold n4 at g3' g4';rw[kB (by unfold i7;omega)]at g1 g2;exact h.disj k k' av1 av2 g' g1 g2 g3 g4
def b3u(c:CV):AV:=⟨0,c,match a0I c with | true=>1 | false=>0,0,[]⟩
noncomputable def a0T(d:Nat):List CV->Nat->AS
 | [],_=>[]
 | c::cs,o=>(i7 d o,b3u c)::a0T d cs (o+c.size)
theorem a1c{d:Nat}:∀{cs:List CV} {o k:Nat} {av:AV},look (a0T d cs o) k=some av->∃o',o<=o'/\k=i7 d o'
 | [],_,_,_,h=>by simp[a0T,look]at h
 | c::cs,o,k,av,h=>by
  rw[a0T,k9]at h;split at h
  ·rename_i e;exact⟨o,Nat.le_refl _,e.symm⟩
  ·obtain⟨o',h1,h2⟩:=a1c h;exact⟨o',by omega,h2⟩
theorem Z5{U:Nat->Nat->Prop}{c:CV}{xs:List Value}(h:Rep U w c xs):∃v,VRep U w c v/\v.cells.toList=xs:=by
 by_cases hk:c.k=2
 ·exact⟨.agg xs.toArray,by unfold VRep;rw[if_pos hk];exact⟨xs,rfl,h⟩,by simp[Value.cells]⟩
 ·have h1:c.size=1:=by cases c with | mk k v l=>rw[CV.size_mk,if_neg hk]
  have hl:=h.len;rw[h1]at hl
  match xs,hl with
  | [v],_ =>
   refine⟨v,by unfold VRep;rw[if_neg hk];exact h,?_⟩;rw[a2v (h.one v (by simp))]
theorem SimG.addFs(h:SimG w0 U0 nt s a w D hv){n:Nat}(bK:BN n)(bE:look s (100000+n)=some .obj)(kZ:∀o av,look s (i7 n o)=some av->o<100->False){g:Nat}(iC:q6 (hv (100000+n))=g):∀{cs:List CV} {segs:List (List Value)} {o:Nat},cs.length=segs.length->(∀(i:Nat) (c:CV),cs[i]?=some c->∃seg,segs[i]?=some seg/\Rep (Us w0 U0 D) w c seg/\(a0I c=true->seg=[.slice none 0 0]))->(∀i,i<segs.flatten.length->w.cell? ⟨g,o+i,none⟩=segs.flatten[i]?)->(∀c∈cs,0<c.size)->o+segs.flatten.length<=100->SimG w0 U0 nt (a0T n cs o++s) a w D hv
 | [],_,_,_,_,_,_,_=>h
 | c::cs,[],_,hl,_,_,_,_=>by simp at hl
 | c::cs,seg::segs,o,hl,hr,hc,hp,qI=>by
  obtain⟨seg',e1,e2,e3⟩:=hr 0 c rfl;simp at e1;subst e1;have dN:=e2.len;have hcp:=hp c (by simp);rw[List.flatten_cons]at hc qI;rw[length_append]at qI;have ih:=h.addFs bK bE kZ iC (cs:=cs) (segs:=segs) (o:=o+c.size) (by simpa using hl) (λi c' hi=>hr (i+1) c' (by simpa using hi)) (λi hi=>by have:=hc (seg.length+i) (by rw[length_append];omega);rw[getElem?_append_right (by omega),show seg.length+i-seg.length=i by omega]at this;rw[<-this,dN,Nat.add_assoc]) (λc' lZ=>hp c' (mem_cons_of_mem _ lZ)) (by omega)
  obtain⟨v,g1,g2⟩:=Z5 e2;have oB:∀{k},100000<=k->k<500000->look (a0T n cs (o+c.size)++s) k=look s k:=fun{k} h1 h2=>by
   rw[d8];cases e:look (a0T n cs (o+c.size)) k with
   | none=>rfl
   | some av=>obtain⟨o',_,rfl⟩:=a1c e;unfold i7 at h2;omega
  have fG:=H4 bK;unfold n4 at fG;refine ih.addF bK (by rw[oB fG.1 fG.2];exact bE) (by omega) (v:=v) ⟨g1,λbU=>?_⟩ ?_ ?_ ?_
  ·refine⟨0,c,S2 c,?_⟩;show v.cells.toList[0]?=some (J1 hv (b3u c).n);unfold b3u at bU |-;cases dA:a0I c with
   | true =>
    rw[g2,e3 dA];rfl
   | false=>rw[dA]at bU;exact absurd bU A9
  ·rw[<-Array.length_toList,g2,dN];rfl
  ·intro i hi;have gH:i<seg.length:=by rw[<-g2];simpa using hi
   have:=hc i (by rw[length_append];omega);rw[getElem?_append_left gH,<-g2,Array.getElem?_toList]at this;rw[iC];exact this
  ·intro o' av' h1 h2;rw[d8]at h1;cases e:look (a0T n cs (o+c.size)) (i7 n o')with
   | none=>rw[e]at h1;exact(kZ o' av' h1 h2).elim
   | some av =>
    obtain⟨o2,h3,h4⟩:=a1c e;unfold i7 at h4;show o+c.size<=o';omega
end
section
open Go.RowKit Go.MapKept
section
variable{P:Program}{w0:World}{U0:UX}{nt:Nat}{ops:Array Oper}{o:Oper}{S:Nat->Option AV}{gs:List Nat}{d:Nat}{s:AS}{a:Act}{w:World}{D:Nat->Nat->Prop}{hv:Nat->Value}
theorem SimG.upd(h:SimG w0 U0 nt s a w D hv){k0:Nat}(h5:n4 k0){av0 av:AV}(h0:look s k0=some av0)(dB:av0.t≠7)(nC:av0.t≠9)(ht:av.t=av0.t)(hnd:∀g,NoD D av0 (hv k0) g->NoD D av (hv k0) g)(rS:av.t≠6){g:Nat}(hg:hb (hv k0)=some g){w':World}(hos:w'.os=w.os)(htp:w'.tape=w.tape)(hou:w'.output=w.output)(eH:w'.heap.size=w.heap.size)(eC:∀k,k≠g->w'.heap[k]?=w.heap[k]?)(pS:(∀b o v,Us w0 U0 D b o->w.cell? ⟨b,o,none⟩=some v->Us w0 U0 D b o/\w'.cell? ⟨b,o,none⟩=some v)->OC (Us w0 U0 D) w' hv (a9 s) av (hv k0)) :
  SimG w0 U0 nt ((k0,av)::s) a w' D hv:=by
 obtain⟨gS,iL,hD⟩:=h.blk k0 av0 g h0 h5 dB hg;have yF:=h5;unfold n4 at yF;have nD:av0.t≠6:=by rw[<-ht];exact rS
 have mO:∀o,¬ D g o:=λo=>hD o λe=>absurd e nD;have rT:av ≠ .obj:=λe=>nC (by rw[<-ht,e]);have uY:av0 ≠ .obj:=λe=>nC (by rw[e]);have hl:∀n e,v8 ((k0,av)::s) n e↔v8 s n e:=λn e=>by
  unfold v8;by_cases e1:k0=n
  ·subst e1;rw[lS,h0];constructor
   ·rintro⟨h1,_⟩;cases h1;exact absurd rfl rS
   ·rintro⟨h1,_⟩;cases h1;exact absurd rfl nD
  ·rw[lN e1]
 have kM:a9 ((k0,av)::s)=a9 s:=by funext k;simp only[a9,hl]
 have kL:∀b o v,Us w0 U0 D b o->w.cell? ⟨b,o,none⟩=some v->Us w0 U0 D b o/\w'.cell? ⟨b,o,none⟩=some v:=λb o v hu hc=>by refine⟨hu,?_⟩;rw[World.cell?_of_block (w:=w) (eC b (a3s hu gS (mO o)))];exact hc
 refine⟨⟨hos.trans h.below.os,htp.trans h.below.tape,hou.trans h.below.output,by rw[eH];exact h.below.size,λk hk oX=>?_⟩,h.dfr,h.size,λd av' h1 h2=>?_,λn o av' h1 h2 h3 dH=>?_,λn o o' av1 av2 h1 h2=>?_,λk av' h1 h2=>?_,λk av' g' h1 h2 h3 h4=>?_,λk k' av1 av2 g' h1 h2 h3 h4 h6 h7 kF=>?_,h.fix,λb o hd=>?_⟩
 ·rw[eC k]
  ·exact h.below.block k hk oX
  ·rintro rfl;rcases gS with h1 | h1
   ·omega
   ·exact oX h1.2
 ·rw[lN (by omega)]at h1;rw[kM];obtain⟨v,h3,h4⟩:=h.slot d av' h1 h2;exact⟨v,h3,h4.keep kL⟩
 ·rw[lN (by unfold i7;omega)]at h1;have kF:k0≠100000+n:=λe=>by subst e;rw[lS]at h3;cases h3;exact rT rfl
  rw[lN kF]at h3;rw[kM];obtain⟨v,h4,h6,h7⟩:=h.fld n o av' h1 h2 h3 dH;refine⟨v,h4.keep kL,h6,λi hi=>?_⟩;have mA:q6 (hv (100000+n))≠g:=by
   rintro e;obtain⟨g2,ys,ty2,e1,e2,e3⟩:=h.obj9 h3 dH;have:hb (hv (100000+n))=some g:=by rw[e1];rw[e2]at e;rw[<-e];rfl
   exact h.disj k0 (100000+n) av0 _ g h0 h3 h5 (H4 dH) dB (by simp) kF hg this
  rw[World.cell?_of_block (w:=w) (eC _ mA)];exact h7 i hi
 ·rw[lN (by unfold i7;omega)]at h1 h2;exact h.fdis n o o' av1 av2 h1 h2
 ·rw[kM];by_cases e:k0=k
  ·subst e;rw[lS]at h1;cases h1;exact pS kL
  ·rw[lN e]at h1;by_cases h7:av'.t=7
   ·exact a3A h7
   ·exact(h.obj k av' h1 h2).move kL (λ_ hl=>⟨hl,rfl⟩) λg' dI=>eC g' λe2=>h.disj k0 k av0 av' g h0 h1 h5 h2 dB h7 e hg (e2▸dI)
 ·rw[eH];by_cases e:k0=k
  ·subst e;rw[lS]at h1;cases h1;obtain⟨g1,g2,g3⟩:=h.blk k0 av0 g' h0 h5 dB h4;exact⟨by rw[b9b ht];exact g1,g2,hnd g' g3⟩
  ·rw[lN e]at h1;exact h.blk k av' g' h1 h2 h3 h4
 ·have conv:∀q (aq:AV),look ((k0,av)::s) q=some aq->aq.t≠7->∃aq',look s q=some aq'/\aq'.t≠7:=λq aq h8 h9=>by
   by_cases e:k0=q
   ·exact⟨av0,by rw[<-e];exact h0,dB⟩
   ·rw[lN e]at h8;exact⟨aq,h8,h9⟩
  obtain⟨a1,b1,c1⟩:=conv k av1 h1 h6
  obtain⟨a2,b2,c2⟩:=conv k' av2 h2 h7
  exact h.disj k k' a1 a2 g' b1 b2 h3 h4 c1 c2 kF
 ·rw[eH];exact h.dlt b o hd
theorem c0L(nn:Nat)(hg:Gd w0 U0 nt ops o gs S)(hd:o.dst=some d)(hn:Nat.blt d nt=true)(h5:Nat.blt d 100000=true){t:TypeId}(ho:o.op=.makeMap t none)(bH:(Nat.ble 200000 nn&&Nat.blt nn 400000)=true):AOp P w0 U0 nt ops o gs [(nn,[])] S [(d,.mref nn),(nn,.mp [])]:=by
 intro s hs hN a w ⟨D,hv,h⟩ Q K hK;rw[if_pos (hg s hs a w D hv h)];have kN:=rnB bH;have he:(execOp a.eval o).run P w=.ok (.value (.map (some w.heap.size))) (w.alloc (.map #[] 0)):=by simp[execOp,ho,Instr.makeMap,run_newObj_alloc]
 unfold Oper.wp;rw[he,Oper.upon_value,hd];have hb':Below w.heap.size w (w.alloc (.map #[] 0)):=(Below.refl _ _).alloc (Nat.le_refl _) _;have hG:=h.newrow (X:=λ_=>False) (avn:=.mp []) (v':=.map (some w.heap.size)) (D':=D) kN (hN (nn,[]) (by simp)).nr (by simp) ((BelowX.refl _ w).step hb') (λb hb=>hb.elim) (λg hg=>by have hg:some w.heap.size=some g:=hg;cases hg;refine⟨.inr (Nat.le_refl _),by simp,λo _ hd=>?_⟩;have:=h.dlt _ _ hd;omega) (λb o hd => .inl hd) (λb o hd=>Nat.lt_of_lt_of_le (h.dlt _ _ hd) hb'.size) (Q6 h.dlt hb' λ_ _ h=>h) (λhv lv=>⟨w.heap.size,#[],0,rfl,x8 _ _,rfl,by simp,by simp⟩)
 refine hK _ _ ⟨_,_,hG.put (bL hn) (bL h5) ⟨RW.rn kN,?_,rfl⟩⟩;simp
theorem zbp{P:Program}{w0:World}{U0:UX}{nt:Nat}{ops:Array Oper}{o:Oper}{S:Nat->Option AV}{gs:List Nat}{d:Nat}{t:TypeId}(nn:Nat)(p:Gd w0 U0 nt ops o gs S:=by exact gN rfl)(q:o.dst=some d:=by exact rfl)(r:Nat.blt d nt=true:=by exact rfl)(u:Nat.blt d 100000=true:=by exact rfl)(v:o.op=.makeMap t none:=by exact rfl)(x:(Nat.ble 200000 nn&&Nat.blt nn 400000)=true:=by exact rfl):AOp P w0 U0 nt ops o gs [(nn,[])] S [(d,.mref nn),(nn,.mp [])]:=c0L nn p q r u v x
theorem a8X{U:Nat->Nat->Prop}:∀{l:List CV} {es:List MapEntry} {j:Nat} {c:CV},Ents U w l es->l[j]?=some c->∃e,es[j]?=some e/\Ent U w c e
 | [],_,_,_,_,h=>by simp at h
 | x::l,es,0,c,⟨e,es',h1,h2,h3⟩,h=>by simp at h;subst h;exact⟨e,by rw[h1];rfl,h2⟩
 | x::l,es,j+1,c,⟨e,es',h1,h2,h3⟩,h=>by
  obtain⟨e',g1,g2⟩:=a8X h3 (j:=j) (c:=c) (by simpa using h);exact⟨e',by rw[h1];simpa using g1,g2⟩
theorem a1W{U:Nat->Nat->Prop}:∀{l:List CV} {es:List MapEntry},Ents U w l es->es.length=l.length
 | [],_,h=>by have h:_=[]:=h;rw[h];rfl
 | x::l,es,⟨e,es',h1,h2,h3⟩=>by rw[h1,length_cons,length_cons,a1W h3]
def A5(k:IntKind)(l:List CV):Prop:=∀r∈l,∃i c,r=.row [.sc (.int k i),c]
def G4(k:IntKind)(i:Int):List CV->Option CV
 | []=>none
 | ⟨_,_,[⟨_,.int k' j,_⟩,c]⟩::l=>if k'=k/\j=i then some c else G4 k i l
 | _::l=>G4 k i l
theorem R9{k:IntKind}{i j:Int}{c:CV}{l:List CV}:G4 k i (.row [.sc (.int k j),c]::l)=if j=i then some c else G4 k i l:=by
 rw[G4];simp
theorem M7{U:Nat->Nat->Prop}{k:IntKind}{i:Int}:∀{l:List CV} {es:List MapEntry} (n:Nat),Ents U w l es->A5 k l ->
  (Instr.findNow (.int k) (.int k i) es n=some none/\G4 k i l=none)\/∃j e c,Instr.findNow (.int k) (.int k i) es n=some (some (n+j,e.val))/\es[j]?=some e/\l[j]?=some (.row [.sc (.int k i),c])/\VRep U w c e.val/\e.key=.int k i/\G4 k i l=some c
 | [],es,n,h,_=>by have h:es=[]:=h;subst h;exact .inl ⟨rfl,rfl⟩
 | r::l,es,n,⟨e,es',h1,⟨k1,c1,g2,g3,g4,g5⟩,h3⟩,hk=>by
  obtain⟨j0,c0,e1⟩:=hk r (by simp);rw[e1]at g2;injection g2 with _ _ g6;injection g6 with g6 g7;injection g7 with g7 _;subst g7;have cH:e.key=.int k j0:=by rw[g4,<-g6]
  subst h1;rw[e1,R9];by_cases hj:j0=i
  ·subst hj;right;refine⟨0,e,c0,?_,rfl,rfl,g5,cH,by rw[if_pos rfl]⟩;simp[Instr.findNow,Instr.sameNow,cH]
  ·rw[if_neg hj];have hs:Instr.sameNow (.int k) (.int k i) e.key=some false:=by rw[cH];simp[Instr.sameNow];exact λh=>hj h.symm
   rcases M7 (n+1) h3 (λx hx=>hk x (mem_cons_of_mem _ hx)) with⟨f1,f2⟩ | ⟨j,e',c,f1,f2,f3,f4,f5,f6⟩
   ·left;exact⟨by simp[Instr.findNow,hs,f1],f2⟩
   ·right;refine⟨j+1,e',c,?_,by simpa using f2,by simpa using f3,f4,f5,f6⟩;simp[Instr.findNow,hs,f1];omega
theorem b7R(hg:Gd w0 U0 nt ops o gs S)(hd:o.dst=some d)(hn:Nat.blt d nt=true)(h5:Nat.blt d 100000=true){x y:Operand}{t kt et:TypeId}{k:IntKind}{i:Int}{n:Nat}{l:List CV}{zc:CV}{n' q' p'}(ho:o.op=.lookup t x y true)(hu:P.underlying t=some (.map kt et))(eZ:P.underlying kt=some (.int k))(nZ:Y5 P et=some zc)(hx:ev S x=some (.mref n))(hy:ev S y=some ⟨0,.sc (.int k i),n',q',p'⟩)(bS:S n=some (.mp l))(hik:A5 k l)(hzr:∀U w v,Rep U w zc v.cells.toList->(∃it,P.info? et=some it/\it.zero=some v)->VRep U w zc v):AOp P w0 U0 nt ops o (gs++(rd x++(rd y++[n]))) [] S [(d,.tup [(G4 k i l).getD zc,.b (G4 k i l).isSome])]:=
 l4 hg hd hn h5 (λk hk=>mem_append_left _ hk) λs hs a w D hv hm=>by
  obtain⟨kN,h1,_⟩:RN n/\a.eval x=hv n/\(a.eval x).oneCell'=true:=n5 hm (λk hk=>hs k (mem_append_right _ (mem_append_left _ hk))) hx;have e2:=v9 hm (λk hk=>hs k (mem_append_right _ (mem_append_right _ (mem_append_left _ hk)))) hy;have kH:n4 n:=by unfold RN at kN;unfold n4;omega
  obtain⟨g,es,clock,g1,g2,g3,g4,g5⟩:∃g es clock,hv n=.map (some g)/\w.heap[g]?=some (.map es clock)/\Ents (Us w0 U0 D) w l es.toList/\(∀e∈es,e.born<clock)/\(es.toList.map (λe:MapEntry=>e.born)).Nodup:=hm.obj n _ ((hs n (by simp)).trans bS) kH;obtain⟨it,zv,i1,i2,i3⟩:=N8 nZ;have dS:=run_checkKey (P:=P) (w:=w) eZ (k:=.int k i) rfl es.isEmpty 9999;have dD:=Go.MapKept.run_getObj_map (P:=P) g2;rcases M7 0 g3 hik (i:=i) with⟨f1,f2⟩ | ⟨j,e,c,f1,f2,f3,f4,f5,f6⟩
  ·have dE:=run_findKey (P:=P) (w:=w) eZ f1;have sQ:(zeroValue et).run P w=.ok zv w:=by simp[zeroValue,typeInfo,i1,i2]
   refine⟨.tuple #[zv,.bool false],?_,?_⟩
   ·rw[g1]at h1;generalize a.eval=ρ at h1 e2 |-;simp[execOp,ho,Instr.lookup,run_underlying hu,h1,e2,dD,dS,dE,sQ]
   ·rw[f2];exact⟨[zv,.bool false],rfl,zv,[.bool false],rfl,hzr _ _ zv (i3 _ _) ⟨it,i1,i2⟩,.bool false,[],rfl,o0.2 ⟨rfl,rfl⟩,rfl⟩
  ·have dE:=run_findKey (P:=P) (w:=w) eZ f1;refine⟨.tuple #[e.val,.bool true],?_,?_⟩
   ·rw[g1]at h1;generalize a.eval=ρ at h1 e2 |-;simp[execOp,ho,Instr.lookup,run_underlying hu,h1,e2,dD,dS,dE]
   ·rw[f6];exact⟨[e.val,.bool true],rfl,e.val,[.bool true],rfl,f4,.bool true,[],rfl,o0.2 ⟨rfl,rfl⟩,rfl⟩
theorem aNc(hg:Gd w0 U0 nt ops o gs S)(hd:o.dst=some d)(hn:Nat.blt d nt=true)(h5:Nat.blt d 100000=true){x:Operand}{n q:Nat}{p:List Nat}{c:CV}(ho:o.op=.nilCheck x)(hx:ev S x=some ⟨2,c,n,q,p⟩):AOp P w0 U0 nt ops o (gs++rd x) [] S [(d,⟨2,c,n,q,p⟩)]:=
 l4 hg hd hn h5 (λk hk=>mem_append_left _ hk) λs hs a w D hv hm=>by obtain⟨bK,h1⟩:BN n/\a.eval x=.pointer (some ⟨q6 (hv (100000+n)),q,none⟩):=n5 hm (λk hk=>hs k (mem_append_right _ hk)) hx;refine⟨.pointer (some ⟨q6 (hv (100000+n)),q,none⟩),?_,bK,rfl⟩;generalize a.eval=ρ at h1 |-;simp[execOp,ho,h1]
theorem z5{P:Program}{w0:World}{U0:UX}{nt:Nat}{ops:Array Oper}{o:Oper}{S:Nat->Option AV}{gs:List Nat}{d:Nat}{x:Operand}{n:Nat}{q:Nat}{p:List Nat}{c:CV}(r:Gd w0 U0 nt ops o gs S:=by exact gN rfl)(t:o.dst=some d:=by exact rfl)(u:Nat.blt d nt=true:=by exact rfl)(v:Nat.blt d 100000=true:=by exact rfl)(y:o.op=.nilCheck x:=by exact rfl)(z:ev S x=some ⟨2,c,n,q,p⟩:=by exact rfl):AOp P w0 U0 nt ops o (gs++rd x) [] S [(d,⟨2,c,n,q,p⟩)]:=aNc r t u v y z
def a3p(k:IntKind)(i:Int)(c:CV):List CV->List CV
 | []=>[.row [.sc (.int k i),c]]
 | r::l=>match r with
  | ⟨_,_,[⟨_,.int k' j,_⟩,_]⟩=>if k'=k/\j=i then .row [.sc (.int k i),c]::l else r::a3p k i c l
  | _=>r::a3p k i c l
theorem a5P{k:IntKind}{i j:Int}{c c':CV}{l:List CV}:a3p k i c (.row [.sc (.int k j),c']::l)=if j=i then .row [.sc (.int k i),c]::l else .row [.sc (.int k j),c']::a3p k i c l:=by
 rw[a3p];simp
theorem a0k{k:IntKind}{i:Int}(c:CV):∀{l:List CV},A5 k l->(G4 k i l=none->a3p k i c l=l++[.row [.sc (.int k i),c]])/\∀j c',l[j]?=some (.row [.sc (.int k i),c'])->(∀j' c'',j'<j->l[j']?≠some (.row [.sc (.int k i),c'']))->a3p k i c l=l.set j (.row [.sc (.int k i),c])
 | [],_=>⟨λ_=>rfl,λj c' h=>by simp at h⟩
 | r::l,hk=>by
  obtain⟨j0,c0,rfl⟩:=hk r (by simp);obtain⟨ih1,ih2⟩:=a0k c (l:=l) (λx hx=>hk x (mem_cons_of_mem _ hx));rw[a5P,R9];by_cases hj:j0=i
  ·subst hj;rw[if_pos rfl,if_pos rfl];refine⟨(λh=>by cases h),λj c' h hf=>?_⟩;cases j with
   | zero=>rfl
   | succ j=>exact absurd rfl (hf 0 c0 (by omega))
  ·rw[if_neg hj,if_neg hj];refine⟨λh=>by rw[ih1 h];rfl,λj c' h hf=>?_⟩;cases j with
   | zero =>
    simp at h;exact absurd h.1 hj
   | succ j =>
    rw[ih2 j c' (by simpa using h) λj' c'' kA=>by have:=hf (j'+1) c'' (by omega);simpa using this];rfl
theorem a0S{U:Nat->Nat->Prop}{k:IntKind}{i:Int}:∀{l:List CV} {es:List MapEntry} (n:Nat) {j:Nat} {v:Value},Ents U w l es->A5 k l->Instr.findNow (.int k) (.int k i) es n=some (some (n+j,v))->∀j' c'',j'<j->l[j']?≠some (.row [.sc (.int k i),c''])
 | [],es,n,j,v,h,_,hf=>by have h:es=[]:=h;subst h;cases hf
 | r::l,es,n,j,v,⟨e,es',h1,⟨k1,c1,g2,g3,g4,g5⟩,h3⟩,hk,hf=>by
  obtain⟨j0,c0,e1⟩:=hk r (by simp);rw[e1]at g2;injection g2 with _ _ g6;injection g6 with g6 g7;have cH:e.key=.int k j0:=by rw[g4,<-g6]
  subst h1;intro j' c'' kA hr;by_cases hj:j0=i
  ·subst hj;simp[Instr.findNow,Instr.sameNow,cH]at hf;omega
  ·have hs:Instr.sameNow (.int k) (.int k i) e.key=some false:=by rw[cH];simp[Instr.sameNow];exact λh=>hj h.symm
   simp[Instr.findNow,hs]at hf;cases j' with
   | zero =>
    rw[e1]at hr;simp at hr;exact hj hr.1
   | succ j' =>
    obtain⟨j2,rfl⟩:∃j2,j=j2+1:=⟨j-1,by omega⟩
    exact a0S (n+1) (j:=j2) h3 (λx hx=>hk x (mem_cons_of_mem _ hx)) (by rw[hf];congr 3;omega) j' c'' (by omega) (by simpa using hr)
theorem a5D{U:Nat->Nat->Prop}{r:CV}{e':MapEntry}:∀{l:List CV} {es:List MapEntry} {j:Nat},Ents U w l es->Ent U w r e'->Ents U w (l.set j r) (es.set j e')
 | [],es,j,h,_=>by have h:es=[]:=h;subst h;exact rfl
 | x::l,es,0,⟨e,es',h1,h2,h3⟩,hr=>by rw[h1];exact⟨e',es',rfl,hr,h3⟩
 | x::l,es,j+1,⟨e,es',h1,h2,h3⟩,hr=>by rw[h1];exact⟨e,es'.set j e',rfl,h2,a5D h3 hr⟩
theorem a2s{U:Nat->Nat->Prop}{r:CV}{e':MapEntry}:∀{l:List CV} {es:List MapEntry},Ents U w l es->Ent U w r e'->Ents U w (l++[r]) (es++[e'])
 | [],es,h,hr=>by have h:es=[]:=h;subst h;exact⟨e',[],rfl,hr,rfl⟩
 | x::l,es,⟨e,es',h1,h2,h3⟩,hr=>by rw[h1];exact⟨e,es'++[e'],rfl,h2,a2s h3 hr⟩
theorem c0O(hg:Gd w0 U0 nt ops o gs S)(hd:o.dst=none){x y z:Operand}{t kt et:TypeId}{k:IntKind}{i:Int}{n:Nat}{l:List CV}{c:CV}{n' q' p' n2 q2 p2}(ho:o.op=.mapUpdate t x y z)(hu:P.underlying t=some (.map kt et))(eZ:P.underlying kt=some (.int k))(hx:ev S x=some (.mref n))(hy:ev S y=some ⟨0,.sc (.int k i),n',q',p'⟩)(hz:ev S z=some ⟨0,c,n2,q2,p2⟩)(bS:S n=some (.mp l))(hik:A5 k l):AOp P w0 U0 nt ops o (gs++(rd x++(rd y++(rd z++[n])))) [] S [(n,.mp (a3p k i c l))]:=by
 intro s hs hN a w ⟨D,hv,h⟩ Q K hK;rw[if_pos (hg s (λk hk=>hs k (mem_append_left _ hk)) a w D hv h)];have hm:=(hs n (by simp)).trans bS;obtain⟨kN,h1,_⟩:RN n/\a.eval x=hv n/\(a.eval x).oneCell'=true:=n5 h (λk hk=>hs k (mem_append_right _ (mem_append_left _ hk))) hx;have e2:=v9 h (λk hk=>hs k (mem_append_right _ (mem_append_right _ (mem_append_left _ hk)))) hy;have e3:=A7 h (λk hk=>hs k (mem_append_right _ (mem_append_right _ (mem_append_right _ (mem_append_left _ hk))))) hz;have kH:n4 n:=by unfold RN at kN;unfold n4;omega
 obtain⟨g,es,clock,g1,g2,g3,g4,g5⟩:∃g es clock,hv n=.map (some g)/\w.heap[g]?=some (.map es clock)/\Ents (Us w0 U0 D) w l es.toList/\(∀e∈es,e.born<clock)/\(es.toList.map (λe:MapEntry=>e.born)).Nodup:=h.obj n _ hm kH;have dS:=run_checkKey (P:=P) (w:=w) eZ (k:=.int k i) rfl false 9999;have dD:=Go.MapKept.run_getObj_map (P:=P) g2;obtain⟨p1,p2'⟩:=a0k (i:=i) c hik;have fin:∀(es':Array MapEntry) (clock':Nat),(execOp a.eval o).run P w=.ok .skip { w with heap:=w.heap.setIfInBounds g (.map es' clock') }->Ents (Us w0 U0 D) w (a3p k i c l) es'.toList->(∀e∈es',e.born<clock')->(es'.toList.map (λe:MapEntry=>e.born)).Nodup->o.wp P a w K Q:=λes' clock' he k1 k2 k3=>by obtain⟨q1,q2⟩:=heap_set (o':=Obj.map es' clock') g2;unfold Oper.wp;rw[he,Oper.upon_skip,hd];refine hK _ _ ⟨_,_,h.upd (av:=.mp (a3p k i c l)) (g:=g) kH hm (by simp) (by simp) rfl (λg' hn o _=>hn o (by simp)) (by simp) (by rw[g1];rfl) rfl rfl rfl (by simp) q2 λbC=>?_⟩;exact⟨g,es',clock',g1,q1,k1.keep bC,k2,k3⟩
 rcases M7 0 g3 hik (i:=i) with⟨f1,f2⟩ | ⟨j,e,c',f1,f2,f3,f4,f5,f6⟩
 ·have dE:=run_findKey (P:=P) (w:=w) eZ f1;refine fin (es.push { key:=.int k i,val:=a.eval z,born:=clock }) (clock+1) ?_ ?_ ?_ ?_
  ·rw[g1]at h1;have oC:=run_setObj_map (P:=P) (Obj.map (es.push { key:=.int k i,val:=a.eval z,born:=clock }) (clock+1)) g2;generalize a.eval=ρ at h1 e2 oC |-;simp[execOp,ho,Instr.mapUpdate,run_underlying hu,h1,e2,dD,dS,dE,oC]
  ·rw[p1 f2,Array.toList_push];exact a2s g3 ⟨.sc (.int k i),c,rfl,rfl,rfl,e3⟩
  ·intro e he;rcases Array.mem_push.1 he with he | rfl
   ·have:=g4 e he;omega
   ·exact Nat.lt_succ_self _
  ·rw[Array.toList_push,map_append,List.nodup_append];refine⟨g5,by simp,λa1 h1 b1 h2=>?_⟩;simp at h1 h2;obtain⟨e,he,rfl⟩:=h1;have:=g4 e he;omega
 ·have dE:=run_findKey (P:=P) (w:=w) eZ f1;rw[Nat.zero_add]at dE;have gI:j<es.size:=by have:=(List.getElem?_eq_some_iff.1 f2).1;simpa using this
  have vT:es[j]?=some e:=by rw[<-Array.getElem?_toList];exact f2
  have qJ:(es.modify j λe=>{ e with key:=.int k i,val:=a.eval z }).toList=es.toList.set j { e with key:=.int k i,val:=a.eval z }:=by
   rw[Array.toList_modify];apply ext_getElem?;intro q;rw[List.getElem?_modify,List.getElem?_set];by_cases hq:j=q
   ·subst hq;have:es[j]=e:=(Array.getElem?_eq_some_iff.1 vT).2;simp[gI,this]
   ·simp[hq]
  have cM:(es.modify j λe=>{ e with key:=.int k i,val:=a.eval z }).toList.map (λe:MapEntry=>e.born)=es.toList.map (λe:MapEntry=>e.born):=by
   rw[qJ,List.map_set];apply ext_getElem?;intro q;rw[List.getElem?_set];by_cases hq:j=q
   ·subst hq;rw[if_pos rfl,if_pos (by simpa using gI),List.getElem?_map,f2];rfl
   ·rw[if_neg hq]
  refine fin (es.modify j λe=>{ e with key:=.int k i,val:=a.eval z }) clock ?_ ?_ ?_ ?_
  ·rw[g1]at h1;have oC:=run_setObj_map (P:=P) (Obj.map (es.modify j λe=>{ e with key:=.int k i,val:=a.eval z }) clock) g2;have dJ:(Instr.keyThatStays (.int k i) (.int k i)).run P w=.ok (.int k i) w:=by simp[Instr.keyThatStays,Instr.sameBits]
   generalize a.eval=ρ at h1 e2 oC |-;simp[execOp,ho,Instr.mapUpdate,run_underlying hu,h1,e2,dD,dS,dE,vT,f5,dJ,oC]
  ·rw[qJ,p2' j c' f3 (a0S 0 (j:=j) g3 hik f1)];exact a5D g3 ⟨.sc (.int k i),c,rfl,rfl,rfl,e3⟩
  ·intro e' he;have h6:e'.born∈(es.modify j λe=>{ e with key:=.int k i,val:=a.eval z }).toList.map (λe:MapEntry=>e.born):=mem_map.2 ⟨e',Array.mem_toList_iff.2 he,rfl⟩;rw[cM]at h6;obtain⟨e4,h7,h8⟩:=mem_map.1 h6;rw[<-h8];exact g4 e4 (by simpa using h7)
  ·rw[cM];exact g5
theorem zbf{P:Program}{w0:World}{U0:UX}{nt:Nat}{ops:Array Oper}{o:Oper}{S:Nat->Option AV}{gs:List Nat}{x:Operand}{y:Operand}{z:Operand}{t:TypeId}{kt:TypeId}{et:TypeId}{k:IntKind}{i:Int}{n:Nat}{l:List CV}{c:CV}{n'}{q'}{p'}{n2}{q2}{p2}(p:Gd w0 U0 nt ops o gs S:=by exact gN rfl)(r:o.dst=none:=by exact rfl)(u:o.op=.mapUpdate t x y z:=by exact rfl)(v:P.underlying t=some (.map kt et):=by exact rfl)(A:P.underlying kt=some (.int k):=by exact rfl)(B:ev S x=some (.mref n):=by exact rfl)(C:ev S y=some ⟨0,.sc (.int k i),n',q',p'⟩:=by exact rfl)(E:ev S z=some ⟨0,c,n2,q2,p2⟩:=by exact rfl)(F:S n=some (.mp l):=by exact rfl)(G:A5 k l):AOp P w0 U0 nt ops o (gs++(rd x++(rd y++(rd z++[n])))) [] S [(n,.mp (a3p k i c l))]:=c0O p r u v A B C E F G
end
end
section
variable{P:Program}{w0:World}{U0:UX}{nt:Nat}{ops:Array Oper}{o:Oper}{S:Nat->Option AV}{gs:List Nat}{d:Nat}{s:AS}{a:Act}{w:World}{D:Nat->Nat->Prop}{hv:Nat->Value}
theorem b5G{t k e:TypeId}(hu:P.underlying t=some (.map k e))(w:World):(Op.equal t (.map none) (.map none)).run P w=.ok true w:=by
 unfold Op.equal;rw[show Op.maxDepth=9999+1 from rfl,Op.equalIn];simp[run_underlying hu]
theorem b7d{t ty e:TypeId}{z:Value}{size bytes:Nat}(ht:P.underlying t=some (.slice e))(hi:(P.info? e).map (λi=>(i.zero,i.size,i.bytes))=some (some z,size,bytes))(bP:z.cells.size=size)(kC:0<size)
  {ao1:Option Addr} {n:Nat} {xs:List Value} {U:Nat->Nat->Prop} (vU:ao1=none->n=0) (kP:At U w ao1 xs) (fA:xs.length=n*size) {ao:Option Addr} {m c:Nat} {ys:List Value} (dA:ao=none->m=0) (hb:At U w ao ys) (hl:ys.length=m*size) (h1:∀u∈ys,u.oneCell'=true) (hm:0<m) (oV:n+m<=maxLen) (bB:(n+m)*bytes<=140737488355328) :
  ∃v' w',Sem.run P (Builtin.append_ #[t,t] ty #[.slice ao1 n n,.slice ao m c]) w=.ok v' w'/\w'.ownsRow w.heap.size e size v' (n+m) (xs++ys)/\w.grownBy w' none:=by
 obtain⟨i,bF,bZ,cA,eN⟩:=info_parts hi;have cJ:∀{ad:Addr} {zs:List Value},At U w (some ad) zs->∀j u,zs[j]?=some u->w.cell? (ad.add j)=some u:=fun{ad zs} hA j u hj=>by
  have gI:j<zs.length:=by
   rcases Nat.lt_or_ge j zs.length with h | h
   ·exact h
   ·rw[getElem?_eq_none h]at hj;cases hj
  rcases hA with rfl | ⟨b,off,ha,hc⟩
  ·simp at gI
  ·cases ha;rw[Y0,(hc j gI).2,hj]
 cases ao with
 | none=>have:=dA rfl;omega
 | some ad =>
  cases ao1 with
  | none =>
   have hn:=vU rfl;subst hn;have:xs=[]:=eq_nil_of_length_eq_zero (by simpa using fA);subst this;obtain⟨v',w',hr,ho,hg,_⟩:=run_append_own (P:=P) w w.heap.size t ty e i z size bytes ht bF bZ cA eN bP kC (.slice none 0 0) 0 [] (World.ownsRow_nil _ _ _ _) ad m c ys hl (cJ hb) h1 oV bB (Nat.le_refl _);exact⟨v',w',hr,ho,hg⟩
  | some ad1=>exact run_append_arg_grows (P:=P) w t ty e i z size bytes ht bF bZ cA eN bP kC ad1 n n xs fA (cJ kP) ad m c ys hl (cJ hb) (by omega) oV bB
theorem b5h(z:List Value)(hz:0<z.length)(n:Nat):(madeCells z.toArray (n*z.length)).toList=(List.replicate n z).flatten:=by
 apply ext_getElem?;intro k;rw[O5 hz _ (λv hv=>by rw[List.eq_of_mem_replicate hv])];have kD:(madeCells z.toArray (n*z.length)).toList.length=n*z.length:=by simp[size_madeCells]
 rcases Nat.lt_or_ge k (n*z.length)with h | h
 ·have hd:k / z.length<n:=by rw[Nat.div_lt_iff_lt_mul hz];exact h
  have hm:k % z.length<z.length:=Nat.mod_lt _ hz;rw[getElem?_replicate,if_pos hd];simp only[Option.bind_some];rw[List.getElem?_eq_getElem hm];simp[madeCells,h,hm]
 ·rw[getElem?_eq_none (by omega),getElem?_replicate,if_neg]
  ·rfl
  ·rw[Nat.not_lt,Nat.le_div_iff_mul_le hz];exact h
theorem c4F(nn:Nat)(hg:Gd w0 U0 nt ops o gs S)(hd:o.dst=some d)(hn:Nat.blt d nt=true)(h5:Nat.blt d 100000=true){x y:Operand}{t e size bytes k:Nat}{z:Value}{zc:CV}{i1 i2:Int}{k1 k2:IntKind}{n1 q1 p1 n2 q2 p2}(ho:o.op=.makeSlice t x y)(ht:P.underlying t=some (.slice e))(hi:(P.info? e).map (λi=>(i.zero,i.size,i.bytes))=some (some z,size,bytes))(nZ:Y5 P e=some zc)(bP:Nat.beq z.cells.size size=true)(rI:zc.size=size)(kC:Nat.blt 0 size=true)(dP:Nat.ble bytes 1000=true)
  (hx:ev S x=some ⟨0,.sc (.int k1 i1),n1,q1,p1⟩) (hy:ev S y=some ⟨0,.sc (.int k2 i2),n2,q2,p2⟩) (bH:(Nat.ble 200000 nn&&Nat.blt nn 400000)=true) (h1:i1=(k:Int)) (h2:i2=(k:Int)) (dG:Nat.ble size 160=true) (bR:k<=100000) :
  AOp P w0 U0 nt ops o (gs++(rd x++rd y)) [(nn,[])] S [(d,.sl nn 0 k size),(nn,.mrow e size (List.replicate k zc))]:=by
 intro s hs hN a w ⟨D,hv,h⟩ Q K hK;rw[if_pos (hg s (λk hk=>hs k (mem_append_left _ hk)) a w D hv h)];have e1:=v9 h (λk hk=>hs k (mem_append_right _ (mem_append_left _ hk))) hx;have e2:=v9 h (λk hk=>hs k (mem_append_right _ (mem_append_right _ hk))) hy;subst h1;subst h2;obtain⟨i,bF,bZ,cA,eN⟩:=info_parts hi;have kC:=bL kC;have dP:=Nat.le_of_ble_eq_true dP;have bP:=Nat.eq_of_beq_eq_true bP;have nE:bytes*k<=1000*100000:=Nat.mul_le_mul dP bR;have hk:k*size<=100000*160:=Nat.mul_le_mul bR (Nat.le_of_ble_eq_true dG);obtain⟨w',r1,r2,r3⟩:=run_makeSlice_full (P:=P) (w:=w) w.heap.size t e i z size ht bF bZ cA k1 k2 k (by omega) (by rw[eN];omega) (by unfold maxLen;omega) (Nat.le_refl _);have dV:=rnB bH;obtain⟨it,z',f1,f2,f3⟩:=N8 nZ;rw[bF]at f1;cases f1;rw[bZ]at f2;cases f2;have hmf:(madeCells z.cells (k*size)).toList=(List.replicate k z.cells.toList).flatten:=by have:=b5h z.cells.toList (by simpa[bP]using kC) k;simpa[bP]using this
 rw[hmf]at r2;have bC:∀b o u,Us w0 U0 D b o->w.cell? ⟨b,o,none⟩=some u->Us w0 U0 D b o/\w'.cell? ⟨b,o,none⟩=some u:=λb o u hu hc=>by refine⟨hu,?_⟩;have kA:b<w.heap.size:=World.block_lt_of_cell? w _ hc;rw[World.cell?_of_block (w:=w) (r3.block b kA (by simp))];exact hc
 have hG:=h.newrow (avn:=.mrow e size (List.replicate k zc)) (v':=.slice (some ⟨w.heap.size,0,none⟩) k k) (D':=D) (X:=λ_=>False) (n:=nn) dV (hN (nn,[]) (by simp)).nr (by simp) ⟨r3.os,r3.tape,r3.output,r3.size,λb hb hx=>r3.block b hb (by simp)⟩ (λb hb=>hb.elim) (λg hg=>by
   have hg:(Value.slice (some ⟨w.heap.size,0,none⟩) k k).ownBlock=some g:=hg;refine⟨.inr (r2.lt g hg).1,(r2.lt g hg).2,λo _ hd=>?_⟩;have:=(r2.lt g hg).1;have:=h.dlt _ _ hd;omega) (λb o hd => .inl hd) (λb o hd=>Nat.lt_of_lt_of_le (h.dlt _ _ hd) r3.size) bC (λhv lv=>by
   refine⟨(List.replicate k z.cells.toList).flatten,?_,kC,λc hc=>?_,a8D (f3 _ _) k⟩
   ·show w'.ownsRow 0 e size _ (List.replicate k zc).length _;rw[List.length_replicate];exact r5 r2 (Nat.zero_le _)
   ·rw[List.eq_of_mem_replicate hc];exact rI)
 have he:(execOp a.eval o).run P w=.ok (.value (.slice (some ⟨w.heap.size,0,none⟩) k k)) w':=by generalize a.eval=ρ at e1 e2 |-;simp[execOp,ho,e1,e2,r1]
 unfold Oper.wp;rw[he,Oper.upon_value,hd];refine hK _ _ ⟨_,_,hG.put (bL hn) (bL h5) ⟨RW.rn dV,?_⟩⟩;show SlV ((λx=>if x=nn then Value.slice (some ⟨w.heap.size,0,none⟩) k k else hv x) nn) 0 k size _;simp only[if_true];exact J4 rfl (Nat.le_refl _) (.inr ⟨_,rfl⟩)
theorem zbi{P:Program}{w0:World}{U0:UX}{nt:Nat}{ops:Array Oper}{o:Oper}{S:Nat->Option AV}{gs:List Nat}{d:Nat}{x:Operand}{y:Operand}{t:Nat}{e:Nat}{size:Nat}{bytes:Nat}{k:Nat}{z:Value}{zc:CV}{i1:Int}{i2:Int}{k1:IntKind}{k2:IntKind}{n1}{q1}{p1}{n2}{q2}{p2}(nn:Nat)(p:Gd w0 U0 nt ops o gs S:=by exact gN rfl)(q:o.dst=some d:=by exact rfl)(r:Nat.blt d nt=true:=by exact rfl)(v:Nat.blt d 100000=true:=by exact rfl)(A:o.op=.makeSlice t x y:=by exact rfl)(B:P.underlying t=some (.slice e):=by exact rfl)(C:(P.info? e).map (λi=>(i.zero,i.size,i.bytes))=some (some z,size,bytes):=by exact rfl)(E:Y5 P e=some zc:=by exact rfl)(F:Nat.beq z.cells.size size=true:=by exact rfl)(G:zc.size=size:=by exact rfl)(H:Nat.blt 0 size=true:=by exact rfl)(dP:Nat.ble bytes 1000=true:=by exact rfl)(hx:ev S x=some ⟨0,.sc (.int k1 i1),n1,q1,p1⟩:=by exact rfl)(hy:ev S y=some ⟨0,.sc (.int k2 i2),n2,q2,p2⟩:=by exact rfl)(bH:(Nat.ble 200000 nn&&Nat.blt nn 400000)=true:=by exact rfl)(h1:i1=(k:Int):=by first | rfl | omega | (simp only[length_set,length_map,length_append,length_cons,length_nil]<;>omega) | (simp<;>omega))(h2:i2=(k:Int):=by first | rfl | omega | (simp only[length_set,length_map,length_append,length_cons,length_nil]<;>omega) | (simp<;>omega))(dG:Nat.ble size 160=true:=by exact rfl)(bR:k<=100000:=by first | rfl | omega | (simp only[length_set,length_map,length_append,length_cons,length_nil]<;>omega) | (simp<;>omega)):AOp P w0 U0 nt ops o (gs++(rd x++rd y)) [(nn,[])] S [(d,.sl nn 0 k size),(nn,.mrow e size (List.replicate k zc))]:=c4F nn p q r v A B C E F G H dP hx hy bH h1 h2 dG bR
end
section
variable{P:Program}{w0:World}{U0:UX}{nt:Nat}{ops:Array Oper}{o:Oper}{S:Nat->Option AV}{gs:List Nat}{d:Nat}{s:AS}{a:Act}{w:World}{D:Nat->Nat->Prop}{hv:Nat->Value}
theorem b8i(sz:List Nat)(hg:Gd w0 U0 nt ops o gs S)(hd:o.dst=some d)(hn:Nat.blt d nt=true)(h5:Nat.blt d 100000=true){ty:TypeId}{it:TypeInfo}{cs:Array Value}{zs:List CV}(ho:o.op=.alloc ty)(hi:P.info? ty=some it)(hz:it.zero=some (.agg cs))(h0:zsO sz cs.toList=some zs):AOp P w0 U0 nt ops o gs [(d,[])] S [(d,.bp d 0 []),(100000+d,.bx (.row zs))]:=by
 intro s hs hN a w ⟨D,hv,h⟩ Q K hK;rw[if_pos (hg s hs a w D hv h)];obtain⟨segs,e1,e2,e3,e4,e5⟩:=H9 (U:=Us w0 U0 D) (w:=w) h0;have gG:Rep (Us w0 U0 D) w (.row zs) cs.toList:=by rw[J0,<-e1];exact J8 e4 (λi c hi=>by obtain⟨seg,f1,f2,_⟩:=e5 i c hi;exact⟨seg,f1,f2⟩)
 have he:(execOp a.eval o).run P w=.ok (.value (.pointer (some ⟨w.heap.size,0,none⟩))) (w.alloc (.cells cs ty)):=by simp[execOp,ho,Instr.alloc,zeroValue,typeInfo,hi,hz,D5,Value.cells]
 unfold Oper.wp;rw[he,Oper.upon_value,hd];have:=h.newbox (d:=d) (av:=.bx (.row zs)) (hN (d,[]) (by simp)).nr (bL hn) (bL h5) (.inl rfl) ty (λ_=>gG) (λ_ hl=>absurd hl A9);rw[Array.toArray_toList]at this;exact hK _ _ ⟨_,_,this⟩
theorem zbc{P:Program}{w0:World}{U0:UX}{nt:Nat}{ops:Array Oper}{o:Oper}{S:Nat->Option AV}{gs:List Nat}{d:Nat}{ty:TypeId}{it:TypeInfo}{cs:Array Value}{zs:List CV}(sz:List Nat)(p:Gd w0 U0 nt ops o gs S:=by exact gN rfl)(q:o.dst=some d:=by exact rfl)(r:Nat.blt d nt=true:=by exact rfl)(t:Nat.blt d 100000=true:=by exact rfl)(u:o.op=.alloc ty:=by exact rfl)(v:P.info? ty=some it:=by exact rfl)(x:it.zero=some (.agg cs):=by exact rfl)(y:zsO sz cs.toList=some zs:=by exact rfl):AOp P w0 U0 nt ops o gs [(d,[])] S [(d,.bp d 0 []),(100000+d,.bx (.row zs))]:=b8i sz p q r t u v x y
theorem b7C(sz:List Nat)(hg:Gd w0 U0 nt ops o gs S)(hd:o.dst=some d)(hn:Nat.blt d nt=true)(h5:Nat.blt d 100000=true){t e:TypeId}{m z:Nat}{parts:Array (Nat×Operand)}{it ie:TypeInfo}{cs:Array Value}{zs r:List CV}(ho:o.op=.build t parts)(hu:P.underlying t=some (.array m e))(hi:P.info? t=some it)(hie:P.info? e=some ie)(hz:it.zero=some (.agg cs))(hez:ie.size=z)(kC:sz=List.replicate m z)(h0:zsO sz cs.toList=some zs)(hr:Y2 S parts.toList zs=some r) :
  AOp P w0 U0 nt ops o (gs++rds parts.toList) [] S [(d,.val (.row r))]:=
 l4 hg hd hn h5 (λk hk=>mem_append_left _ hk) λs hs a w D hv hm=>by
  obtain⟨segs,e1,e2,e3,e4,e5⟩:=H9 (U:=Us w0 U0 D) (w:=w) h0;have kD:segs.map List.length=zs.map CV.size:=by rw[e2,e3]
  obtain⟨g1,g2⟩:=V9 (U:=Us w0 U0 D) (w:=w) (ρ:=a.eval) (segs:=segs) hr (λx hx c n q p rQ=>A7 hm (λk hk=>hs k (mem_append_right _ (a4j hx k hk))) rQ) e4 kD (λi c hi=>by obtain⟨seg,f1,f2,_⟩:=e5 i c hi;exact⟨seg,f1,f2⟩);have iK:=a0t (place:=λi=>some (i*ie.size,ie.size)) sz (λi z' iR=>by
   rw[kC,getElem?_replicate]at iR;split at iR
   ·rename_i uC;cases iR;rw[kC,List.take_replicate,List.sum_replicate_nat,hez,Nat.min_eq_left (Nat.le_of_lt uC)]
   ·cases iR) (parts.toList.map λx=>(x.1,a.eval x.2)) segs cs e1.symm e2 (λx hx=>by rw[<-e3];exact g1 x hx)
  refine⟨.agg (G6 segs (parts.toList.map λx=>(x.1,a.eval x.2))).flatten.toArray,?_,n9 (F8.2 ⟨_,rfl,g2⟩)⟩;have hb:P.built t (parts.map λx=>(x.1,a.eval x.2)).toList=some (G6 segs (parts.toList.map λx=>(x.1,a.eval x.2))).flatten.toArray:=by unfold Program.built;rw[hi,hu];simp only[hz,hie];rw[Array.toList_map];exact iK
  have:=run_build w t _ _ hb;generalize a.eval=ρ at this |-;simp[execOp,ho,this]
theorem z9{P:Program}{w0:World}{U0:UX}{nt:Nat}{ops:Array Oper}{o:Oper}{S:Nat->Option AV}{gs:List Nat}{d:Nat}{t:TypeId}{e:TypeId}{m:Nat}{z:Nat}{parts:Array (Nat×Operand)}{it:TypeInfo}{ie:TypeInfo}{cs:Array Value}{zs:List CV}{r:List CV}(sz:List Nat)(u:Gd w0 U0 nt ops o gs S:=by exact gN rfl)(v:o.dst=some d:=by exact rfl)(y:Nat.blt d nt=true:=by exact rfl)(A:Nat.blt d 100000=true:=by exact rfl)(B:o.op=.build t parts:=by exact rfl)(C:P.underlying t=some (.array m e):=by exact rfl)(E:P.info? t=some it:=by exact rfl)(F:P.info? e=some ie:=by exact rfl)(G:it.zero=some (.agg cs):=by exact rfl)(H:ie.size=z:=by exact rfl)(kC:sz=List.replicate m z:=by exact rfl)(h0:zsO sz cs.toList=some zs:=by exact rfl)(hr:Y2 S parts.toList zs=some r:=by exact rfl):AOp P w0 U0 nt ops o (gs++rds parts.toList) [] S [(d,.val (.row r))]:=b7C sz u v y A B C E F G H kC h0 hr
theorem c3b(j:Nat)(hg:Gd w0 U0 nt ops o gs S)(hd:o.dst=some d)(hn:Nat.blt d nt=true)(h5:Nat.blt d 100000=true){x y:Operand}{ty e:TypeId}{m z n q:Nat}{p:List Nat}{k' v' l'}{i:Int}{kd:IntKind}{n2 q2 p2}(ho:o.op=.indexAddr ty x y)(hu:P.underlying ty=some (.array m e))(hz:(P.info? e).map (·.size)=some z)(hx:ev S x=some ⟨2,⟨k',v',l'⟩,n,q,p⟩)(hy:ev S y=some ⟨0,.sc (.int kd i),n2,q2,p2⟩)(hi:i=(j:Int))(hj:Nat.blt j m=true):AOp P w0 U0 nt ops o (gs++(rd x++rd y)) [] S [(d,.bp n (q+j*z) (p++[j]))]:=
 l4 hg hd hn h5 (λk hk=>mem_append_left _ hk) λs hs a w D hv hm=>by obtain⟨bK,h1⟩:BN n/\a.eval x=.pointer (some ⟨q6 (hv (100000+n)),q,none⟩):=n5 hm (λk hk=>hs k (mem_append_right _ (mem_append_left _ hk))) hx;have e2:=v9 hm (λk hk=>hs k (mem_append_right _ (mem_append_right _ hk))) hy;have kC:=D4 (P:=P) (w:=w) hz;have hj:=bL hj;subst hi;refine⟨.pointer (some ⟨q6 (hv (100000+n)),q+j*z,none⟩),?_,bK,rfl⟩;have bQ:=Y0 (q6 (hv (100000+n))) q (j*z);generalize a.eval=ρ at h1 e2 |-;simp[execOp,ho,Instr.indexAt,asIntOf,run_underlying hu,Instr.sureAddr,h1,e2,hj,kC,bQ]
theorem zbd{P:Program}{w0:World}{U0:UX}{nt:Nat}{ops:Array Oper}{o:Oper}{S:Nat->Option AV}{gs:List Nat}{d:Nat}{x:Operand}{y:Operand}{ty:TypeId}{e:TypeId}{m:Nat}{z:Nat}{n:Nat}{q:Nat}{p:List Nat}{k'}{v'}{l'}{i:Int}{kd:IntKind}{n2}{q2}{p2}(j:Nat)(r:Gd w0 U0 nt ops o gs S:=by exact gN rfl)(t:o.dst=some d:=by exact rfl)(u:Nat.blt d nt=true:=by exact rfl)(v:Nat.blt d 100000=true:=by exact rfl)(A:o.op=.indexAddr ty x y:=by exact rfl)(B:P.underlying ty=some (.array m e):=by exact rfl)(C:(P.info? e).map (·.size)=some z:=by exact rfl)(E:ev S x=some ⟨2,⟨k',v',l'⟩,n,q,p⟩:=by exact rfl)(F:ev S y=some ⟨0,.sc (.int kd i),n2,q2,p2⟩:=by exact rfl)(G:i=(j:Int):=by exact rfl)(H:Nat.blt j m=true:=by exact rfl):AOp P w0 U0 nt ops o (gs++(rd x++rd y)) [] S [(d,.bp n (q+j*z) (p++[j]))]:=c3b j r t u v A B C E F G H
theorem b5T(hg:Gd w0 U0 nt ops o gs S)(hd:o.dst=some d)(hn:Nat.blt d nt=true)(h5:Nat.blt d 100000=true){x y:Operand}{t kt et:TypeId}{k k2:IntKind}{i z2:Int}{n:Nat}{l:List CV}{n' q' p'}(ho:o.op=.lookup t x y true)(hu:P.underlying t=some (.map kt et))(eZ:P.underlying kt=some (.int k))(dO:(P.info? et).map (·.zero)=some (some (.int k2 z2)))(nZ:Y5 P et=some (.sc (.int k2 z2)))(hx:ev S x=some (.mref n))(hy:ev S y=some ⟨0,.sc (.int k i),n',q',p'⟩)(bS:S n=some (.mp l))(hik:A5 k l):AOp P w0 U0 nt ops o (gs++(rd x++(rd y++[n]))) [] S [(d,.tup [(G4 k i l).getD (.sc (.int k2 z2)),.b (G4 k i l).isSome])]:=
 b7R hg hd hn h5 ho hu eZ nZ hx hy bS hik λU w v _ hh=>by obtain⟨it,h1,h2⟩:=hh;rw[h1,Option.map_some,h2]at dO;injection dO with dO;injection dO with dO;rw[dO];exact o0.2 ⟨rfl,rfl⟩
theorem zbe{P:Program}{w0:World}{U0:UX}{nt:Nat}{ops:Array Oper}{o:Oper}{S:Nat->Option AV}{gs:List Nat}{d:Nat}{x:Operand}{y:Operand}{t:TypeId}{kt:TypeId}{et:TypeId}{k:IntKind}{k2:IntKind}{i:Int}{z2:Int}{n:Nat}{l:List CV}{n'}{q'}{p'}(p:Gd w0 U0 nt ops o gs S:=by exact gN rfl)(q:o.dst=some d:=by exact rfl)(r:Nat.blt d nt=true:=by exact rfl)(u:Nat.blt d 100000=true:=by exact rfl)(z:o.op=.lookup t x y true:=by exact rfl)(A:P.underlying t=some (.map kt et):=by exact rfl)(B:P.underlying kt=some (.int k):=by exact rfl)(C:(P.info? et).map (·.zero)=some (some (.int k2 z2)):=by exact rfl)(E:Y5 P et=some (.sc (.int k2 z2)):=by exact rfl)(F:ev S x=some (.mref n):=by exact rfl)(G:ev S y=some ⟨0,.sc (.int k i),n',q',p'⟩:=by exact rfl)(H:S n=some (.mp l):=by exact rfl)(hik:A5 k l):AOp P w0 U0 nt ops o (gs++(rd x++(rd y++[n]))) [] S [(d,.tup [(G4 k i l).getD (.sc (.int k2 z2)),.b (G4 k i l).isSome])]:=b5T p q r u z A B C E F G H hik
def b9x(s:AS)(n:Nat):Bool:=s.all λp=>!((Nat.beq p.2.t 15||Nat.beq p.2.t 19)&&Nat.beq p.2.n n)
theorem c2I(n k:Nat){e z:Nat}{l:List CV}(hm:look s n=some (.mrow e z l))(hn:(Nat.ble 200000 n&&Nat.blt n 400000)=true)(kE:k<=l.length)(hr:b9x s n=true):Wk w0 U0 nt s ((n,.mrow e z (l.take k))::s):=by
 rintro a w ⟨D,hv,h⟩;have kN:=rnB hn;have hrn1:RN n:=RW.rn kN;obtain⟨xs,f1,f2,f3,f4⟩:=h.mrow hm hrn1;obtain⟨ao,cap,e1,e2,e3⟩:=M2 f1;obtain⟨kG,gJ⟩:∃kG:Nat->Value,kG=λx=>if x=n then .slice ao k cap else hv x:=⟨_,rfl⟩
 have kR:∀x,x≠n->kG x=hv x:=λx hx=>by rw[gJ];simp only[if_neg hx]
 have bM:kG n=.slice ao k cap:=by rw[gJ];simp
 have eG:∀x,hb (kG x)=hb (hv x):=λx=>by
  by_cases hx:x=n
  ·subst hx;rw[bM,e1];cases ao<;>rfl
  ·rw[kR x hx]
 have fG:∀x,q6 (kG x)=q6 (hv x):=λx=>by unfold q6;rw[eG]
 have kB:∀{k'},k'≠n->look ((n,AV.mrow e z (l.take k))::s) k'=look s k':=fun{k'} h1=>lN (Ne.symm h1);have hl:∀q f,v8 ((n,AV.mrow e z (l.take k))::s) q f↔v8 s q f:=λq f=>by
  unfold v8;by_cases e4:q=n
  ·subst e4;rw[lS,hm];constructor<;>(rintro⟨h1,_⟩;cases h1)
  ·rw[kB e4]
 have kM:a9 ((n,AV.mrow e z (l.take k))::s)=a9 s:=by funext q;simp only[a9,hl]
 have qK:¬ a9 s n:=by
  rintro(h1 | ⟨f,h1⟩)
  ·omega
  ·rw[h1.1]at hm;cases hm
 have gG:∀{k' av v},look s k'=some av->AVRep (Us w0 U0 D) w hv (a9 s) av v->AVRep (Us w0 U0 D) w kG (a9 s) av v:=fun{k' av v} g1 g2=>by
  by_cases hc:hk av=n/\(av.t=11\/av.t=12\/av.t=15\/av.t=19)
  ·obtain⟨c1,c2⟩:=hc;have ht2:av.t≠2:=by omega
   rw[L8.2 ht2]at c1;unfold AVRep at g2 |-;rw[if_neg (by omega),if_neg (by omega),if_neg (by omega),if_neg (by omega)]at g2 |-;rcases c2 with c2 | c2 | c2 | c2
   ·rw[if_pos c2]at g2 |-;rw[fG];exact g2
   ·rw[if_neg (by omega),if_pos c2]at g2 |-;obtain⟨r1,a0,m,cp,a1,b1,b2,b3⟩:=g2;rw[c1,e1]at b1;injection b1 with i1 i2 i3;subst i1;subst i3;exact⟨r1,ao,k,cap,a1,by rw[c1];exact bM,b2,b3⟩
   all_goals
    unfold b9x at hr;rw[all_eq_true]at hr;have:=hr _ (E0 g1);simp only[c2,c1,Nat.beq_refl]at this;cases this
  ·refine g2.move (λ_ _ _ h1 h2=>⟨h1,h2⟩) (λ_ h1=>h1) λhR=>?_;by_cases e4:hk av=n
   ·exfalso;rcases hR with⟨r1,r2,r3⟩ | ⟨r1,r2⟩ | ⟨r1,r2⟩
    ·rw[L8.2 (by omega)]at e4;rw[e4]at r2;exact qK r2
    ·rw[L8.1 r1]at e4;unfold BN at r2;omega
    ·exact hc ⟨e4,r1⟩
   ·exact kR _ e4
 refine⟨D,kG,h.below,h.dfr,h.size,λd av g1 g2=>?_,λm o av g1 g2 g3 g4=>?_,λm o o' av av' g1 g2=>?_,λk' av g1 g2=>?_,λk' av g g1 g2 g3 g4=>?_,λk' k2 av av' g g1 g2 g3 g4 g5 g6 g7 g8=>?_,λk' v g1=>?_,h.dlt⟩
 ·rw[kB (by omega)]at g1;rw[kM];obtain⟨v,h1,h2⟩:=h.slot d av g1 g2;exact⟨v,h1,gG g1 h2⟩
 ·rw[kB (by unfold i7;omega)]at g1;rw[kB (by unfold BN at g4;omega)]at g3;rw[kM,fG];obtain⟨v,h1,h2⟩:=h.fld m o av g1 g2 g3 g4;exact⟨v,gG g1 h1,h2⟩
 ·rw[kB (by unfold i7;omega)]at g1 g2;exact h.fdis m o o' av av' g1 g2
 ·rw[kM];by_cases e4:k'=n
  ·subst e4;rw[lS]at g1;cases g1;rw[bM];have hx:∃ys zs,xs=ys++zs/\Sq ((l.take k).map λc=>Rep (Us w0 U0 D) w c) ys:=by have f4':=f4;rw[<-take_append_drop k l,map_append]at f4';obtain⟨y1,r1,q1,q2,q3⟩:=y5 f4';exact⟨y1,r1,q1,q2⟩
   obtain⟨ys,zs,q1,q2⟩:=hx;have jA:ys.length=k*z:=by rw[B0 (n:=CV.size) (λc _ xs h=>h.len) q2,s5 (λc hc=>f3 c (mem_of_mem_take hc)),length_take,Nat.min_eq_left kE]
   refine⟨ys,⟨?_,?_⟩,f2,λc hc=>f3 c (mem_of_mem_take hc),q2⟩
   ·show ys.length=(l.take k).length*z;rw[length_take,Nat.min_eq_left kE];exact jA
   ·show(Value.slice ao k cap=_/\(l.take k).length=0)\/_;rw[length_take,Nat.min_eq_left kE];rcases f1.2 with⟨h1,h2⟩ | ⟨g,cap',cur,h1,h2,h3,h4,h6,h7,h8⟩
    ·rw[e1]at h1;injection h1 with i1 i2 i3;subst i1;subst i3;have:k=0:=by omega
     subst this;exact .inl ⟨rfl,rfl⟩
    ·rw[e1]at h1;injection h1 with i1 i2 i3;subst i1;subst i3;refine .inr ⟨g,cap,cur,rfl,h2,h3,by omega,h6,h7,?_⟩;have h8':cur.toList.take (l.length*z)=xs:=h8;have:cur.toList.take (k*z)=xs.take (k*z):=by rw[<-h8',List.take_take,Nat.min_eq_left (Nat.mul_le_mul_right z kE)]
     show List.take (k*z) cur.toList=ys;rw[this,q1,<-jA];exact List.take_left' rfl
  ·rw[kB e4]at g1;rw[kR k' e4];by_cases h7:av.t=7
   ·exact a3A h7
   ·refine(h.obj k' av g1 g2).move (λ_ _ _ h1 h2=>⟨h1,h2⟩) (λ_ h3=>⟨h3,?_⟩) λ_ _=>rfl;unfold J1;split
    ·rfl
    ·exact kR _ λe5=>qK (e5▸h3)
 ·rw[eG]at g4;by_cases e4:k'=n
  ·subst e4;rw[lS]at g1;cases g1;obtain⟨h1,h2,h3⟩:=h.blk k' _ g hm g2 (by simp) g4;exact⟨h1,h2,λo _=>h3 o λe5=>by cases e5⟩
  ·rw[kB e4]at g1;obtain⟨h1,h2,h3⟩:=h.blk k' av g g1 g2 g3 g4;rw[kR k' e4];exact⟨h1,h2,h3⟩
 ·rw[eG]at g8 |-;have conv:∀{x av},look ((n,AV.mrow e z (l.take k))::s) x=some av->av.t≠7->∃av0,look s x=some av0/\av0.t≠7:=fun{x av} h1 h2=>by
   by_cases e4:x=n
   ·subst e4;exact⟨_,hm,by simp⟩
   ·rw[kB e4]at h1;exact⟨av,h1,h2⟩
  obtain⟨b1,c1,c2⟩:=conv g1 g5
  obtain⟨b2,c3,c4⟩:=conv g2 g6
  exact h.disj k' k2 b1 b2 g c1 c3 g3 g4 c2 c4 g7 g8
 ·have h1:=U0.hf k' v g1;rw[kR k' (by omega)];exact h.fix k' v g1
def SameS(S:Nat->Option AV)(ks:List Nat):AS->Prop
 | []=>True
 | (k,av)::l=>(l7 ks k=true\/S k=some av)/\SameS S ks l
theorem SameS.look{ks:List Nat}:∀{l:AS},SameS S ks l->∀{k av},look l k=some av->l7 ks k=false->S k=some av
 | [],_,k,av,h,_=>by cases h
 | (k',av')::l,⟨h1,h2⟩,k,av,h,hn=>by
  rw[k9]at h;split at h
  ·rename_i e;subst e;cases h;rcases h1 with h1 | h1
   ·rw[h1]at hn;cases hn
   ·exact h1
  ·exact SameS.look h2 h hn
theorem b7T(post':AS){f:FuncId}{xs:Array Operand}{ts:Array TypeId}{avs:List AV}{r:AV}{pre post:AS}(hg:Gd w0 U0 nt ops o gs S)(hd:o.dst=some d)(hn:Nat.blt d nt=true)(h5:Nat.blt d 100000=true)
  (ho:o.op=.call { callee:=.value (.func f),args:=xs,argTypes:=ts }) (hx:a4m S xs.toList=some avs) (hc:r8 P f pre avs r post) (hp:SubS S pre) (hl:pre.all F5=true) (hq:post.all (G7 (kO post))=true) (jQ:(kO pre).all (l7 (kO post))=true) (hr:a3G (kO post) r=true) (hnb:∀k v,U0.f k=some v->l7 (kO post) k=true->l7 (kO pre) k=true) (kJ:SubL post post') (fH:SameS S (kO post') post) (bC:(kO post).all (l7 (kO pre))=true) (kV:(kO post).all (Nat.ble 100000)=true) :
  AOp P w0 U0 nt ops o (gs++(rdl xs.toList++kO pre)) (J6 (kO pre) (kO post) (kO post)) S ((d,r)::post'):=by
 have h:=b3z hg hd hn h5 ho hx hc hp hl hq jQ hr hnb;intro s hs hN a w hsim Q K hK;refine h s hs hN a w hsim Q K λa' w' gC=>hK a' w' (gC.sub λk av h1=>?_);have mS:=bL h5;have h1:look ((d,r)::(post'++s)) k=some av:=h1;show look ((d,r)::(post++s)) k=some av;rw[k9]at h1 |-;split
 ·rename_i e;rw[if_pos e]at h1;exact h1
 ·rename_i e;rw[if_neg e,d8]at h1;rw[d8];cases e1:look post' k with
  | some x=>rw[e1]at h1;cases h1;rw[kJ.sub k _ e1];rfl
  | none =>
   rw[e1]at h1;have h1:look s k=some av:=h1;cases e2:look post k with
   | none=>exact h1
   | some y =>
    have gY:l7 (kO post') k=false:=by
     cases e3:l7 (kO post') k with
     | false=>rfl
     | true=>obtain⟨z,hz⟩:=R5 (A4 e3);rw[e1]at hz;cases hz
    have h3:=fH.look e2 gY;rw[all_eq_true]at bC;have h4:=bC k (j5 e2);have h5:=hs k (mem_append_right _ (mem_append_right _ (A4 h4)));rw[h5,h3]at h1;exact h1
theorem zbg{P:Program}{w0:World}{U0:UX}{nt:Nat}{ops:Array Oper}{o:Oper}{S:Nat->Option AV}{gs:List Nat}{d:Nat}{f:FuncId}{xs:Array Operand}{ts:Array TypeId}{avs:List AV}{r:AV}{pre:AS}{post:AS}(post':AS)(p:Gd w0 U0 nt ops o gs S:=by exact gN rfl)(q:o.dst=some d:=by exact rfl)(t:Nat.blt d nt=true:=by exact rfl)(u:Nat.blt d 100000=true:=by exact rfl)(A:o.op=.call { callee:=.value (.func f),args:=xs,argTypes:=ts }:=by exact rfl)(B:a4m S xs.toList=some avs:=by exact rfl)(C:r8 P f pre avs r post)(E:SubS S pre:=by repeat (first | exact trivial | refine⟨rfl,?_⟩))(F:pre.all F5=true:=by first | rfl | kernel_rfl)(G:post.all (G7 (kO post))=true:=by first | rfl | kernel_rfl)(H:(kO pre).all (l7 (kO post))=true:=by first | rfl | kernel_rfl)(hr:a3G (kO post) r=true:=by first | rfl | kernel_rfl)(hnb:∀k v,U0.f k=some v->l7 (kO post) k=true->l7 (kO pre) k=true)(kJ:SubL post post':=by repeat (first | exact trivial | refine⟨rfl,?_⟩))(fH:SameS S (kO post') post:=by repeat (first | exact trivial | refine⟨.inl rfl,?_⟩ | refine⟨.inr rfl,?_⟩))(bC:(kO post).all (l7 (kO pre))=true:=by first | rfl | kernel_rfl)(kV:(kO post).all (Nat.ble 100000)=true:=by first | rfl | kernel_rfl):AOp P w0 U0 nt ops o (gs++(rdl xs.toList++kO pre)) (J6 (kO pre) (kO post) (kO post)) S ((d,r)::post'):=b7T post' p q t u A B C E F G H hr hnb kJ fH bC kV
end
section
variable{P:Program}{w0:World}{U0:UX}{nt:Nat}{ops:Array Oper}{o:Oper}{S:Nat->Option AV}{gs:List Nat}{d:Nat}{s:AS}{a:Act}{w:World}{D:Nat->Nat->Prop}{hv:Nat->Value}
theorem AWp.handle{c:Code}{Q:Exit->AS->Prop}(d n:Nat){e z:Nat}{l:List CV}(hd:Nat.blt d nt=true)(h5:Nat.blt d 100000=true)(hm:look s n=some (.mrow e z l))(hn:(Nat.ble 200000 n&&Nat.blt n 450000)=true)(h:∀ao cap,l.length<=cap->(ao=none->l.length=0/\cap=0)->AWp P w0 U0 nt c Q ((d,.hdl (.slice ao l.length cap) n)::s)):AWp P w0 U0 nt c Q s:=by
 intro M a w ⟨D,hv,hs⟩;have kN:RN n:=rnF hn;obtain⟨xs,f1,_⟩:=hs.mrow hm kN;obtain⟨ao,cap,e1,e2,_⟩:=M2 f1;have eD:d<a.tmps.size:=by rw[hs.size];exact bL hd
 have e3:ao=none->l.length=0/\cap=0:=λe=>by
  rcases f1.2 with⟨b1,b2⟩ | ⟨g,cap',cur,b1,_⟩
  ·rw[e1]at b1;injection b1 with _ _ i3;exact⟨b2,i3⟩
  ·rw[e1,e]at b1;cases b1
 exact h ao cap e2 e3 M a w ⟨D,hv,hs.know (bL h5) (Array.getElem?_eq_getElem eD) ⟨kN,e1⟩⟩
theorem c3G(yy dh dh2:Nat)(hg:Gd w0 U0 nt ops o gs S)(hd:o.dst=some d)(hn:Nat.blt d nt=true)(h5:Nat.blt d 100000=true){x y:Operand}{t e size bytes:Nat}{z:Value}{l l2:List CV}{n len cap n2 q2 p2}{ao:Option Addr}(ho:o.op=.call { callee:=.builtin .append,args := #[x,y],argTypes := #[t,t] })(ht:P.underlying t=some (.slice e))(hi:(P.info? e).map (λi=>(i.zero,i.size,i.bytes))=some (some z,size,bytes))
  (hx:ev S x=some (.sl n 0 len size)) (hy:ev S y=some ⟨0,.lst l2,n2,q2,p2⟩) (bU:S n=some (.mrow e size l)) (oD:S dh=some (.hdl (.slice ao l.length cap) n)) (mC:(Nat.ble 300000 yy&&Nat.blt yy 450000)=true) (mT:(Nat.blt dh 100000&&(Nat.blt dh2 100000&&(Nat.blt dh2 nt&&!Nat.beq n yy)))=true) (fR:(Nat.ble 300000 n&&Nat.blt n 450000)=true) (hf:U0.f yy=none) (kD:len=l.length) (kM:∀c∈l2,c.size=size) (gO:0<l2.length) (hroom:l.length+l2.length<=cap) :
  AOp P w0 U0 nt ops o (gs++(rd x++(rd y++[n,dh]))) [(yy,[])] S [(d,.sl yy 0 (l.length+l2.length) size),(dh2,.hdl (.slice ao (l.length+l2.length) cap) yy),(yy,.mrow e size (l++l2)),(n,.no)]:=by
 intro s hs hN a w ⟨D,hv,h⟩ Q K hK;rw[if_pos (hg s (λk hk=>hs k (mem_append_left _ hk)) a w D hv h)];simp only[Bool.and_eq_true]at mT mC fR;obtain⟨hdh1,hdh2,hdh3,hny⟩:=mT;have hny:n≠yy:=λe=>by rw[e,Nat.beq_refl]at hny;cases hny
 have lT:=Nat.le_of_ble_eq_true mC.1;have iG:=bL mC.2;have bI:=Nat.le_of_ble_eq_true fR.1;have hn2':=bL fR.2;have mD:RN yy:=⟨by omega,iG⟩
 obtain⟨kN,dN⟩:RN n/\SlV (hv n) 0 len size (a.eval x):=n5 h (λk hk=>hs k (mem_append_right _ (mem_append_left _ hk))) hx;have h3:=A7 h (λk hk=>hs k (mem_append_right _ (mem_append_right _ (mem_append_left _ hk)))) hy;have kH:n4 n:=⟨by omega,by omega⟩
 have kB:=(hs n (by simp)).trans bU;obtain⟨xs,g1,g2,g3,g4⟩:=h.mrow kB kN;obtain⟨_,_,gJ⟩:∃v,a.tmps[dh]?=some v/\RN n/\hv n=.slice ao l.length cap:=h.slot dh _ ((hs dh (by simp)).trans oD) (bL hdh1);have gJ:=gJ.2;have hval:a.eval x=.slice ao l.length cap:=by obtain⟨ao1,m1,cap1,ao',e1,e2,e3,e4,_⟩:=dN;rw[gJ]at e1;injection e1 with i1 i2 i3;subst i1;subst i2;subst i3;rw[e2,e4 rfl,kD];rfl
 obtain⟨ao2,m,c2,k1,k2,k3,k4,k6,ys2,k7,k8⟩:=l5.1 h3;have jJ:ys2.length=m*size:=by rw[B0 (n:=CV.size) (λc _ xs h=>h.len) k8,s5 kM,k2]
 obtain⟨i,bF,bZ,cA,eN⟩:=info_parts hi;rcases g1.2 with⟨b1,b2⟩ | ⟨g,cap',cur,b1,b2,b3,b4,b5,b6,b7⟩
 ·exfalso;rw[gJ]at b1;injection b1 with _ _ i3;omega
 rw[gJ]at b1;injection b1 with i1 i2 i3;subst i1;subst i3;cases ao2 with
 | none=>exfalso;have:=(k6 rfl).1;omega
 | some ad =>
 have bX:∀j u,ys2[j]?=some u->w.cell? (ad.add j)=some u:=λj u hj=>by
  have gI:j<ys2.length:=by
   rcases Nat.lt_or_ge j ys2.length with h | h
   ·exact h
   ·rw[getElem?_eq_none h]at hj;cases hj
  rcases k7 with rfl | ⟨b,off,ha,hc⟩
  ·simp at gI
  ·cases ha;rw[Y0,(hc j gI).2,hj]
 have kU:w.ownsRow 0 e size (.slice (some ⟨g,0,none⟩) l.length cap) l.length xs:=by rw[<-gJ];exact g1
 obtain⟨w',r1,r2,r3⟩:=run_append_fits (P:=P) w 0 t o.type e i size ht bF cA g l.length cap xs kU ad m c2 ys2 jJ bX (G3 k8) (by omega);have rJ:hb (hv n)=some g:=by rw[gJ];rfl
 obtain⟨f1,f2,f3⟩:=h.blk n _ g kB kH (by simp) rJ;have mO:∀o,¬ D g o:=λo=>f3 o λe=>by cases e
 have bC:∀b o u,Us w0 U0 D b o->w.cell? ⟨b,o,none⟩=some u->Us w0 U0 D b o/\w'.cell? ⟨b,o,none⟩=some u:=λb o u hu hc=>by refine⟨hu,?_⟩;have kA:b<w.heap.size:=World.block_lt_of_cell? w _ hc;have hnb:some b≠some g:=λe=>a3s hu f1 (mO o) (by injection e);rw[World.cell?_of_block (w:=w) (r3.block b kA hnb)];exact hc
 have pU:Mn w0 U0 (lcl yy (.mrow e size (l++l2))) g:=by rw[Q5 bI]at f1;rw[Q5 lT];exact f1
 have hG:=(h.kill kH).newrowF (n:=yy) (avn:=.mrow e size (l++l2)) (v':=.slice (some ⟨g,0,none⟩) (l.length+m) cap) (D':=D) (X:=λb=>b=g) mD hf (λk av hk=>by
   by_cases e:n=k
   ·subst e;rw[lS]at hk;cases hk;have dQ:fnm n=100000:=by unfold fnm;rw[a9y (by omega:n<500000)]
    rw[dQ];exact⟨by show 0≠_;omega,by omega,by omega⟩
   ·rw[lN e]at hk;exact(hN (yy,[]) (by simp)).nr k av hk) (by simp) ⟨r3.os,r3.tape,r3.output,r3.size,λb hb hx=>r3.block b hb λe=>hx (by injection e)⟩ (λb hb=>by
   subst hb;refine⟨pU,λq av h6 h7 h8 h9=>?_⟩;have hq:n≠q:=λe=>by subst e;rw[lS]at h6;cases h6;exact h8 rfl
   rw[lN hq]at h6;exact h.disj n q _ av b kB h6 kH h7 (by simp) h8 hq rJ) (λg' dI=>by
   have dI:some g=some g':=dI;cases dI;exact⟨.inl rfl,Nat.lt_of_lt_of_le f2 r3.size,λo _=>mO o⟩) (λb o hd => .inl hd) (λb o hd=>Nat.lt_of_lt_of_le (h.dlt _ _ hd) r3.size) bC (λhv lv=>by
   refine⟨xs++ys2,?_,g2,λc hc=>?_,?_⟩
   ·show w'.ownsRow 0 e size _ (l++l2).length (xs++ys2);rw[length_append,<-k2];exact r2
   ·rcases mem_append.1 hc with hc | hc
    ·exact g3 c hc
    ·exact kM c hc
   ·show Sq ((l++l2).map _) _;rw[map_append];exact y8 (Sq.keep bC g4) (Sq.keep bC k8))
 have he:(execOp a.eval o).run P w=.ok (.value (.slice (some ⟨g,0,none⟩) (l.length+m) cap)) w':=by generalize a.eval=ρ at hval k1 |-;simp[execOp,ho,resolve,invoke,builtin,hval,k1,r1,Result.andThen]
 unfold Oper.wp;rw[he,Oper.upon_value,hd];have bT:(λx=>if x=yy then Value.slice (some ⟨g,0,none⟩) (l.length+m) cap else hv x) yy=.slice (some ⟨g,0,none⟩) (l.length+m) cap:=by simp
 have eD:dh2<a.tmps.size:=by rw[h.size];exact bL hdh3
 have hG2:=hG.know (d:=dh2) (av:=.hdl (.slice (some ⟨g,0,none⟩) (l.length+l2.length) cap) yy) (bL hdh2) (Array.getElem?_eq_getElem eD) ⟨mD,by rw[<-k2];exact bT⟩;refine hK _ _ ⟨_,_,hG2.put (bL hn) (bL h5) ⟨mD,?_⟩⟩;show SlV ((λx=>if x=yy then Value.slice (some ⟨g,0,none⟩) (l.length+m) cap else hv x) yy) 0 (l.length+l2.length) size _;rw[bT,<-k2];exact J4 rfl (by omega) (.inr ⟨_,rfl⟩)
theorem zbJ{P:Program}{w0:World}{U0:UX}{nt:Nat}{ops:Array Oper}{o:Oper}{S:Nat->Option AV}{gs:List Nat}{d:Nat}{x:Operand}{y:Operand}{t:Nat}{e:Nat}{size:Nat}{bytes:Nat}{z:Value}{l:List CV}{l2:List CV}{n}{len}{cap}{n2}{q2}{p2}{ao:Option Addr}(yy:Nat)(dh:Nat)(dh2:Nat)(p:Gd w0 U0 nt ops o gs S:=by exact gN rfl)(r:o.dst=some d:=by exact rfl)(A:Nat.blt d nt=true:=by exact rfl)(B:Nat.blt d 100000=true:=by exact rfl)(C:o.op=.call { callee:=.builtin .append,args := #[x,y],argTypes := #[t,t] }:=by exact rfl)(E:P.underlying t=some (.slice e):=by exact rfl)(F:(P.info? e).map (λi=>(i.zero,i.size,i.bytes))=some (some z,size,bytes):=by exact rfl)(G:ev S x=some (.sl n 0 len size):=by exact rfl)(H:ev S y=some ⟨0,.lst l2,n2,q2,p2⟩:=by exact rfl)(bU:S n=some (.mrow e size l):=by exact rfl)(oD:S dh=some (.hdl (.slice ao l.length cap) n):=by exact rfl)(mC:(Nat.ble 300000 yy&&Nat.blt yy 450000)=true:=by exact rfl)(mT:(Nat.blt dh 100000&&(Nat.blt dh2 100000&&(Nat.blt dh2 nt&&!Nat.beq n yy)))=true:=by exact rfl)(fR:(Nat.ble 300000 n&&Nat.blt n 450000)=true:=by exact rfl)(hf:U0.f yy=none)(kD:len=l.length:=by first | rfl | omega | (simp only[length_set,length_map,length_append,length_cons,length_nil]<;>omega) | (simp<;>omega))(kM:∀c∈l2,c.size=size:=by first | assumption | exact sZ rfl | exact Tm.size_all _ | exact Bd.size_all _ | exact n8 _ | exact bys_size _ | exact Lt.size_all _)(gO:0<l2.length:=by simp)(hroom:l.length+l2.length<=cap):AOp P w0 U0 nt ops o (gs++(rd x++(rd y++[n,dh]))) [(yy,[])] S [(d,.sl yy 0 (l.length+l2.length) size),(dh2,.hdl (.slice ao (l.length+l2.length) cap) yy),(yy,.mrow e size (l++l2)),(n,.no)]:=c3G yy dh dh2 p r A B C E F G H bU oD mC mT fR hf kD kM gO hroom
theorem c3K(yy dh:Nat)(hg:Gd w0 U0 nt ops o gs S)(hd:o.dst=some d)(hn:Nat.blt d nt=true)(h5:Nat.blt d 100000=true){x y:Operand}{t e size bytes:Nat}{z:Value}{l l2:List CV}{n len n2 q2 p2}{ao:Option Addr}(ho:o.op=.call { callee:=.builtin .append,args := #[x,y],argTypes := #[t,t] })(ht:P.underlying t=some (.slice e))(hi:(P.info? e).map (λi=>(i.zero,i.size,i.bytes))=some (some z,size,bytes))(bP:Nat.beq z.cells.size size=true)(dP:Nat.ble bytes 1000=true)
  (hx:ev S x=some (.sl n 0 len size)) (hy:ev S y=some ⟨0,.lst l2,n2,q2,p2⟩) (bU:S n=some (.mrow e size l)) (oD:S dh=some (.hdl (.slice ao l.length l.length) n)) (mC:(Nat.ble 200000 yy&&Nat.blt yy 450000)=true) (mT:Nat.blt dh 100000=true) (hf:U0.f yy=none) (kD:len=l.length) (kM:∀c∈l2,c.size=size) (gO:0<l2.length) (bR:l.length+l2.length<=100000000000) :
  AOp P w0 U0 nt ops o (gs++(rd x++(rd y++[n,dh]))) [(yy,[])] S [(d,.sl yy 0 (l.length+l2.length) size),(yy,.mrow e size (l++l2))]:=by
 intro s hs hN a w ⟨D,hv,h⟩ Q K hK;rw[if_pos (hg s (λk hk=>hs k (mem_append_left _ hk)) a w D hv h)];have mD:RN yy:=rnF mC;obtain⟨kN,dN⟩:RN n/\SlV (hv n) 0 len size (a.eval x):=n5 h (λk hk=>hs k (mem_append_right _ (mem_append_left _ hk))) hx;have h3:=A7 h (λk hk=>hs k (mem_append_right _ (mem_append_right _ (mem_append_left _ hk)))) hy;have kB:=(hs n (by simp)).trans bU;obtain⟨xs,g1,g2,g3,g4⟩:=h.mrow kB kN;obtain⟨_,_,gJ⟩:∃v,a.tmps[dh]?=some v/\RN n/\hv n=.slice ao l.length l.length:=h.slot dh _ ((hs dh (by simp)).trans oD) (bL mT);have gJ:=gJ.2;have hval:a.eval x=.slice ao l.length l.length:=by obtain⟨ao1,m1,cap1,ao',e1,e2,e3,e4,_⟩:=dN;rw[gJ]at e1;injection e1 with i1 i2 i3;subst i1;subst i2;subst i3;rw[e2,e4 rfl,kD];rfl
 obtain⟨ao2,m,c2,k1,k2,k3,k4,k6,ys2,k7,k8⟩:=l5.1 h3;have jJ:ys2.length=m*size:=by rw[B0 (n:=CV.size) (λc _ xs h=>h.len) k8,s5 kM,k2]
 have hAt:At (λ_ _=>True) w ao xs/\(ao=none->l.length=0):=by
  rw[gJ]at g1;rcases g1.2 with⟨b1,b2⟩ | ⟨g,cap',cur,b1,b2,b3,b4,b5,b6,b7⟩
  ·injection b1 with i1 i2 i3;exact⟨.inl (eq_nil_of_length_eq_zero (by rw[g1.1,i2];simp)),λ_=>i2⟩
  ·injection b1 with i1 i2 i3;subst i1;refine⟨.inr ⟨g,0,rfl,λj hj=>⟨trivial,?_⟩⟩,λe=>by cases e⟩;rw[Nat.zero_add];exact a0b g1 (g:=g) rfl (by rw[<-g1.1];exact hj)
 have hAt2:At (λ_ _=>True) w ao2 ys2:=by
  rcases k7 with k7 | ⟨b,off,ha,hc⟩
  ·exact .inl k7
  ·exact .inr ⟨b,off,ha,λj hj=>⟨trivial,(hc j hj).2⟩⟩
 have nE:(l.length+m)*bytes<=100000000000*1000:=Nat.mul_le_mul (by omega) (Nat.le_of_ble_eq_true dP);obtain⟨v',w',r1,r2,r3⟩:=b7d (P:=P) (ty:=o.type) ht hi (Nat.eq_of_beq_eq_true bP) g2 hAt.2 hAt.1 g1.1 (λh=>(k6 h).1) hAt2 jJ (c:=c2) (G3 k8) (by omega) (by unfold maxLen;omega) (by omega);have gL:hb v'=v'.ownBlock:=by rcases r2.2 with⟨rfl,_⟩ | ⟨g,cap,cur,rfl,_⟩<;>rfl
 have bC:∀b o u,Us w0 U0 D b o->w.cell? ⟨b,o,none⟩=some u->Us w0 U0 D b o/\w'.cell? ⟨b,o,none⟩=some u:=λb o u hu hc=>by refine⟨hu,?_⟩;have kA:b<w.heap.size:=World.block_lt_of_cell? w _ hc;rw[World.cell?_of_block (w:=w) (r3.block b kA (by simp))];exact hc
 have hG:=h.newrowF (n:=yy) (avn:=.mrow e size (l++l2)) (v':=v') (D':=D) (X:=λ_=>False) mD hf (hN (yy,[]) (by simp)).nr (by simp) ⟨r3.os,r3.tape,r3.output,r3.size,λb hb hx=>r3.block b hb (by simp)⟩ (λb hb=>hb.elim) (λg hg=>by
   rw[gL]at hg;refine⟨.inr (r2.lt g hg).1,(r2.lt g hg).2,λo _ hd=>?_⟩;have:=(r2.lt g hg).1;have:=h.dlt _ _ hd;omega) (λb o hd => .inl hd) (λb o hd=>Nat.lt_of_lt_of_le (h.dlt _ _ hd) r3.size) bC (λhv lv=>by
   refine⟨xs++ys2,?_,g2,λc hc=>?_,?_⟩
   ·show w'.ownsRow 0 e size v' (l++l2).length (xs++ys2);rw[length_append,<-k2];exact r5 r2 (Nat.zero_le _)
   ·rcases mem_append.1 hc with hc | hc
    ·exact g3 c hc
    ·exact kM c hc
   ·show Sq ((l++l2).map _) _;rw[map_append];exact y8 (Sq.keep bC g4) (Sq.keep bC k8))
 have he:(execOp a.eval o).run P w=.ok (.value v') w':=by generalize a.eval=ρ at hval k1 |-;simp[execOp,ho,resolve,invoke,builtin,hval,k1,r1,Result.andThen]
 unfold Oper.wp;rw[he,Oper.upon_value,hd];refine hK _ _ ⟨_,_,hG.put (bL hn) (bL h5) ⟨mD,?_⟩⟩;obtain⟨a1,c1,q1,q2,q3⟩:=a5j (r5 r2 (Nat.zero_le _));have:=J4 (z:=size) q1 q2 q3;show SlV ((λx=>if x=yy then v' else hv x) yy) 0 (l.length+l2.length) size v';simp only[if_true];rw[<-k2];exact this
theorem zbL{P:Program}{w0:World}{U0:UX}{nt:Nat}{ops:Array Oper}{o:Oper}{S:Nat->Option AV}{gs:List Nat}{d:Nat}{x:Operand}{y:Operand}{t:Nat}{e:Nat}{size:Nat}{bytes:Nat}{z:Value}{l:List CV}{l2:List CV}{n}{len}{n2}{q2}{p2}{ao:Option Addr}(yy:Nat)(dh:Nat)(p:Gd w0 U0 nt ops o gs S:=by exact gN rfl)(q:o.dst=some d:=by exact rfl)(r:Nat.blt d nt=true:=by exact rfl)(A:Nat.blt d 100000=true:=by exact rfl)(B:o.op=.call { callee:=.builtin .append,args := #[x,y],argTypes := #[t,t] }:=by exact rfl)(C:P.underlying t=some (.slice e):=by exact rfl)(E:(P.info? e).map (λi=>(i.zero,i.size,i.bytes))=some (some z,size,bytes):=by exact rfl)(F:Nat.beq z.cells.size size=true:=by exact rfl)(G:Nat.ble bytes 1000=true:=by exact rfl)(H:ev S x=some (.sl n 0 len size):=by exact rfl)(hy:ev S y=some ⟨0,.lst l2,n2,q2,p2⟩:=by exact rfl)(bU:S n=some (.mrow e size l):=by exact rfl)(oD:S dh=some (.hdl (.slice ao l.length l.length) n):=by exact rfl)(mC:(Nat.ble 200000 yy&&Nat.blt yy 450000)=true:=by exact rfl)(mT:Nat.blt dh 100000=true:=by exact rfl)(hf:U0.f yy=none)(kD:len=l.length:=by first | rfl | omega | (simp only[length_set,length_map,length_append,length_cons,length_nil]<;>omega) | (simp<;>omega))(kM:∀c∈l2,c.size=size:=by first | assumption | exact sZ rfl | exact Tm.size_all _ | exact Bd.size_all _ | exact n8 _ | exact bys_size _ | exact Lt.size_all _)(gO:0<l2.length:=by simp)(bR:l.length+l2.length<=100000000000:=by first | omega | (simp only[length_map,length_append,length_cons,length_nil]<;>omega) | (simp<;>omega)):AOp P w0 U0 nt ops o (gs++(rd x++(rd y++[n,dh]))) [(yy,[])] S [(d,.sl yy 0 (l.length+l2.length) size),(yy,.mrow e size (l++l2))]:=c3K yy dh p q r A B C E F G H hy bU oD mC mT hf kD kM gO bR
theorem b0V(X Y dh dh2 k:Nat){e z m cap:Nat}{l:List CV}{ao:Option Addr}(hY:look s Y=some (.mrow e z l))(hX:look s X=some .no)(h1:look s dh=some (.hdl (.slice ao k cap) X))(h2:look s dh2=some (.hdl (.slice ao m cap) Y))(mT:(Nat.blt dh 100000&&Nat.blt dh2 100000)=true)(hXb:(Nat.ble 300000 X&&Nat.blt X 450000)=true)(hYb:(Nat.ble 300000 Y&&Nat.blt Y 450000)=true)(hk:k<=l.length):Wk w0 U0 nt s ((X,.mrow e z (l.take k))::(Y,.no)::s):=by
 rintro a w ⟨D,hv,h⟩;simp only[Bool.and_eq_true]at mT hXb hYb;have x1:=Nat.le_of_ble_eq_true hXb.1;have x2:=bL hXb.2;have y1:=Nat.le_of_ble_eq_true hYb.1;have y2:=bL hYb.2;have uD:X≠Y:=λe=>by rw[e,hY]at hX;cases hX
 obtain⟨_,_,_,hvX⟩:∃v,a.tmps[dh]?=some v/\RN X/\hv X=.slice ao k cap:=h.slot dh _ h1 (bL mT.1);obtain⟨_,_,hrY,hvY⟩:∃v,a.tmps[dh2]?=some v/\RN Y/\hv Y=.slice ao m cap:=h.slot dh2 _ h2 (bL mT.2);obtain⟨xs,f1,f2,f3,f4⟩:=h.mrow hY hrY;have hoX:n4 X:=⟨by omega,by omega⟩
 have hoY:n4 Y:=⟨by omega,by omega⟩
 have vV:hb (hv X)=hb (hv Y):=by rw[hvX,hvY];cases ao<;>rfl
 obtain⟨s',gC⟩:∃s',s'=(X,AV.mrow e z (l.take k))::(Y,AV.no)::s:=⟨_,rfl⟩
 rw[<-gC];have hlX:look s' X=some (.mrow e z (l.take k)):=by rw[gC,lS]
 have yM:look s' Y=some .no:=by rw[gC,lN uD,lS]
 have fQ:∀{q},q≠X->q≠Y->look s' q=look s q:=fun{q} a1 a2=>by rw[gC,lN (Ne.symm a1),lN (Ne.symm a2)]
 have hl:∀q f,v8 s' q f↔v8 s q f:=λq f=>by
  unfold v8;by_cases e1:q=X
  ·subst e1;rw[hlX,hX];constructor<;>(rintro⟨a1,_⟩;cases a1)
  ·by_cases e2:q=Y
   ·subst e2;rw[yM,hY];constructor<;>(rintro⟨a1,_⟩;cases a1)
   ·rw[fQ e1 e2]
 have kM:a9 s'=a9 s:=by funext q;simp only[a9,hl]
 refine⟨D,hv,h.below,h.dfr,h.size,λd av g1 g2=>?_,λq o av g1 g2 g3 g4=>?_,λq o o' av av' g1 g2=>?_,λq av g1 g2=>?_,λq av g g1 g2 g3 g4=>?_,λq q' av av' g g1 g2 g3 g4 g5 g6 g7 g8=>?_,h.fix,h.dlt⟩
 ·rw[fQ (by omega) (by omega)]at g1;rw[kM];exact h.slot d av g1 g2
 ·rw[fQ (by unfold i7;omega) (by unfold i7;omega)]at g1;rw[fQ (by unfold BN at g4;omega) (by unfold BN at g4;omega)]at g3;rw[kM];exact h.fld q o av g1 g2 g3 g4
 ·rw[fQ (by unfold i7;omega) (by unfold i7;omega)]at g1 g2;exact h.fdis q o o' av av' g1 g2
 ·rw[kM];by_cases e1:q=X
  ·subst e1;rw[hlX]at g1;cases g1;rw[hvX];obtain⟨ys,zs,q1,q2⟩:∃ys zs,xs=ys++zs/\Sq ((l.take k).map λc=>Rep (Us w0 U0 D) w c) ys:=by have f4':=f4;rw[<-take_append_drop k l,map_append]at f4';obtain⟨y1,r1,q1,q2,q3⟩:=y5 f4';exact⟨y1,r1,q1,q2⟩
   have jA:ys.length=k*z:=by rw[B0 (n:=CV.size) (λc _ xs h=>h.len) q2,s5 (λc hc=>f3 c (mem_of_mem_take hc)),length_take,Nat.min_eq_left hk]
   refine⟨ys,⟨?_,?_⟩,f2,λc hc=>f3 c (mem_of_mem_take hc),q2⟩
   ·show ys.length=(l.take k).length*z;rw[length_take,Nat.min_eq_left hk];exact jA
   ·show(Value.slice ao k cap=_/\(l.take k).length=0)\/_;rw[length_take,Nat.min_eq_left hk];rcases f1.2 with⟨b1,b2⟩ | ⟨g,cap',cur,b1,b2,b3,b4,b6,b7,b8⟩
    ·rw[hvY]at b1;injection b1 with i1 i2 i3;subst i1;subst i3;have:k=0:=by omega
     subst this;exact .inl ⟨rfl,rfl⟩
    ·rw[hvY]at b1;injection b1 with i1 i2 i3;subst i1;subst i3;refine .inr ⟨g,cap,cur,rfl,b2,b3,by omega,b6,b7,?_⟩;have b8':cur.toList.take (l.length*z)=xs:=b8;have:cur.toList.take (k*z)=xs.take (k*z):=by rw[<-b8',List.take_take,Nat.min_eq_left (Nat.mul_le_mul_right z hk)]
     show List.take (k*z) cur.toList=ys;rw[this,q1,<-jA];exact List.take_left' rfl
  ·by_cases e2:q=Y
   ·subst e2;rw[yM]at g1;cases g1;exact a3A rfl
   ·rw[fQ e1 e2]at g1;exact h.obj q av g1 g2
 ·by_cases e1:q=X
  ·subst e1;rw[hlX]at g1;cases g1;rw[vV]at g4;obtain⟨a1,a2,a3⟩:=h.blk Y _ g hY hoY (by simp) g4;rw[Q5 y1]at a1;rw[Q5 x1];exact⟨a1,a2,λo _=>a3 o λe=>by cases e⟩
  ·by_cases e2:q=Y
   ·subst e2;rw[yM]at g1;cases g1;exact absurd rfl g3
   ·rw[fQ e1 e2]at g1;exact h.blk q av g g1 g2 g3 g4
 ·have conv:∀{q av},look s' q=some av->av.t≠7->(q=X/\hb (hv q)=hb (hv Y))\/(q≠Y/\look s q=some av):=fun{q av} a1 a2=>by
   by_cases e1:q=X
   ·exact .inl ⟨e1,by rw[e1];exact vV⟩
   ·by_cases e2:q=Y
    ·subst e2;rw[yM]at a1;cases a1;exact absurd rfl a2
    ·rw[fQ e1 e2]at a1;exact .inr ⟨e2,a1⟩
  rcases conv g1 g5 with⟨c1,c2⟩ | ⟨c1,c2⟩
  ·rcases conv g2 g6 with⟨c3,c4⟩ | ⟨c3,c4⟩
   ·exact absurd (c1.trans c3.symm) g7
   ·rw[c2]at g8;exact h.disj Y q' _ av' g hY c4 hoY g4 (by simp) g6 (Ne.symm c3) g8
  ·rcases conv g2 g6 with⟨c3,c4⟩ | ⟨c3,c4⟩
   ·rw[c4];exact h.disj q Y av _ g c2 hY g3 hoY g5 (by simp) c1 g8
   ·exact h.disj q q' av av' g c2 c4 g3 g4 g5 g6 g7 g8
end
section
open Go.RowKit Go.MapKept
section
variable{P:Program}{w0:World}{U0:UX}{nt:Nat}{ops:Array Oper}{o:Oper}{S:Nat->Option AV}{gs:List Nat}{d:Nat}{s:AS}{a:Act}{w:World}{D:Nat->Nat->Prop}{hv:Nat->Value}
theorem a7f{x y:AV}{k m n:Nat}{e:Nat×Nat}(hk:k<200000)(hm:m<200000\/400000<=m):v8 ((k,x)::(m,y)::s) n e↔v8 s n e:=by
 unfold v8;constructor
 ·rintro⟨h1,h2⟩;rw[lN (by omega),lN (by omega)]at h1;exact⟨h1,h2⟩
 ·rintro⟨h1,h2⟩;exact⟨by rw[lN (by omega),lN (by omega)];exact h1,h2⟩
theorem a4D{lv:Nat->Prop}{a:AV}{d:Nat}(hd:BN d)(bU:∀n,lv n->n=1\/RN n)(hr:a.n≠d)(h:Rn lv a):hk a≠100000+d:=by
 unfold BN at hd;rcases h with⟨h1,h2,h3⟩ | ⟨h1,h2⟩ | ⟨h1,h2⟩
 ·rw[L8.2 (by omega)];rcases bU _ h2 with h4 | h4
  ·exact absurd h4 h3
  ·unfold RN at h4;omega
 ·rw[L8.1 h1];omega
 ·rw[L8.2 (by omega)];unfold RN at h2;omega
theorem SimG.newboxN(h:SimG w0 U0 nt s a w D hv){nn:Nat}(bK:BN nn)(hnf:∀v,U0.f (100000+nn)=some v->False)(hr:W6 s nn)(hd:d<nt)(h5:d<100000){av:AV}(bJ:av.t=5\/av=.obj){xs:List Value}(ty:TypeId)(gG:av.t=5->Rep (Us w0 U0 D) w av.c xs)(eB:av.t=5->Tk hv (a9 s) av xs) :
  SimG w0 U0 nt ((d,.bp nn 0 [])::(100000+nn,av)::s) (a.put (some d) (.pointer (some ⟨w.heap.size,0,none⟩))) (w.alloc (.cells xs.toArray ty)) D (λk=>if k=100000+nn then .pointer (some ⟨w.heap.size,0,none⟩)else hv k):=by
 have jU:=bK;unfold BN at jU;have hb':Below w.heap.size w (w.alloc (.cells xs.toArray ty)):=(Below.refl _ _).alloc (Nat.le_refl _) _;have hG:=h.grow' hb';obtain⟨s',gC⟩:∃s',s'=(d,AV.bp nn 0 [])::(100000+nn,av)::s:=⟨_,rfl⟩
 obtain⟨kG,gJ⟩:∃kG:Nat->Value,kG=λk=>if k=100000+nn then .pointer (some ⟨w.heap.size,0,none⟩)else hv k:=⟨_,rfl⟩
 rw[<-gC,<-gJ];have hl:∀n e,v8 s' n e↔v8 s n e:=λn e=>by rw[gC];exact a7f (by omega) (by unfold BN at bK;omega)
 have kM:a9 s'=a9 s:=by funext n;simp only[a9,hl]
 have kB:∀k,k≠d->k≠100000+nn->look s' k=look s k:=λk h1 h2=>by rw[gC,lN (Ne.symm h1),lN (Ne.symm h2)]
 have uX:look s' (100000+nn)=some av:=by rw[gC,lN (by omega),lS]
 have kR:∀k,k≠100000+nn->kG k=hv k:=λk hk=>by rw[gJ];simp only[if_neg hk]
 have bM:kG (100000+nn)=.pointer (some ⟨w.heap.size,0,none⟩):=by rw[gJ];simp
 have hid:∀b o v,Us w0 U0 D b o->(w.alloc (.cells xs.toArray ty)).cell? ⟨b,o,none⟩=some v->Us w0 U0 D b o/\(w.alloc (.cells xs.toArray ty)).cell? ⟨b,o,none⟩=some v:=λ_ _ _ h1 h2=>⟨h1,h2⟩
 have lD:∀{k av' v},look s k=some av'->AVRep (Us w0 U0 D) (w.alloc (.cells xs.toArray ty)) hv (a9 s) av' v->AVRep (Us w0 U0 D) (w.alloc (.cells xs.toArray ty)) kG (a9 s) av' v:=fun{k av' v} h1 h2 =>
  h2.move hid (λ_ h=>h) λh3=>kR _ (a4D bK (λn=>F7) (hr k av' h1).1 h3)
 refine⟨hG.below,h.dfr,by simp[Act.put,h.size],λd' av' h1 h2=>?_,λn o av' h1 h2 h3 dH=>?_,λn o o' av1 av2 h1 h2 h3 h4=>?_,λk av' h1 h2=>?_,λk av' g h1 h2 h3 h4=>?_,λk k' av1 av2 g h1 h2 h3 h4 h6 h7 kF=>?_,λn g h1=>?_,hG.dlt⟩
 ·rw[kM];by_cases e:d=d'
  ·subst e;rw[gC,lS]at h1;cases h1;refine⟨.pointer (some ⟨w.heap.size,0,none⟩),by simp[Act.put,h.size,hd],?_⟩;unfold AVRep;simp only[if_true];exact⟨bK,by rw[bM];rfl⟩
  ·rw[kB d' (Ne.symm e) (by omega)]at h1;obtain⟨v',h3,h4⟩:=hG.slot d' av' h1 h2;exact⟨v',by simp[Act.put,e,h3],lD h1 h4⟩
 ·rw[kB _ (by unfold i7;omega) (by unfold i7;omega)]at h1;have hn:=(hr _ _ h1).2.1;rw[Q8 h2]at hn;rw[kB _ (by omega) (by omega)]at h3;rw[kM];obtain⟨v,h4,h6,h7⟩:=hG.fld n o av' h1 h2 h3 dH;refine⟨v,lD h1 h4,h6,?_⟩;rw[kR _ (by omega)];exact h7
 ·rw[kB _ (by unfold i7;omega) (by unfold i7;omega)]at h1 h2;exact h.fdis n o o' av1 av2 h1 h2 h3 h4
 ·rw[kM];by_cases e:k=100000+nn
  ·subst e;rw[uX]at h1;cases h1;rw[bM];unfold OC;rcases bJ with bJ | rfl
   ·rw[if_pos bJ];refine⟨w.heap.size,xs,ty,rfl,x8 _ _,(gG bJ).keep (Q6 h.dlt hb' λ_ _ h=>h),λhl=>?_⟩;obtain⟨m,c,g1,g2⟩:=eB bJ hl;refine⟨m,c,g1,?_⟩;rw[g2];unfold J1;rcases F7 hl with h6 | h6
    ·rw[if_pos h6,if_pos h6]
    ·unfold RN at h6;rw[kR _ (by omega)]
   ·simp only[if_true];exact⟨w.heap.size,xs.toArray,ty,rfl,x8 _ _⟩
  ·have rA:=h2;unfold n4 at rA;rw[kB k (by omega) e]at h1;rw[kR k e];refine(hG.obj k av' h1 h2).move hid (λ_ hl=>⟨hl,?_⟩) (λ_ _=>rfl);unfold J1;rcases F7 hl with h6 | h6
   ·rw[if_pos h6,if_pos h6]
   ·unfold RN at h6;rw[kR _ (by omega)]
 ·by_cases e:k=100000+nn
  ·subst e;rw[bM]at h4;have h4:some w.heap.size=some g:=h4;cases h4;refine⟨.inl h.below.size,by simp,λo _ hd=>?_⟩;have:=h.dlt _ _ hd;omega
  ·have rA:=h2;unfold n4 at rA;rw[kB k (by omega) e]at h1;rw[kR k e]at h4 |-;exact hG.blk k av' g h1 h2 h3 h4
 ·have rR:=h3;have pR:=h4;unfold n4 at rR pR;by_cases e1:k=100000+nn
  ·have e2:k'≠100000+nn:=λe=>kF (e1.trans e.symm);rw[kB k' (by omega) e2]at h2;rw[e1,bM,kR k' e2];intro h8 h9;have:=(h.blk k' av2 g h2 h4 h7 h9).2.1;have h8:some w.heap.size=some g:=h8;cases h8;omega
  ·rw[kB k (by omega) e1]at h1;by_cases e2:k'=100000+nn
   ·rw[e2,bM,kR k e1];intro h8 h9;have:=(h.blk k av1 g h1 h3 h6 h8).2.1;have h9:some w.heap.size=some g:=h9;cases h9;omega
   ·rw[kB k' (by omega) e2]at h2;rw[kR k e1,kR k' e2];exact h.disj k k' av1 av2 g h1 h2 h3 h4 h6 h7 kF
 ·have:=U0.hf n g h1;rw[kR _ (λe=>hnf g (by rw[<-e];exact h1))];exact h.fix n g h1
theorem b6j(nn:Nat)(hg:Gd w0 U0 nt ops o gs S)(hd:o.dst=some d)(hn:Nat.blt d nt=true)(h5:Nat.blt d 100000=true){ty:TypeId}{fs:Array Field}{it:TypeInfo}{cs:Array Value}{sz:List Nat}{zs:List CV}(ho:o.op=.alloc ty)(hu:P.underlying ty=some (.struct fs))(hi:P.info? ty=some it)(hz:it.zero=some (.agg cs))(kC:szO P fs.toList 0=some sz)(h0:zsO sz cs.toList=some zs)(hp:(sz.all λz=>Nat.blt 0 z)=true)(qI:Nat.ble cs.size 100=true)(sR:(Nat.blt nn 100000||(Nat.ble 350000 nn&&Nat.blt nn 400000))=true)(hnf:∀v,U0.f (100000+nn)=some v->False):AOp P w0 U0 nt ops o gs [(nn,[])] S (a0T nn zs 0++[(d,.bp nn 0 []),(100000+nn,.obj)]):=by
 intro s hs hN a w ⟨D,hv,h⟩ Q K hK;rw[if_pos (hg s hs a w D hv h)];have mS:=bL h5;have bK:BN nn:=by
  rcases Bool.or_eq_true_iff.1 sR with h1 | h1
  ·exact .inl (bL h1)
  ·rw[Bool.and_eq_true]at h1;exact .inr ⟨Nat.le_of_ble_eq_true h1.1,bL h1.2⟩
 have jU:=bK;unfold BN at jU;have he:(execOp a.eval o).run P w=.ok (.value (.pointer (some ⟨w.heap.size,0,none⟩))) (w.alloc (.cells cs ty)):=by simp[execOp,ho,Instr.alloc,zeroValue,typeInfo,hi,hz,D5,Value.cells]
 unfold Oper.wp;rw[he,Oper.upon_value,hd];have hr:=(hN (nn,[]) (by simp)).nr;have hG:=h.newboxN (d:=d) (av:=.obj) bK hnf hr (bL hn) mS (.inr rfl) (xs:=cs.toList) ty (λe=>by cases e) (λe=>by cases e);rw[Array.toArray_toList]at hG;obtain⟨segs,e1,e2,e3,e4,e5⟩:=H9 (U:=Us w0 U0 D) (w:=w.alloc (.cells cs ty)) h0
 suffices hfin:SimG w0 U0 nt (a0T nn zs 0++((d,AV.bp nn 0 [])::(100000+nn,AV.obj)::s)) (a.put (some d) (.pointer (some ⟨w.heap.size,0,none⟩))) (w.alloc (.cells cs ty)) D (λk=>if k=100000+nn then .pointer (some ⟨w.heap.size,0,none⟩)else hv k) by
  exact hK _ _ ⟨D,_,by rw[append_assoc];exact hfin⟩
 refine hG.addFs (n:=nn) (g:=w.heap.size) bK (by rw[lN (by omega),lS]) (λq av h1 h2=>?_) (by simp only[if_true];rfl) e4 e5 (λi gH=>?_) (λc hc=>?_) (by rw[e1];have:=Nat.le_of_ble_eq_true qI;simpa using this)
 ·rw[lN (by unfold i7;omega),lN (by unfold i7;omega)]at h1;have:=(hr _ _ h1).2.1;rw[Q8 h2]at this;exact this rfl
 ·rw[e1]at gH |-;rw[Nat.zero_add];have:=x8 w (.cells cs ty);simp only[World.cell?,this];simp
 ·rw[all_eq_true]at hp;have:c.size∈sz:=by rw[<-e3];exact mem_map.2 ⟨c,hc,rfl⟩
  exact bL (hp _ this)
theorem zbv{P:Program}{w0:World}{U0:UX}{nt:Nat}{ops:Array Oper}{o:Oper}{S:Nat->Option AV}{gs:List Nat}{d:Nat}{ty:TypeId}{fs:Array Field}{it:TypeInfo}{cs:Array Value}{sz:List Nat}{zs:List CV}(nn:Nat)(p:Gd w0 U0 nt ops o gs S:=by exact gN rfl)(r:o.dst=some d:=by exact rfl)(t:Nat.blt d nt=true:=by exact rfl)(u:Nat.blt d 100000=true:=by exact rfl)(x:o.op=.alloc ty:=by exact rfl)(y:P.underlying ty=some (.struct fs):=by exact rfl)(A:P.info? ty=some it:=by exact rfl)(B:it.zero=some (.agg cs):=by exact rfl)(C:szO P fs.toList 0=some sz:=by exact rfl)(E:zsO sz cs.toList=some zs:=by exact rfl)(F:(sz.all λz=>Nat.blt 0 z)=true:=by exact rfl)(G:Nat.ble cs.size 100=true:=by exact rfl)(H:(Nat.blt nn 100000||(Nat.ble 350000 nn&&Nat.blt nn 400000))=true:=by exact rfl)(hnf:∀v,U0.f (100000+nn)=some v->False):AOp P w0 U0 nt ops o gs [(nn,[])] S (a0T nn zs 0++[(d,.bp nn 0 []),(100000+nn,.obj)]):=b6j nn p r t u x y A B C E F G H hnf
theorem c5a(hg:Gd w0 U0 nt ops o gs S)(hd:o.dst=some d)(hn:Nat.blt d nt=true)(h5:Nat.blt d 100000=true){x:Operand}{i:Int}{ty:TypeId}{n q p}(ho:o.op=.unOp .neg ty x)(hx:ev S x=some ⟨0,.sc (.int .i64 i),n,q,p⟩)(hb : -9223372036854775808<i/\i<=9223372036854775808):AOp P w0 U0 nt ops o (gs++rd x) [] S [(d,.val (.i (-i)))]:=
 l4 hg hd hn h5 (λk hk=>mem_append_left _ hk) λs hs a w D hv hm=>by
  have h1:=v9 hm (λk hk=>hs k (mem_append_right _ hk)) hx;have hw:IntKind.i64.wrap (-i) = -i:=by rw[IntKind.wrap_i64];omega
  generalize a.eval=ρ at h1 |-;exact⟨.int .i64 (-i),by simp[execOp,ho,h1,Op.unary,go_sem,hw],o9 rfl⟩
theorem zbr{P:Program}{w0:World}{U0:UX}{nt:Nat}{ops:Array Oper}{o:Oper}{S:Nat->Option AV}{gs:List Nat}{d:Nat}{x:Operand}{i:Int}{ty:TypeId}{n}{q}{p}(r:Gd w0 U0 nt ops o gs S:=by exact gN rfl)(t:o.dst=some d:=by exact rfl)(u:Nat.blt d nt=true:=by exact rfl)(v:Nat.blt d 100000=true:=by exact rfl)(y:o.op=.unOp .neg ty x:=by exact rfl)(z:ev S x=some ⟨0,.sc (.int .i64 i),n,q,p⟩:=by exact rfl)(A : -9223372036854775808<i/\i<=9223372036854775808:=by first | omega | (constructor<;>omega)):AOp P w0 U0 nt ops o (gs++rd x) [] S [(d,.val (.i (-i)))]:=c5a r t u v y z A
theorem b2Y{t k e:TypeId}(hu:P.underlying t=some (.map k e))(g:Nat)(w:World):(Op.equal t (.map (some g)) (.map none)).run P w=.ok false w:=by
 unfold Op.equal;rw[show Op.maxDepth=9999+1 from rfl,Op.equalIn];simp[run_underlying hu]
theorem b2X(hg:Gd w0 U0 nt ops o gs S)(hd:o.dst=some d)(hn:Nat.blt d nt=true)(h5:Nat.blt d 100000=true){x:Operand}{t1 t2 e k:TypeId}{n:Nat}{l:List CV}(ho:o.op=.binOp .eql t1 x (.const (.map none)) t2)(hu:P.underlying t1=some (.map k e))(hx:ev S x=some (.mref n))(bS:S n=some (.mp l)):AOp P w0 U0 nt ops o (gs++(rd x++[n])) [] S [(d,.val (.b false))]:=
 l4 hg hd hn h5 (λk hk=>mem_append_left _ hk) λs hs a w D hv hm=>by
  obtain⟨kN,h1,_⟩:RN n/\a.eval x=hv n/\(a.eval x).oneCell'=true:=n5 hm (λk hk=>hs k (mem_append_right _ (mem_append_left _ hk))) hx;have kH:n4 n:=by unfold RN at kN;unfold n4;omega
  obtain⟨g,es,clock,g1,g2,g3,g4,g5⟩:∃g es clock,hv n=.map (some g)/\w.heap[g]?=some (.map es clock)/\Ents (Us w0 U0 D) w l es.toList/\(∀e∈es,e.born<clock)/\(es.toList.map (λe:MapEntry=>e.born)).Nodup:=hm.obj n _ ((hs n (by simp)).trans bS) kH;rw[g1]at h1;have hb:=b2Y (P:=P) hu g w;have hc:a.eval (.const (.map none))=.map none:=rfl;refine⟨.bool false,?_,o9 rfl⟩;generalize a.eval=ρ at h1 hc |-;simp[execOp,ho,h1,hc,eqGuard,binOp,hb]
theorem zbs{P:Program}{w0:World}{U0:UX}{nt:Nat}{ops:Array Oper}{o:Oper}{S:Nat->Option AV}{gs:List Nat}{d:Nat}{x:Operand}{t1:TypeId}{t2:TypeId}{e:TypeId}{k:TypeId}{n:Nat}{l:List CV}(p:Gd w0 U0 nt ops o gs S:=by exact gN rfl)(q:o.dst=some d:=by exact rfl)(r:Nat.blt d nt=true:=by exact rfl)(t:Nat.blt d 100000=true:=by exact rfl)(u:o.op=.binOp .eql t1 x (.const (.map none)) t2:=by exact rfl)(v:P.underlying t1=some (.map k e):=by exact rfl)(y:ev S x=some (.mref n):=by exact rfl)(z:S n=some (.mp l):=by exact rfl):AOp P w0 U0 nt ops o (gs++(rd x++[n])) [] S [(d,.val (.b false))]:=b2X p q r t u v y z
theorem b6u(hg:Gd w0 U0 nt ops o gs S)(hd:o.dst=some d)(hn:Nat.blt d nt=true)(h5:Nat.blt d 100000=true){x y:Operand}{t kt et:TypeId}{k k2:IntKind}{i z2:Int}{n:Nat}{l:List CV}{n' q' p'}(ho:o.op=.lookup t x y false)(hu:P.underlying t=some (.map kt et))(eZ:P.underlying kt=some (.int k))(dO:(P.info? et).map (·.zero)=some (some (.int k2 z2)))(nZ:Y5 P et=some (.sc (.int k2 z2)))(hx:ev S x=some (.mref n))(hy:ev S y=some ⟨0,.sc (.int k i),n',q',p'⟩)(bS:S n=some (.mp l))(hik:A5 k l):AOp P w0 U0 nt ops o (gs++(rd x++(rd y++[n]))) [] S [(d,.val ((G4 k i l).getD (.sc (.int k2 z2))))]:=
 l4 hg hd hn h5 (λk hk=>mem_append_left _ hk) λs hs a w D hv hm=>by
  obtain⟨kN,h1,_⟩:RN n/\a.eval x=hv n/\(a.eval x).oneCell'=true:=n5 hm (λk hk=>hs k (mem_append_right _ (mem_append_left _ hk))) hx;have e2:=v9 hm (λk hk=>hs k (mem_append_right _ (mem_append_right _ (mem_append_left _ hk)))) hy;have kH:n4 n:=by unfold RN at kN;unfold n4;omega
  obtain⟨g,es,clock,g1,g2,g3,g4,g5⟩:∃g es clock,hv n=.map (some g)/\w.heap[g]?=some (.map es clock)/\Ents (Us w0 U0 D) w l es.toList/\(∀e∈es,e.born<clock)/\(es.toList.map (λe:MapEntry=>e.born)).Nodup:=hm.obj n _ ((hs n (by simp)).trans bS) kH;obtain⟨it,zv,i1,i2,i3⟩:=N8 nZ;have dS:=run_checkKey (P:=P) (w:=w) eZ (k:=.int k i) rfl es.isEmpty 9999;have dD:=Go.MapKept.run_getObj_map (P:=P) g2;rcases M7 0 g3 hik (i:=i) with⟨f1,f2⟩ | ⟨j,e,c,f1,f2,f3,f4,f5,f6⟩
  ·have dE:=run_findKey (P:=P) (w:=w) eZ f1;have sQ:(zeroValue et).run P w=.ok zv w:=by simp[zeroValue,typeInfo,i1,i2]
   rw[i1,Option.map_some,i2]at dO;injection dO with dO;injection dO with dO;refine⟨zv,?_,?_⟩
   ·rw[g1]at h1;generalize a.eval=ρ at h1 e2 |-;simp[execOp,ho,Instr.lookup,run_underlying hu,h1,e2,dD,dS,dE,sQ]
   ·rw[f2,dO];exact o9 rfl
  ·have dE:=run_findKey (P:=P) (w:=w) eZ f1;refine⟨e.val,?_,?_⟩
   ·rw[g1]at h1;generalize a.eval=ρ at h1 e2 |-;simp[execOp,ho,Instr.lookup,run_underlying hu,h1,e2,dD,dS,dE]
   ·rw[f6];exact n9 f4
theorem zbq{P:Program}{w0:World}{U0:UX}{nt:Nat}{ops:Array Oper}{o:Oper}{S:Nat->Option AV}{gs:List Nat}{d:Nat}{x:Operand}{y:Operand}{t:TypeId}{kt:TypeId}{et:TypeId}{k:IntKind}{k2:IntKind}{i:Int}{z2:Int}{n:Nat}{l:List CV}{n'}{q'}{p'}(p:Gd w0 U0 nt ops o gs S:=by exact gN rfl)(q:o.dst=some d:=by exact rfl)(r:Nat.blt d nt=true:=by exact rfl)(u:Nat.blt d 100000=true:=by exact rfl)(v:o.op=.lookup t x y false:=by exact rfl)(z:P.underlying t=some (.map kt et):=by exact rfl)(A:P.underlying kt=some (.int k):=by exact rfl)(B:(P.info? et).map (·.zero)=some (some (.int k2 z2)):=by exact rfl)(C:Y5 P et=some (.sc (.int k2 z2)):=by exact rfl)(E:ev S x=some (.mref n):=by exact rfl)(F:ev S y=some ⟨0,.sc (.int k i),n',q',p'⟩:=by exact rfl)(G:S n=some (.mp l):=by exact rfl)(H:A5 k l):AOp P w0 U0 nt ops o (gs++(rd x++(rd y++[n]))) [] S [(d,.val ((G4 k i l).getD (.sc (.int k2 z2))))]:=b6u p q r u v z A B C E F G H
theorem a8a(hg:Gd w0 U0 nt ops o gs S)(hd:o.dst=some d)(hn:Nat.blt d nt=true)(h5:Nat.blt d 100000=true){x:Operand}{t1 t2 e k:TypeId}{n:Nat}{c:CV}{m q p}(ho:o.op=.binOp .eql t1 x (.const (.map none)) t2)(hu:P.underlying t1=some (.map k e))(hx:ev S x=some (.mref n))(bS:S n=some ⟨17,c,m,q,p⟩):AOp P w0 U0 nt ops o (gs++(rd x++[n])) [] S [(d,.val (.b true))]:=
 l4 hg hd hn h5 (λk hk=>mem_append_left _ hk) λs hs a w D hv hm=>by
  obtain⟨kN,h1,_⟩:RN n/\a.eval x=hv n/\(a.eval x).oneCell'=true:=n5 hm (λk hk=>hs k (mem_append_right _ (mem_append_left _ hk))) hx;have kH:n4 n:=by unfold RN at kN;unfold n4;omega
  have g1:hv n=.map none:=(show OX _ _ _ _ from hm.obj n _ ((hs n (by simp)).trans bS) kH).1.1 rfl;rw[g1]at h1;have hb:=b5G (P:=P) hu w;have hc:a.eval (.const (.map none))=.map none:=rfl;refine⟨.bool true,?_,o9 rfl⟩;generalize a.eval=ρ at h1 hc |-;simp[execOp,ho,h1,hc,eqGuard,binOp,hb]
theorem zbo{P:Program}{w0:World}{U0:UX}{nt:Nat}{ops:Array Oper}{o:Oper}{S:Nat->Option AV}{gs:List Nat}{d:Nat}{x:Operand}{t1:TypeId}{t2:TypeId}{e:TypeId}{k:TypeId}{n:Nat}{c:CV}{m}{q}{p}(r:Gd w0 U0 nt ops o gs S:=by exact gN rfl)(t:o.dst=some d:=by exact rfl)(u:Nat.blt d nt=true:=by exact rfl)(v:Nat.blt d 100000=true:=by exact rfl)(y:o.op=.binOp .eql t1 x (.const (.map none)) t2:=by exact rfl)(z:P.underlying t1=some (.map k e):=by exact rfl)(A:ev S x=some (.mref n):=by exact rfl)(B:S n=some ⟨17,c,m,q,p⟩:=by exact rfl):AOp P w0 U0 nt ops o (gs++(rd x++[n])) [] S [(d,.val (.b true))]:=a8a r t u v y z A B
theorem c0l(k n:Nat)(hk:Nat.ble 500000 k=true)(hn:(Nat.ble 200000 n&&Nat.blt n 400000)=true)(hs:look s k=some (.val (.sc (.map none))))(hr:A6 s [(n,[])]=true)(oB:V4 s n=true):Wk w0 U0 nt s ((k,.mref n)::(n,.nmap)::s):=by
 rintro a w ⟨D,hv,h⟩;have hk5:=Nat.le_of_ble_eq_true hk;have kN:=rnB hn;have fV:RN n:=RW.rn kN;unfold RW at kN;have sS:look s n=none:=by
  cases e:look s n with
  | none=>rfl
  | some av =>
   unfold V4 at oB;rw[all_eq_true]at oB;have:=oB _ (E0 e);simp[Nat.beq_refl]at this
 have jL:W6 s n:=(q9 hr (n,[]) (by simp)).nr;obtain⟨kG,gJ⟩:∃kG:Nat->Value,kG=λx=>if x=n then .map none else hv x:=⟨_,rfl⟩
 have kR:∀x,x≠n->kG x=hv x:=λx hx=>by rw[gJ];simp only[if_neg hx]
 have bM:kG n=.map none:=by rw[gJ];simp
 obtain⟨s',gC⟩:∃s',s'=(k,AV.mref n)::(n,AV.nmap)::s:=⟨_,rfl⟩
 rw[<-gC];have kB:∀x,x≠k->x≠n->look s' x=look s x:=λx h1 h2=>by rw[gC,lN (Ne.symm h1),lN (Ne.symm h2)]
 have oE:look s' k=some (.mref n):=by rw[gC,lS]
 have oF:look s' n=some .nmap:=by rw[gC,lN (by omega),lS]
 have hl:∀q e,v8 s' q e↔v8 s q e:=λq e=>by
  unfold v8;by_cases e1:q=k
  ·omega
  ·by_cases e2:q=n
   ·subst e2;rw[oF,sS];constructor<;>(rintro⟨h1,_⟩;cases h1)
   ·rw[kB q e1 e2]
 have kM:a9 s'=a9 s:=by funext q;simp only[a9,hl]
 have lD:∀{k' av v},look s k'=some av->AVRep (Us w0 U0 D) w hv (a9 s) av v->AVRep (Us w0 U0 D) w kG (a9 s) av v:=fun{k' av v} h1 h2 =>
  h2.move (λ_ _ _ h1 h2=>⟨h1,h2⟩) (λ_ h=>h) λh3=>kR _ (a2F fV (jL k' av h1).1 h3)
 refine⟨D,kG,h.below,h.dfr,h.size,λd av g1 g2=>?_,λm o av g1 g2 g3 g4=>?_,λm o o' av av' g1 g2 g3 g4 g5=>?_,λk' av g1 g2=>?_,λk' av g g1 g2 g3 g4=>?_,λk' k2 av av' g g1 g2 g3 g4 g5 g6 g7 g8=>?_,λk' v g1=>?_,h.dlt⟩
 ·rw[kB d (by omega) (by omega)]at g1;rw[kM];obtain⟨v,h1,h2⟩:=h.slot d av g1 g2;exact⟨v,h1,lD g1 h2⟩
 ·have fG:=H4 g4;unfold n4 at fG;unfold BN at g4;rw[kB (100000+m) (by omega) (by omega)]at g3;rw[kM,kR (100000+m) (by omega)];by_cases e:i7 m o=k
  ·rw[e,oE]at g1;cases g1;obtain⟨v,h1,h2,h3⟩:=h.fld m o _ (by rw[e];exact hs) g2 g3 g4;obtain⟨h4,_⟩:=o0.1 h1.1;subst h4;exact⟨.map none,⟨fV,bM.symm,rfl⟩,rfl,h3⟩
  ·rw[kB _ e (by unfold i7;omega)]at g1;obtain⟨v,h1,h2,h3⟩:=h.fld m o av g1 g2 g3 g4;exact⟨v,lD g1 h1,h2,h3⟩
 ·have conv:∀o (av:AV),look s' (i7 m o)=some av->∃av',look s (i7 m o)=some av'/\av'.sz=av.sz:=λo av f1=>by
   by_cases e:i7 m o=k
   ·rw[e,oE]at f1;cases f1;exact⟨.val (.sc (.map none)),by rw[e];exact hs,rfl⟩
   ·rw[kB _ e (by unfold i7;omega)]at f1;exact⟨av,f1,rfl⟩
  obtain⟨a1,b1,c1⟩:=conv o av g1
  obtain⟨a2,b2,c2⟩:=conv o' av' g2
  rw[<-c1];exact h.fdis m o o' a1 a2 b1 b2 g3 g4 g5
 ·unfold n4 at g2;rw[kM];by_cases e:k'=n
  ·subst e;rw[oF]at g1;cases g1;rw[bM];exact⟨⟨λ_=>rfl,(λe=>by cases e)⟩,(λe=>by cases e),(λe=>by cases e),(λe=>by cases e)⟩
  ·rw[kB k' (by omega) e]at g1;rw[kR k' e];exact(h.obj k' av g1 g2).move (λ_ _ _ h1 h2=>⟨h1,h2⟩) (λht hl=>⟨hl,by
    unfold J1;rw[kR _ (jL k' av g1).1]⟩) (λ_ _=>rfl)
 ·unfold n4 at g2;by_cases e:k'=n
  ·subst e;rw[bM]at g4;cases g4
  ·rw[kB k' (by omega) e]at g1;rw[kR k' e]at g4 |-;exact h.blk k' av g g1 g2 g3 g4
 ·unfold n4 at g3 g4;by_cases e:k'=n
  ·subst e;rw[bM]at g8;cases g8
  ·by_cases e2:k2=n
   ·subst e2;rw[bM];intro h9;cases h9
   ·rw[kB k' (by omega) e]at g1;rw[kB k2 (by omega) e2]at g2;rw[kR k' e]at g8;rw[kR k2 e2];exact h.disj k' k2 av av' g g1 g2 g3 g4 g5 g6 g7 g8
 ·have:=U0.hf k' v g1;rw[kR k' (by omega)];exact h.fix k' v g1
end
def b5y(L D:Nat)(Kp:World->World->Prop)(I:World->Prop)(W:World):Exit->Act->World->Prop
 | .normal,_,W'=>W'.heap[L]?=W.heap[L]?/\W'.heap[D]?=W.heap[D]?/\Kp W W'/\I W'
 | _,_,_=>False
section
variable{α:Type}{P:Program}
theorem b6C{g:Operand}{ps:Array Tmp}{assign body:Code}{Q:Exit->Act->World->Prop}{a:Act}{w:World}{gf:Nat}{lb:Array Value}
  (hg:a.eval g=.func (.func gf) #[] lb) (eg:∀args w,(callFunc gf args).run P w=.ok (.enter gf args) w)
  {encs:α->Array Value} {Ok:List α->α->Prop} {Kp:World->World->Prop} {S:List α->Prop} (nL:a3u P gf lb encs (λpre x _=>Ok pre x) Kp S w)
  (qA:∀{A B C:World},Kp A B->Kp B C->Kp A C)
  (qB:∀(W:World) (l:Nat) (o':Obj),w.heap.size<=l->Kp W (W.putObj l o'))
  (gR:∀x,(encs x).size=ps.size) (I:List α->World->Prop) (hI:∀pre A B,I pre A->Below A.heap.size A B->I pre B)
  (lF:∀(pre:List α) (A:World) (r r':Loop),I pre A->A.heap[w.heap.size+1]?=some (.loop r)->I pre (A.putObj (w.heap.size+1) (.loop r')))
  (h0:∀r:Loop,I [] ((w.alloc (.deferred (some []))).alloc (.loop r))) (a₁:α->Act)
  (cC:∀(x:α) (W:World) (K:Act->World->Prop),K (a₁ x) W ->
   assign.wpIn (Fence.wide.inRound (w.heap.size+1)) 1 P (Exit.then K (λ_ _ _=>False)) { tmps:=(ps.zip (encs x)).foldl (λt (p,v)=>t.setIfInBounds p v) a.tmps,defers:=[] } W)
  (fD:∀(pre:List α) (x:α) (W:World),I pre W->Ok pre x->w.heap.size+2<=W.heap.size->body.wpIn (Fence.wide.inRound (w.heap.size+1)) 1 P (b5y (w.heap.size+1) w.heap.size Kp (I (pre++[x])) W) (a₁ x) W)
  (dL:∀(xs:List α) (W:World),S xs->I xs W->W.heap[w.heap.size]?=some (.deferred (some []))->Q .normal { a with defers:={ target:=.collected w.heap.size,args := #[] }::a.defers } W) :
  (Code.rangeFunc g ps assign body).wpIn Fence.wide 3 P Q a w:=by
 refine wpIn_rangeFunc λfn dQ=>?_;obtain⟨D,hD⟩:∃D,D=w.heap.size:=⟨_,rfl⟩
 rw[<-hD]at lF cC fD dL qB;obtain⟨W1,gZ⟩:∃W1,W1=(w.alloc (.deferred (some []))).alloc (.loop (p9 fn a.tmps ps assign body D .ready)):=⟨_,rfl⟩
 have below1:Below w.heap.size w W1:=by rw[gZ];exact((Below.refl _ w).alloc (Nat.le_refl _) _).alloc (by simp) _
 have atL:W1.heap[D+1]?=some (.loop (p9 fn a.tmps ps assign body D .ready)):=by have:=World.alloc_heap_new (w.alloc (.deferred (some []))) (.loop (p9 fn a.tmps ps assign body D .ready));rw[World.size_alloc,<-hD,<-gZ]at this;exact this
 have atD:W1.heap[D]?=some (.deferred (some [])):=by have h:=World.alloc_heap_new w (.deferred (some []));rw[<-hD]at h;rw[gZ,Below.heap_alloc _ _ _ (by simp;omega)];exact h
 refine⟨D+1,[{ target:=.collected D,args := #[] }],W1,{ target:=.fn (.func gf) lb,args := #[.func (.yield (D+1)) #[] #[]] },W1,gf,#[.func (.yield (D+1)) #[] #[]]++lb,W1,?_,?_,λ_ _=>trivial,?_,(λ_=>by omega),?_⟩
 ·rw[gZ,hD];exact run_enterLoop_outer _ _ _ _ _
 ·simp only[resolve,hg];simp[go_sem]
 ·simp[invoke,go_sem,eg]
 refine(nL (D+1) (λpre V=>I pre V/\V.heap[D+1]?=some (.loop (p9 fn a.tmps ps assign body D .ready))/\V.heap[D]?=some (.deferred (some []))) W1 below1 ?abides ?rounds ⟨by rw[gZ];exact h0 _,atL,atD⟩).mono ?after
 case abides =>
  rintro pre A B ⟨h1,h2,h3⟩ hb;exact⟨hI _ _ _ h1 hb,(hb.block _ (Array.getElem?_eq_some_iff.1 h2).1).trans h2,(hb.block _ (Array.getElem?_eq_some_iff.1 h3).1).trans h3⟩
 case rounds =>
  rintro pre x V ⟨h1,h2,h3⟩ hx;have kA:=(Array.getElem?_eq_some_iff.1 h2).1;have hy:=run_yield (P:=P) (args:=encs x) h2 (gR x);refine⟨fn,_,assign,body,hy,roundIn_of_wpIn dQ (cC x V _ ⟨_,run_beginRound h2 rfl,?_⟩)⟩;have b2:(V.putObj (D+1) (.loop (p9 fn a.tmps ps assign body D .busy))).heap[D+1]?=some (.loop (p9 fn a.tmps ps assign body D .busy)):=World.putObj_heap_same kA;have b3:(V.putObj (D+1) (.loop (p9 fn a.tmps ps assign body D .busy))).heap[D]?=some (.deferred (some [])):=(World.putObj_heap_other (by omega)).trans h3;refine wpIn_mono (fD pre x (V.putObj (D+1) (.loop (p9 fn a.tmps ps assign body D .busy))) (lF _ _ _ _ h1 h2) hx (by rw[World.putObj_size];omega)) ?_;rintro e a3 U hp;cases e with
  | normal =>
   obtain⟨k0,k1,k2,k3⟩:=hp;have u2:=k0.trans b2;have u3:=k1.trans b3;have hr:=run_endRound (P:=P) none u2;refine⟨_,_,hr,rfl,⟨lF _ _ _ _ k3 u2,World.putObj_heap_same (Array.getElem?_eq_some_iff.1 u2).1,(World.putObj_heap_other (by omega)).trans u3⟩,?_⟩;exact qA (qA (qB _ _ _ (by omega)) k2) (qB _ _ _ (by omega))
  | ret=>exact hp.elim
  | exit _=>exact hp.elim
  | goto _=>exact hp.elim
  | panic _=>exact hp.elim
  | outgrown=>exact hp.elim
 case after =>
  rintro e V ⟨⟨v,rfl⟩,xs,hS,h1,h2,h3⟩;exact⟨none,_,run_endLoop (P:=P) h2 (by simp[p9]),dL xs _ hS (lF _ _ _ _ h1 h2) ((World.putObj_heap_other (by omega)).trans h3)⟩
end
section
variable{P:Program}{w0:World}{U0:UX}{nt:Nat}{ops:Array Oper}{o:Oper}{S:Nat->Option AV}{gs:List Nat}{d:Nat}{s:AS}{a:Act}{w:World}{D:Nat->Nat->Prop}{hv:Nat->Value}
abbrev AV.ob(g o:Nat):AV:=⟨20,.sc (.pointer (some ⟨g,0,none⟩)),0,o,[]⟩
theorem SimG.newob(h:SimG w0 U0 nt s a w D hv){n o:Nat}(hn:RW n)(hr:W6 s n){x:Obj}(hx:∀xs ty fl,x ≠ .cells xs ty fl)(ho:o=0->x=.deferred (some [])):SimG w0 U0 nt ((n,.ob w.heap.size o)::s) a (w.alloc x) D (λk=>if k=n then .pointer (some ⟨w.heap.size,0,none⟩)else hv k):=by
 have hb':Below w.heap.size w (w.alloc x):=(Below.refl _ _).alloc (Nat.le_refl _) _;exact h.newrow (X:=λ_=>False) (avn:=.ob w.heap.size o) (v':=.pointer (some ⟨w.heap.size,0,none⟩)) (D':=D) hn hr (λe=>by cases e) ((BelowX.refl _ w).step hb') (λb hb=>hb.elim) (λg hg=>by have hg:some w.heap.size=some g:=hg;cases hg;refine⟨.inr (Nat.le_refl _),by simp,λo _ hd=>?_⟩;have:=h.dlt _ _ hd;omega) (λb o hd => .inl hd) (λb o hd=>Nat.lt_of_lt_of_le (h.dlt _ _ hd) hb'.size) (Q6 h.dlt hb' λ_ _ h=>h) (λhv lv=>⟨⟨(λe=>by cases e),(λe=>by cases e)⟩,λ_=>⟨rfl,w.heap.size,x,rfl,x8 _ _,hx,ho⟩,(λe=>by cases e),(λe=>by cases e)⟩)
theorem SimG.putob(h:SimG w0 U0 nt s a w D hv){n o o':Nat}(hn:RW n){g:Nat}(hs:look s n=some (.ob g o)){x:Obj}(hx:∀xs ty fl,x ≠ .cells xs ty fl)(ho:o'=0->x=.deferred (some [])):SimG w0 U0 nt ((n,.ob g o')::s) a (w.putObj g x) D hv/\g<w.heap.size/\hv n=.pointer (some ⟨g,0,none⟩)/\∃y,w.heap[g]?=some y/\(o=0->y=.deferred (some [])):=by
 have kH:n4 n:=by unfold RW at hn;unfold n4;omega
 have hO:OX _ _ _ _:=h.obj n _ hs kH;obtain⟨e1,g',y,e2,e3,e4,e5⟩:=hO.2.1 rfl;have e1:hv n=.pointer (some ⟨g,0,none⟩):=e1;have hg:g'=g:=by rw[e1]at e2;injection e2 with e2;injection e2 with e2;injection e2 with e2;exact e2.symm
 subst hg;have kA:g'<w.heap.size:=(Array.getElem?_eq_some_iff.1 e3).1;refine⟨h.upd (av:=.ob g' o') (w':=w.putObj g' x) kH hs (λe=>by cases e) (λe=>by cases e) rfl (λg hh o ho=>hh o λe=>by cases e) (λe=>by cases e) (g:=g') (by rw[e1];rfl) rfl rfl rfl (by simp) (λk hk=>World.putObj_heap_other hk) λhc=>⟨⟨(λe=>by cases e),(λe=>by cases e)⟩,λ_=>⟨e1,g',x,e1,World.putObj_heap_same kA,hx,ho⟩,(λe=>by cases e),(λe=>by cases e)⟩,kA,e1,y,e3,e5⟩
theorem SimG.frame{V:UX}{pre sl:AS}(h:SimG w V 0 pre ⟨#[],[]⟩ w (λ_ _=>False) hv)(gB:(kO pre).all (Nat.ble 100000)=true)(dN:(kO sl).all (λk=>Nat.blt k 100000)=true){tmps:Array Value}(kC:tmps.size=nt)
  (hsv:∀d av,look sl d=some av->∃v,tmps[d]?=some v/\AVRep (Us w V (λ_ _=>False)) w hv (a9 pre) av v):SimG w V nt (sl++pre) ⟨tmps,[]⟩ w (λ_ _=>False) hv:=by
 have kV:∀{k av},look pre k=some av->100000<=k:=fun{k av} h1=>by rw[all_eq_true]at gB;exact Nat.le_of_ble_eq_true (gB k (j5 h1))
 have cX:∀{k av},look sl k=some av->k<100000:=fun{k av} h1=>by rw[all_eq_true]at dN;exact bL (dN k (j5 h1))
 have kB:∀{k},100000<=k->look (sl++pre) k=look pre k:=fun{k} h1=>by
  rw[d8];cases h2:look sl k with
  | none=>rfl
  | some av=>have:=cX h2;omega
 have kI:a9 (sl++pre)=a9 pre:=by
  funext n;unfold a9 v8;apply propext;constructor
  ·rintro(h1 | ⟨e,h1,h2,h3⟩)
   ·exact .inl h1
   ·rw[kB (by omega)]at h1;exact .inr ⟨e,h1,h2,h3⟩
  ·rintro(h1 | ⟨e,h1,h2,h3⟩)
   ·exact .inl h1
   ·exact .inr ⟨e,by rw[kB (by omega)];exact h1,h2,h3⟩
 refine⟨h.below,rfl,kC,λd av h1 h2=>?_,λn o av h1 h2 h3 h4=>?_,λn o o' av av' h1 h2=>?_,λk av h1 h2=>?_,λk av g h1 h2=>?_,λk k' av av' g h1 h2 h3 h4=>?_,h.fix,λb o hd=>hd.elim⟩
 ·rw[d8]at h1;cases h3:look sl d with
  | none=>rw[h3]at h1;have:=kV h1;omega
  | some av' =>
   rw[h3]at h1;cases h1;rw[kI];exact hsv d av h3
 ·rw[kB (by unfold i7;omega)]at h1;rw[kB (by omega)]at h3;rw[kI];exact h.fld n o av h1 h2 h3 h4
 ·rw[kB (by unfold i7;omega)]at h1 h2;exact h.fdis n o o' av av' h1 h2
 ·rw[kB h2.1]at h1;rw[kI];exact h.obj k av h1 h2
 ·rw[kB h2.1]at h1;exact h.blk k av g h1 h2
 ·rw[kB h3.1]at h1;rw[kB h4.1]at h2;exact h.disj k k' av av' g h1 h2 h3 h4
theorem SimG.bare(h:SimG w0 U0 nt s a w D hv){post:AS}(hp:Sub s post)(kS:(kO post).all (Nat.ble 100000)=true):SimG w0 U0 0 post ⟨#[],[]⟩ w D hv:=by
 have hS:=h.sub hp;have gW:∀{k av},look post k=some av->100000<=k:=fun{k av} h1=>by rw[all_eq_true]at kS;exact Nat.le_of_ble_eq_true (kS k (j5 h1))
 exact⟨hS.below,rfl,rfl,λd av h7 h8=>by have:=gW h7;omega,hS.fld,hS.fdis,hS.obj,hS.blk,hS.disj,hS.fix,hS.dlt⟩
end
def KpX(n0:Nat)(X:Nat->Prop)(V V':World):Prop:=∀b,b<n0->¬ X b->V'.heap[b]?=V.heap[b]?
def c2y{α:Type}(P:Program)(gf:Nat)(caps:List CV)(encC:α->List CV)(xs:List α):Prop:=
 ∀(w:World) (lb:List Value) (R:Nat->Nat->Prop),VReps R w caps lb->a3u P gf lb.toArray (λx=>((encC x).map CV.v).toArray) (λpre x _=>xs[pre.length]?=some x) (KpX w.heap.size λb=>¬ ∃o,R b o) (λys=>ys=xs) w
def c2z:List Oper->Option (List (Nat×Nat))
 | []=>some []
 | o::os=>match o.dst,o.op,o.guard,c2z os with
  | some d,.assign (.tmp t),none,some r=>some ((d,t)::r)
  | _,_,_,_=>none
def b6M:List (Nat×Nat)->Array Value->Array Value
 | [],tm=>tm
 | (d,t)::r,tm=>b6M r (tm.setIfInBounds d (tm.getD t undef))
def c0B:List (Nat×Nat)->AS->AS
 | [],s=>s
 | (d,t)::r,s=>c0B r ((d,match look s t with | some av=>av | none => .no)::s)
def a7H:List Tmp->List Value->Array Value->Array Value
 | p::ps,v::vs,tm=>a7H ps vs (tm.setIfInBounds p v)
 | _,_,tm=>tm
def c0D:List Tmp->List CV->AS->AS
 | p::ps,c::cs,s=>c0D ps cs ((p,.val c)::s)
 | _,_,s=>s
def SlOk(R:AV->Value->Prop)(s:AS)(tm:Array Value):Prop:=∀d av,look s d=some av->∃v,tm[d]?=some v/\R av v
theorem SlOk.set{R:AV->Value->Prop}{s:AS}{tm:Array Value}(h:SlOk R s tm){d:Nat}(hd:d<tm.size){av:AV}{v:Value}(hv:R av v):SlOk R ((d,av)::s) (tm.setIfInBounds d v):=by
 intro d' av' h1;rw[k9]at h1;split at h1
 ·rename_i e;subst e;cases h1;exact⟨v,by simp[hd],hv⟩
 ·rename_i e;obtain⟨u,h2,h3⟩:=h d' av' h1;exact⟨u,by rw[Array.getElem?_setIfInBounds_ne (by omega)];exact h2,h3⟩
theorem SlOk.asg{R:AV->Value->Prop}(kZ:∀v,R .no v):∀{al:List (Nat×Nat)} {s:AS} {tm:Array Value},SlOk R s tm->(al.all λp=>Nat.blt p.1 tm.size)=true->SlOk R (c0B al s) (b6M al tm)/\(b6M al tm).size=tm.size
 | [],s,tm,h,_=>⟨h,rfl⟩
 | (d,t)::r,s,tm,h,hl=>by
  rw[all_cons,Bool.and_eq_true]at hl;have hd:=bL hl.1;have:=SlOk.asg kZ (al:=r) (s:=(d,match look s t with | some av=>av | none => .no)::s) (tm:=tm.setIfInBounds d (tm.getD t undef)) (h.set hd ?_) (by rw[Array.size_setIfInBounds];exact hl.2)
  ·exact⟨this.1,by rw[b6M,this.2,Array.size_setIfInBounds]⟩
  ·cases e:look s t with
   | none=>exact kZ _
   | some av =>
    obtain⟨v,h1,h2⟩:=h t av e;show R av _;simp only[Array.getD_eq_getD_getElem?,h1,Option.getD_some];exact h2
theorem SlOk.par{R:AV->Value->Prop}:∀{ps:List Tmp} {cs:List CV} {s:AS} {tm:Array Value},SlOk R s tm->(ps.all λp=>Nat.blt p tm.size)=true->(∀c∈cs,R (.val c) c.v)->SlOk R (c0D ps cs s) (a7H ps (cs.map CV.v) tm)/\(a7H ps (cs.map CV.v) tm).size=tm.size
 | [],cs,s,tm,h,_,_=>⟨by cases cs<;>exact h,by cases cs<;>rfl⟩
 | p::ps,[],s,tm,h,_,_=>⟨h,rfl⟩
 | p::ps,c::cs,s,tm,h,hl,hc=>by
  rw[all_cons,Bool.and_eq_true]at hl;have:=SlOk.par (ps:=ps) (cs:=cs) (s:=(p,.val c)::s) (tm:=tm.setIfInBounds p c.v) (h.set (bL hl.1) (hc c (by simp))) (by rw[Array.size_setIfInBounds];exact hl.2) (λc' lZ=>hc c' (mem_cons_of_mem _ lZ));exact⟨this.1,by show(a7H ps (cs.map CV.v) (tm.setIfInBounds p c.v)).size=_;rw[this.2,Array.size_setIfInBounds]⟩
theorem b4S:∀(ps:List Tmp) (vs:List Value) (tm:Array Value),(ps.toArray.zip vs.toArray).foldl (λt (p,v)=>t.setIfInBounds p v) tm=a7H ps vs tm:=by
 intro ps vs tm;rw[List.zip_toArray,List.foldl_toArray]
 induction ps generalizing vs tm with
 | nil=>cases vs<;>rfl
 | cons p ps ih =>
  cases vs with
  | nil=>rfl
  | cons v vs=>rw[List.zip_cons_cons,List.foldl_cons];exact ih vs _
theorem b4D{P:Program}{ro:Option Nat}{ops:Array Oper}{Q:Exit->Act->World->Prop}:∀{l:List Oper} {al:List (Nat×Nat)} {tm:Array Value} {ds:List Deferred} {w:World},c2z l=some al->Q .normal ⟨b6M al tm,ds⟩ w->wpListIn (B5 ro) 1 P ops Q l ⟨tm,ds⟩ w
 | [],al,tm,ds,w,h,hq=>by cases h;exact hq
 | o::os,al,tm,ds,w,h,hq=>by
  rw[c2z]at h;split at h
  ·rename_i d t r h1 h2 h3 h4;cases h;unfold wpListIn;rw[if_pos (by simp[Region.wanted,h3])];refine⟨λ_ _=>trivial,?_⟩;have hs:(o.semAt (B5 ro).round (Act.eval ⟨tm,ds⟩))=pure (.value (tm.getD t undef)):=by rw[Oper.semAt_eq _ _ _ (λc hc=>by rw[h2]at hc;cases hc)];simp only[execOp,h2];rfl
   rw[hs];show wpListIn _ _ _ _ _ _ _ _;rw[h1];exact b4D h4 hq
  ·cases h
section
variable{P:Program}{w0:World}{U0:UX}{nt:Nat}{s:AS}
theorem b9f{n m:Nat}{c:Code}{Q:Exit->Act->World->Prop}{a:Act}{w:World}(h:c.wpIn Fence.wide n P Q a w):c.wpIn Fence.wide m P Q a w:=
 λb k cs h1 h2 _=>h b k cs h1 h2 (room_wide _)
def a2l(P:Program)(w0:World)(U0:UX)(nt:Nat)(c:Code)(Q:Exit->AS->Nat->Prop)(s:AS):Prop:=
 ∀a w,Sim w0 U0 nt s a w->c.wpIn Fence.wide 1 P (λe a' w'=>∃s' a'' g,Q e s' g/\Sim w0 U0 nt s' a'' w'/\a'=wdA a'' [⟨.collected g,#[]⟩]/\look s' 299999=some (.ob g 0)) a w
theorem I4{x y:Code}{Q:Exit->AS->Nat->Prop}(h:AWp P w0 U0 nt x (λe s'=>e=.normal/\a2l P w0 U0 nt y Q s') s):a2l P w0 U0 nt (.seq x y) Q s:=λa w hs=>by
 have:=h ⟨none,[]⟩ a w hs;unfold WP at this;rw[a0M hs.df]at this;refine wpIn_seq (wpIn_mono this ?_);rintro e a' w' ⟨a'',rfl,s',⟨rfl,h2⟩,h3⟩;show Code.wpIn _ _ _ _ _ _ _;rw[a0M h3.df];exact h2 a'' w' h3
theorem a7w{x y:Code}{Q:Exit->AS->Nat->Prop}(h:a2l P w0 U0 nt x (λe s' g=>e=.normal/\AWp P w0 U0 nt y (λe s2=>Q e s2 g/\look s2 299999=some (.ob g 0)) s') s):a2l P w0 U0 nt (.seq x y) Q s:=λa w hs=>by
 refine wpIn_seq (wpIn_mono (h a w hs) ?_);rintro e a' w' ⟨s',a'',g,⟨rfl,h2⟩,h3,rfl,h4⟩;show Code.wpIn _ _ _ _ _ _ _;refine wpIn_mono (h2 ⟨none,[⟨.collected g,#[]⟩]⟩ a'' w' h3) ?_;rintro e b w2 ⟨b',rfl,s2,⟨h5,h6⟩,h7⟩;exact⟨s2,b',g,h5,h7,rfl,h6⟩
theorem a1d{id:Nat}{c:Code}{Q:Exit->AS->Nat->Prop}(h:a2l P w0 U0 nt c (λe s' g=>e=.normal/\Q .normal s' g) s):a2l P w0 U0 nt (.block id c) Q s:=λa w hs=>by
 refine wpIn_block (wpIn_mono (h a w hs) ?_);rintro e a' w' ⟨s',a'',g,⟨rfl,h2⟩,h3⟩;exact⟨s',a'',g,h2,h3⟩
theorem b2w{α:Type}{g:Operand}{ps:List Tmp}{rid:Nat}{l:List Oper}{body:Code}{gf:Nat}{caps:List CV}{encC:α->List CV}{xs:List α}{al:List (Nat×Nat)}{n1 q1 p1}(ob:Nat->AS)(sl:AS)
  (iC:ev (look s) g=some ⟨0,.fn gf 0 caps,n1,q1,p1⟩) (oG:a3H P gf) (hG:c2y P gf caps encC xs)
  (hasg:c2z l=some al) (fJ:(al.all λp=>Nat.blt p.1 nt&&Nat.blt p.1 100000)=true) (gR:(ps.all λp=>Nat.blt p nt&&Nat.blt p 100000)=true) (oH:∀x∈xs,∀c∈encC x,∃v,c=.sc v/\v.oneCell'=true) (kD:∀x,(encC x).length=ps.length)
  (dN:SubL s sl) (cV:(kO sl).all (λk=>Nat.blt k 100000)=true) (oI:SubL s (ob 0))
  (fK:∀k,(ob k).all F5=true) (cO:∀k,(ob k).all (G7 (kO (ob k)))=true) (gX:∀k,kO (ob k)=kO (ob 0))
  (vW:((kO (ob 0)).all λk=>Nat.ble 300000 k)=true) (jL:A6 s ((299999,[])::(299998,[])::J6 (kO (ob 0)) (kO (ob 0)) (kO (ob 0)))=true)
  (oZ:((J6 (kO (ob 0)) (kO (ob 0)) (kO (ob 0))).all λq=>!Nat.beq q.1 0&&(!Nat.beq q.1 100000&&!Nat.beq q.1 1100000))=true)
  (cP:∀k x,xs[k]?=some x->∀(w:World) (U:UX),(∀k' v,U.f k'=some v->l7 (kO (ob k)) k'=true)->AWp P w U nt body (λe s'=>e=.normal/\Wk w U nt s' (ob (k+1))) (c0B al (c0D ps (encC x) sl)++ob k)) :
  a2l P w0 U0 nt (.rangeFunc g ps.toArray (.region rid l.toArray false) body) (λe s' m=>e=.normal/\s'=ob xs.length++((299998,.ob (m+1) 1)::(299999,.ob m 0)::s)) s:=by
 rintro a w ⟨D0,hv0,h⟩;obtain⟨ys,lb,e1,e2,e3,e4⟩:=X0.1 (A7 h (λk _=>rfl) iC);have fS:ys=[]:=eq_nil_of_length_eq_zero e2;subst fS;have eI:VReps (Us w0 U0 D0) w caps lb:=S5 e4 (by simpa using e3);obtain⟨lp,cK⟩:∃lp:AS,lp=(299998,AV.ob (w.heap.size+1) 1)::(299999,AV.ob w.heap.size 0)::s:=⟨_,rfl⟩
 have pH:=q9 jL;have eJ:∀{k av k'},look (ob k) k'=some av->300000<=k':=fun{k av k'} h1=>by rw[all_eq_true]at vW;refine Nat.le_of_ble_eq_true (vW k' ?_);rw[<-gX k];exact j5 h1
 have hL:look lp 299998=some (.ob (w.heap.size+1) 1):=by rw[cK,lS]
 have hDf:look lp 299999=some (.ob w.heap.size 0):=by rw[cK,lN (by omega),lS]
 have fX:∀{k k':Nat},k'<300000->look (ob k++lp) k'=look lp k':=fun{k k'} h1=>by
  rw[d8];cases e:look (ob k) k' with
  | none=>rfl
  | some av=>have:=eJ e;omega
 have iS:∀k,Sub (ob k++lp) (ob k):=λk k' av h1=>by rw[d8,h1];rfl
 let I:List α->World->Prop:=λpre V=>∃D hv,(∀b o,D0 b o->D b o)/\SimG w0 U0 nt (ob pre.length++lp) a V D hv
 have lF:∀(pre:List α) (A:World) (r r':Loop),I pre A->A.heap[w.heap.size+1]?=some (.loop r)->I pre (A.putObj (w.heap.size+1) (.loop r')):=by
  rintro pre A r r' ⟨D,hv,hd,hS⟩ hr;obtain⟨h1,_⟩:=hS.putob (n:=299998) (o:=1) (o':=1) (by unfold RW;omega) (by rw[fX (by omega)];exact hL) (x:=.loop r') (λ_ _ _ e=>by cases e) (λe=>by cases e);refine⟨D,hv,hd,h1.congr λk=>?_⟩;rw[k9];split
  ·rename_i e;subst e;rw[fX (by omega)];exact hL
  ·rfl
 have fC:∀{k},k<300000->look (ob 0) k=none:=fun{k} hk=>by
  cases e:look (ob 0) k with
  | none=>rfl
  | some av=>have:=eJ e;omega
 have h0:∀r:Loop,I [] ((w.alloc (.deferred (some []))).alloc (.loop r)):=λr=>by
  have h1:=h.newob (n:=299999) (o:=0) (by unfold RW;omega) (pH (299999,[]) (by simp)).nr (x:=.deferred (some [])) (λ_ _ _ e=>by cases e) (λ_=>rfl);have sT:W6 ((299999,AV.ob w.heap.size 0)::s) 299998:=λk av hk=>by
   rw[k9]at hk;split at hk
   ·rename_i e;subst e;cases hk;exact⟨by show(0:Nat)≠299998;decide,by decide,by decide⟩
   ·exact(pH (299998,[]) (by simp)).nr k av hk
  have h2:=h1.newob (n:=299998) (o:=1) (by unfold RW;omega) sT (x:=.loop r) (λ_ _ _ e=>by cases e) (λe=>by cases e);rw[show(w.alloc (.deferred (some []))).heap.size=w.heap.size+1 by simp,<-cK]at h2;refine⟨D0,_,λ_ _ h=>h,h2.congr λk=>?_⟩;show look (ob 0++lp) k=_;rw[d8];cases e:look (ob 0) k with
  | none=>rfl
  | some av =>
   have h3:=eJ e;have h4:=oI.sub k av e;show some av=_;rw[cK,lN (by omega),lN (by omega),h4]
 have cT:(w.heap.size+1)=(w.heap.size+1):=rfl;refine b9f (b6C (gf:=gf) (lb:=lb.toArray) (by rw[e1]) oG (Ok:=λpre x=>xs[pre.length]?=some x) (hG w lb (Us w0 U0 D0) eI) (fun{A B C} h1 h2 b hb hx=>(h2 b hb hx).trans (h1 b hb hx)) (λW l o' hl b hb hx=>World.putObj_heap_other (by omega)) (λx=>by simp[kD]) I (λpre A B ⟨D,hv,hd,hS⟩ hb=>⟨D,hv,hd,hS.grow' hb⟩) lF h0
  (λx=>⟨b6M al (a7H ps ((encC x).map CV.v) a.tmps),[]⟩) (λx W K hK=>?_) (λpre x W hI hx kC=>?_) (λys W fS hI hD=>?_))
 ·rw[b4S];exact wpIn_region_lit (b4D (ro:=some (w.heap.size+1)) hasg hK)
 ·obtain⟨D,hv,hd,hS⟩:=hI;obtain⟨k,hk⟩:∃k,k=pre.length:=⟨_,rfl⟩
  rw[<-hk]at hx hS;obtain⟨V,v1,v2,v3,v4,v5,v6⟩:=hS.lend (iS k) (fK k);have iT:((kO (ob k)).all (Nat.ble 100000))=true:=by rw[gX k,all_eq_true];intro q hq;have:=Nat.le_of_ble_eq_true (all_eq_true.1 vW q hq);exact Nat.ble_eq_true_of_le (by omega)
  have sU:SlOk (λav v=>AVRep (Us W V (λ_ _=>False)) W hv (a9 (ob k)) av v) sl a.tmps:=λd av h1=>by
   have mS:d<100000:=by rw[all_eq_true]at cV;exact bL (cV d (j5 h1))
   have h2:look (ob k++lp) d=some av:=by rw[fX (by omega),cK,lN (by omega),lN (by omega)];exact dN.sub d av h1
   obtain⟨v,h3,h4⟩:=hS.slot d av h2 mS;exact⟨v,h3,h4.move v6 (λ_ h5=>h5.imp id λ⟨e,he⟩=>⟨e,iS k _ _ he.1,he.2⟩) λ_=>rfl⟩
  have mE:=sU.par (ps:=ps) (cs:=encC x) (by
   rw[all_eq_true]at gR |-;intro p hp;have:=gR p hp;rw[Bool.and_eq_true]at this;rw[hS.size];exact this.1) (λc hc=>by obtain⟨v,rfl,gA⟩:=oH x (List.mem_of_getElem? hx) c hc;exact o9 gA)
  have rK:=mE.1.asg (λv=>by unfold AVRep;simp) (al:=al) (by
   rw[all_eq_true]at fJ |-;intro p hp;have:=fJ p hp;rw[Bool.and_eq_true]at this;rw[mE.2,hS.size];exact this.1)
  have kE:(kO (c0B al (c0D ps (encC x) sl))).all (λk=>Nat.blt k 100000)=true:=by
   have fY:∀(ps:List Tmp) (cs:List CV) (sl:AS),(ps.all λp=>Nat.blt p nt&&Nat.blt p 100000)=true->(kO sl).all (λk=>Nat.blt k 100000)=true->(kO (c0D ps cs sl)).all (λk=>Nat.blt k 100000)=true:=by
    intro ps
    induction ps with
    | nil=>intro cs sl _ h;cases cs<;>exact h
    | cons p ps ih =>
     intro cs sl h1 h2;cases cs with
     | nil=>exact h2
     | cons c cs =>
      rw[all_cons,Bool.and_eq_true]at h1;have h3:=h1.1;rw[Bool.and_eq_true]at h3;refine ih cs ((p,.val c)::sl) h1.2 ?_;show((p::kO sl).all _)=true;rw[all_cons,Bool.and_eq_true];exact⟨h3.2,h2⟩
   have eA:∀(al:List (Nat×Nat)) (sl:AS),(al.all λp=>Nat.blt p.1 nt&&Nat.blt p.1 100000)=true->(kO sl).all (λk=>Nat.blt k 100000)=true->(kO (c0B al sl)).all (λk=>Nat.blt k 100000)=true:=by
    intro al
    induction al with
    | nil=>intro sl _ h;exact h
    | cons p al ih =>
     intro sl h1 h2;obtain⟨d,t⟩:=p;rw[all_cons,Bool.and_eq_true]at h1;have h3:=h1.1;rw[Bool.and_eq_true]at h3;refine ih _ h1.2 ?_;show((d::kO sl).all _)=true;rw[all_cons,Bool.and_eq_true];exact⟨h3.2,h2⟩
   exact eA _ _ fJ (fY _ _ _ gR cV)
  have hF:=v2.frame (nt:=nt) iT kE (tmps:=b6M al (a7H ps ((encC x).map CV.v) a.tmps)) (by rw[rK.2,mE.2];exact hS.size) rK.1;have hR:=cP k x hx W V v1 ⟨some (w.heap.size+1),[]⟩ _ W ⟨_,hv,hF⟩;refine wpIn_mono hR ?_;rintro e a' W' ⟨a'',rfl,s',⟨rfl,h5⟩,h6⟩;obtain⟨D',kG,h7⟩:=h5 a'' W' h6;have h8:=h7.bare (post:=ob (k+1)) (λ_ _ h=>h) (by rw[gX (k+1),<-gX k];exact iT);have jB:∀b,b<W.heap.size->¬ V.x b->W'.heap[b]?=W.heap[b]?:=λb hb hx=>h8.below.block b hb hx;have pX:∀{b kk o},kk=299998\/kk=299999->look lp kk=some (.ob b o)->¬ V.x b:=fun{b kk o} gF h9 hb=>by
   obtain⟨q,av,g1,g2,g3⟩:=(v3 b).1 hb;have hq:=eJ g1;have bJ:av.t≠7:=by
    have h3:=I2 (fK k) g1;unfold F5 at h3;unfold n4 at g2;have h4:Nat.ble 500000 q=false:=by
     cases e:Nat.ble 500000 q with
     | false=>rfl
     | true=>have:=Nat.le_of_ble_eq_true e;omega
    simp only[h4,Bool.and_eq_true,Bool.not_eq_true']at h3;intro e;rw[e]at h3;exact absurd h3.1.2 (by decide)
   have oJ:n4 kk:=by unfold n4;omega
   have hO:OX (Us w0 U0 D) W (.ob b o) (hv kk):=hS.obj kk (.ob b o) (by rw[fX (by omega)];exact h9) oJ;have hval:hv kk=.pointer (some ⟨b,0,none⟩):=(hO.2.1 rfl).1;exact hS.disj q kk av _ b (iS k _ _ g1) (by rw[fX (by omega)];exact h9) g2 oJ bJ (λe=>by cases e) (by omega) g3 (by rw[hval];rfl)
  have pI:=pX (.inl rfl) hL;have hnD:=pX (.inr rfl) hDf;have hqn:∀q∈J6 (kO (ob 0)) (kO (ob 0)) (kO (ob 0)),q.1≠0/\100000≠q.1/\100000+1000000≠q.1:=λq hq=>by rw[all_eq_true]at oZ;have:=oZ q hq;simp only[Bool.and_eq_true,Bool.not_eq_true']at this;obtain⟨g1,g2,g3⟩:=this;exact⟨(λe=>by rw[e]at g1;cases g1),(λe=>by rw[<-e]at g2;cases g2),(λe=>by rw[<-e]at g3;cases g3)⟩
  obtain⟨D2,gD,h9,_,qF⟩:=hS.back (iS k) (fK k) (cO (k+1)) (by rw[gX (k+1),gX k,all_eq_true];intro q hq;exact t8 hq) (λq hq=>by
   rw[gX (k+1),gX k]at hq;intro kk av gF nH;have fF:=pH q (by simp only[mem_cons];exact .inr (.inr hq));rw[d8]at gF;cases e:look (ob k) kk with
   | some av' =>
    exfalso;have dZ:l7 q.2 kk=true:=by
     have:∀(P1 P2 ks:List Nat),q∈J6 P1 P2 ks->q.2=P1++P2:=by
      intro P1 P2 ks
      induction ks with
      | nil=>intro h;cases h
      | cons y ys ih =>
       intro h;unfold J6 at h;split at h
       ·exact ih h
       ·rcases mem_cons.1 h with rfl | h
        ·rfl
        ·exact ih h
       ·exact ih h
       ·rcases mem_cons.1 h with rfl | h
        ·rfl
        ·exact ih h
       ·rcases mem_cons.1 h with rfl | h
        ·rfl
        ·exact ih h
       ·rcases mem_cons.1 h with rfl | h
        ·rfl
        ·exact ih h
     rw[this _ _ _ hq];refine t8 (mem_append_left _ ?_);rw[<-gX k];exact j5 e
    rw[dZ]at nH;cases nH
   | none =>
    rw[e]at gF;have gF:look lp kk=some av:=gF;rw[cK,k9]at gF;split at gF
    ·rename_i e2;injection gF with gF;obtain⟨g1,g2,g3⟩:=hqn q hq;rw[<-e2,<-gF];exact⟨λe=>g1 e.symm,g2,g3⟩
    ·rw[k9]at gF;split at gF
     ·rename_i e2;injection gF with gF;obtain⟨g1,g2,g3⟩:=hqn q hq;rw[<-e2,<-gF];exact⟨λe=>g1 e.symm,g2,g3⟩
     ·exact fF kk av gF nH) (λq v hq1 fF=>by rw[gX (k+1),<-gX k]at fF;exact fF) v3 v4 v5 v2 h8
  refine⟨jB _ (by omega) pI,jB _ (by omega) hnD,λb hb hx=>?_,D2,gD,λb o hb=>qF b o (hd b o hb),?_⟩
  ·obtain⟨o,ho⟩:=Classical.not_not.1 hx;refine jB b (by omega) λgL=>?_;obtain⟨q,av,g1,g2,g3⟩:=(v3 b).1 gL;have hq:=eJ g1;have bJ:av.t≠7/\av.t≠6:=by
    have h3:=I2 (fK k) g1;unfold F5 at h3;unfold n4 at g2;have h4:Nat.ble 500000 q=false:=by
     cases e:Nat.ble 500000 q with
     | false=>rfl
     | true=>have:=Nat.le_of_ble_eq_true e;omega
    simp only[h4,Bool.and_eq_true,Bool.not_eq_true']at h3;exact⟨(λe=>by rw[e]at h3;exact absurd h3.1.2 (by decide)),(λe=>by rw[e]at h3;exact absurd h3.1.1.2 (by decide))⟩
   obtain⟨f1,f2,f3⟩:=hS.blk q av b (iS k _ _ g1) g2 bJ.1 g3;have jF:Us w0 U0 D b o:=ho.imp id λh=>⟨h.1,hd _ _ h.2⟩
   exact a3s jF f1 (f3 o λe=>absurd e bJ.2) rfl
  ·have vX:(pre++[x]).length=k+1:=by rw[length_append,hk];rfl
   rw[vX];refine h9.sub λq av hq=>?_;rw[d8]at hq |-;cases e:look (ob (k+1)) q with
   | some av'=>rw[e]at hq;exact hq
   | none =>
    rw[e]at hq;have hq:look lp q=some av:=hq;show look (ob k++lp) q=some av;rw[d8];cases e2:look (ob k) q with
    | none=>exact hq
    | some av' =>
     exfalso;have h1:=j5 e2;rw[gX k,<-gX (k+1)]at h1;obtain⟨av2,h2⟩:∃av2,look (ob (k+1)) q=some av2:=by
      clear e;generalize ob (k+1)=L at h1
      induction L with
      | nil=>cases h1
      | cons y L ih =>
       obtain⟨q',av2⟩:=y;rw[k9];by_cases e3:q'=q
       ·exact⟨av2,if_pos e3⟩
       ·rw[if_neg e3];rcases mem_cons.1 h1 with h1 | h1
        ·exact absurd h1.symm e3
        ·exact ih h1
     rw[e]at h2;cases h2
 ·subst fS;obtain⟨D,hv,hd,hS⟩:=hI;refine⟨_,a,w.heap.size,⟨rfl,rfl⟩,⟨D,hv,by rw[cK]at hS;exact hS⟩,by show _=wdA a _;unfold wdA;rw[h.dfr],?_⟩;have:=fX (k:=ys.length) (k':=299999) (by omega);rw[hDf,cK]at this;exact this
end
section
variable{P:Program}{w0:World}{U0:UX}{nt:Nat}{s:AS}
end
end
end Go.Proofs.YteegmcfobgpemaaGreat
