/-
 SbImg SbApM ClSides ClWith SrtGen ClNmM AbKind CodeMath CodeLen CodePut CodePutMore RefSame CodeRef CodeAlive CodeReadMath CodeRead CodeUint CodeText CodeBackMath ClBy ClCode ClPut ClGet ClGet2 ClA ClB ClNmN EqMath EqWays EqConcat ClSort AbZero ClNmW AbNilF EqUni EqFns EqFac SuWalk SuSym
-/
import Derived.Test.YteegmcfobgpemaaGreatMg9
import Derived.Test.YteegmcfobgpemaaGreatMg2
import Derived.Test.YteegmcfobgpemaaGreatMg4
import Derived.Test.YteegmcfobgpemaaGreatMg3
import Derived.WalkKit
import Derived.Test.YteegmcfobgpemaaGreatChecked
import Derived.WalkLawsBesides
import Derived.WalkSpells
import Derived.Test.YteegmcfobgpemaaGreatMg1
import Derived.Laws.BitsAllLaws
import Derived.Deep.QuietTactic
import Derived.BigQuiet
import Derived.Laws.BytesArg
import Derived.Test.YteegmcfobgpemaaGreatMg8
import Derived.Test.YteegmcfobgpemaaGreatMg5
namespace Go.Proofs.YteegmcfobgpemaaGreat
open List (all_eq_true append_nil cons_append getElem?_eq_getElem length_append length_cons length_map length_nil length_take map_append map_cons mem_append mem_flatMap mem_map mem_of_getElem? nil_append take_add_one take_length)
open Go.RowKit
set_option linter.unusedVariables false
set_option linter.unusedSimpArgs false
set_option maxRecDepth 100000
section
open Go.RowKit Go.MapKept Go.Shelf
attribute [local go_sem] Oper.semAt_some
theorem b8l {P:Program} {w:World} {U:Nat->Nat->Prop} {t kt et:TypeId} {k:IntKind} {i:Int} {l:List CV} {g clock:Nat} {es:Array MapEntry} {val:Value} {c:CV} (hu:P.underlying t=some (.map kt et)) (eS:P.underlying kt=some (.int k)) (g2:w.heap[g]?=some (.map es clock)) (g3:Ents U w l es.toList) (hik:y5 k l) (e3:VRep U w c val) :
  ∃ es' clock',(Instr.mapUpdate t (.map (some g)) (.int k i) val).run P w = .ok () { w with heap:=w.heap.setIfInBounds g (.map es' clock') }/\Ents U w (a2s k i c l) es'.toList:=by
 have dL:=run_checkKey (P:=P) (w:=w) eS (k := .int k i) rfl false 9999;have dS:=Go.MapKept.run_getObj_map (P:=P) g2;obtain ⟨p1,p2'⟩:=Z5 (i:=i) c hik;rcases K7 0 g3 hik (i:=i) with ⟨f1,f2⟩ | ⟨j,e,c',f1,f2,f3,f4,f5,f6⟩
 ·have cV:=run_findKey (P:=P) (w:=w) eS f1;refine ⟨es.push { key := .int k i,val:=val,born:=clock },clock+1,?_,?_⟩
  ·have nM:=run_setObj_map (P:=P) (Obj.map (es.push { key := .int k i,val:=val,born:=clock }) (clock+1)) g2;simp [Instr.mapUpdate,run_underlying hu,dS,dL,cV,nM]
  ·rw [p1 f2,Array.toList_push];exact a1S g3 ⟨.sc (.int k i),c,rfl,rfl,rfl,e3⟩
 ·have cV:=run_findKey (P:=P) (w:=w) eS f1;rw [Nat.zero_add] at cV;have gF:j<es.size:=by have:=(List.getElem?_eq_some_iff.1 f2).1;simpa using this
  have uO:es[j]?=some e:=by rw [<-Array.getElem?_toList];exact f2
  have pO:(es.modify j fun e=>{ e with key := .int k i,val:=val }).toList=es.toList.set j { e with key := .int k i,val:=val }:=by
   rw [Array.toList_modify];apply List.ext_getElem?;intro q;rw [List.getElem?_modify,List.getElem?_set];by_cases hq:j=q
   ·subst hq;have:es[j]=e:=(Array.getElem?_eq_some_iff.1 uO).2;simp [gF,this]
   ·simp [hq]
  refine ⟨es.modify j fun e=>{ e with key := .int k i,val:=val },clock,?_,?_⟩
  ·have nM:=run_setObj_map (P:=P) (Obj.map (es.modify j fun e=>{ e with key := .int k i,val:=val }) clock) g2;have cZ:(Instr.keyThatStays (.int k i) (.int k i)).run P w = .ok (.int k i) w:=by simp [Instr.keyThatStays,Instr.sameBits]
   simp [Instr.mapUpdate,run_underlying hu,dS,dL,cV,nM,uO,f5,cZ]
  ·rw [pO,p2' j c' f3 (a0w 0 (j:=j) g3 hik f1)];exact a4q g3 ⟨.sc (.int k i),c,rfl,rfl,rfl,e3⟩
theorem a2u {F:Fence} {nF:Nat} {P:Program} (w:World) {ops:Array Oper} {rest:List Oper} {o:Oper} {a:Act} {Q:Exit->Act->World->Prop}
  (hg:o.guard=none) (m x v:Operand) (t:TypeId) (qZ:o.op=Op.mapUpdate t m x v) {mv key val:Value} (hm:a.eval m=mv) (hx:a.eval x=key) (hv:a.eval v=val) {w':World} (kY:(Instr.mapUpdate t mv key val).run P w = .ok () w')
  (hK:wpListIn F nF P ops Q rest (a.put o.dst undef) w'):wpListIn F nF P ops Q (o::rest) a w:=by
 refine wpListIn_plain hg fun K' hK'=>?_;unfold Oper.wpIn;refine ⟨by simp [Oper.about,qZ],?_⟩;rw [Oper.semAt_plain F _ _ (by rw [qZ];intro c uN;cases uN)];simp [execOp,qZ,hm,hx,hv,kY,Result.andThen];exact hK' _ _ hK
theorem b0P (ao:Option Addr) (n c:Nat) (w:World) :
  CallsIn Fence.wide 2 Tryz.prog 127 #[.slice ao n c] w fun e w'=>e = .returned (.func (.func 162) #[] #[.pointer (some ⟨w.heap.size,0,none⟩)])/\w'=w.alloc (.cells #[.slice ao n c] 99):=by
 refine callsIn_of_wp Tryz.func127 rfl trivial ?_ rfl;simp only [Tryz.ntmps127,List.size_toArray,length_cons,length_nil,Nat.reduceAdd,Nat.reduceSub,Array.replicate_succ,Array.replicate_zero,List.push_toArray,List.append_toArray,nil_append,cons_append]
 gi_wp2
 go_ret
 exact ⟨rfl,rfl⟩
theorem b2x {R:Nat->Nat->Prop} {w:World} {b:Bd} {u0 u1 u2:Value} (h:VRep R w b.cw (.agg #[u0,u1,u2])):u0 = .int .i64 b.v/\VRep R w b.t.cw (.agg #[u1,u2]):=by
 obtain ⟨xs,e,h1⟩:=E3.1 h;have eO:xs=[u0,u1,u2]:=by injection e with e;have:=congrArg Array.toList e;simpa using this.symm
 subst eO;obtain ⟨us,bs,e1,k1,us',bs',e2,k3,k4⟩:=h1;have fQ:us=[.int .i64 b.v]:=(J7.1 k1).1;have eJ:bs'=[]:=k4;subst fQ;subst eJ;subst e2;simp at e1;obtain ⟨e3,e4⟩:=e1;subst e4;exact ⟨e3,_,rfl,k3⟩
theorem a4k {R:Nat->Nat->Prop} {w:World} {t:Tm} {u1 u2:Value} (h:VRep R w t.cw (.agg #[u1,u2])):u1 = .int .i64 t.f/\∃ a m c,u2 = .slice a m c:=by
 obtain ⟨xs,e,h1⟩:=E3.1 h;have eO:xs=[u1,u2]:=by injection e with e;have:=congrArg Array.toList e;simpa using this.symm
 subst eO;obtain ⟨us,bs,e1,k1,us',bs',e2,k3,k4⟩:=h1;have fQ:us=[.int .i64 t.f]:=(J7.1 k1).1;have eJ:bs'=[]:=k4;subst fQ;subst eJ;subst e2;simp at e1;obtain ⟨e3,e4⟩:=e1;subst e4;obtain ⟨a,m,c,e5,_⟩:=M6.1 k3;simp at e5;exact ⟨e3,a,m,c,e5⟩
theorem a8C {α:Type} {P:Program} {gf:Nat} {lb:Array Value} {encs encs':α->Array Value} {Ok:List α->α->World->Prop} {Kp:World->World->Prop} {S:List α->Prop} {w:World} (he:∀ pre x V,Ok pre x V->encs x=encs' x) (h:a2z P gf lb encs Ok Kp S w):a2z P gf lb encs' Ok Kp S w:=
 fun l J W hW hJ hY h0=>h l J W hW hJ (fun pre x V hj kH=>by rw [he pre x V kH];exact hY pre x V hj kH) h0
theorem a8D {R:Nat->Nat->Prop} {w:World} {L:List Bd} {Bb ob n:Nat} {ao:Option Addr} {cap:Nat} (hn:n=L.length) (hl:L.length<=1000000000) (dN:w.cell? ⟨Bb,ob,none⟩=some (.slice ao n cap)) (pT:R Bb ob) (hv:VRep R w (.lst (L.map Bd.cv)) (.slice ao L.length cap)) :
  ∃ (v f:Nat->Int) (a:Nat->Option Addr) (m c:Nat->Nat),(∀ x b,x<n->L[n-1-x]?=some b->VRep R w b.cw (.agg #[.int .i64 (v x),.int .i64 (f x),.slice (a x) (m x) (c x)])) /\
   a2z Tryz.prog 162 #[.pointer (some ⟨Bb,ob,none⟩)] (fun x:Nat => #[.int .i64 ((n:Int)-1-x),.agg #[.int .i64 (v x),.int .i64 (f x),.slice (a x) (m x) (c x)]]) (fun pre x _=>x=pre.length/\x<n) (KpX w.heap.size fun b=>¬ ∃ o,R b o) (fun ys=>ys=List.range n) w:=by
 subst hn;obtain ⟨c0,c1,c2,hc,hG⟩:=a8H hl dN pT hv;have hx:∀ x:Nat,∃ (q:Int×Int×Option Addr×Nat×Nat),x<L.length->c0 (L.length-1-x) = .int .i64 q.1/\c1 (L.length-1-x) = .int .i64 q.2.1/\c2 (L.length-1-x) = .slice q.2.2.1 q.2.2.2.1 q.2.2.2.2:=fun x=>by
  by_cases h:x<L.length
  ·obtain ⟨bd,bP⟩:∃ bd,L[L.length-1-x]?=some bd:=⟨L[L.length-1-x]'(by omega),getElem?_eq_getElem _⟩
   obtain ⟨g0,g1⟩:=b2x (hc _ _ bP);obtain ⟨g2,a,m,c,g3⟩:=a4k g1;exact ⟨⟨bd.v,bd.t.f,a,m,c⟩,fun _=>⟨g0,g2,g3⟩⟩
  ·exact ⟨⟨0,0,none,0,0⟩,fun h2=>absurd h2 h⟩
 obtain ⟨q,hq⟩:∃ q:Nat->Int×Int×Option Addr×Nat×Nat,∀ x:Nat,x<L.length->c0 (L.length-1-x) = .int .i64 (q x).1/\c1 (L.length-1-x) = .int .i64 (q x).2.1/\c2 (L.length-1-x) = .slice (q x).2.2.1 (q x).2.2.2.1 (q x).2.2.2.2:=⟨fun x=>(hx x).choose,fun x=>(hx x).choose_spec⟩
 clear hx;refine ⟨fun x=>(q x).1,fun x=>(q x).2.1,fun x=>(q x).2.2.1,fun x=>(q x).2.2.2.1,fun x=>(q x).2.2.2.2,fun x b lB hb=>?_,a8C (fun pre x V kH=>?_) hG⟩
 ·obtain ⟨g1,g2,g3⟩:=hq x lB;have:=hc _ _ hb;rw [g1,g2,g3] at this;exact this
 ·obtain ⟨g1,g2,g3⟩:=hq x kH.2;rw [g1,g2,g3]
def ImR (w:World) (R:Nat->Nat->Prop) (b o:Nat):Prop:=(R b o/\b<w.heap.size)\/b=w.heap.size+1+1
def ImI (w wl:World) (R:Nat->Nat->Prop) (L:List Bd) (k:Nat) (W:World):Prop:=
 W.heap[w.heap.size+1]?=some (.cells #[.map (some w.heap.size)] 166 (0,0))/\(∃ es clock,W.heap[w.heap.size]?=some (.map es clock)/\Ents (ImR w R) W ((a2S L k).map imR) es.toList)/\Below w.heap.size w W/\w.heap.size+3<=W.heap.size/\KpX (w.heap.size+3) (fun b=>¬ ∃ o,ImR w R b o) wl W
theorem a4Z {w:World} {R:Nat->Nat->Prop} {b o:Nat} (h:ImR w R b o):b<w.heap.size+3/\b≠w.heap.size:=by
 rcases h with h | h
 ·have:=h.2;omega
 ·omega
theorem ImI.up {w wl:World} {R:Nat->Nat->Prop} {L:List Bd} {k:Nat} {W W':World} (h:ImI w wl R L k W) (hb:∀ b,b<w.heap.size+3->W'.heap[b]?=W.heap[b]?) (hB:Below w.heap.size W W'):ImI w wl R L k W':=by
 obtain ⟨h1,⟨es,clock,h2,h3⟩,h4,h5,h6⟩:=h;refine ⟨by rw [hb _ (by omega)];exact h1,⟨es,clock,by rw [hb _ (by omega)];exact h2,h3.keep fun b o u hu hc=>⟨hu,?_⟩⟩,h4.trans hB,Nat.le_trans h5 hB.size,fun b hb' hx=>(hb b hb').trans (h6 b hb' hx)⟩;rw [World.cell?_of_block (w:=W) (hb b (a4Z hu).1)];exact hc
theorem ImI.put {w wl:World} {R:Nat->Nat->Prop} {L:List Bd} {k:Nat} {W:World} (h:ImI w wl R L k W) {bd:Bd} (bP:L[L.length-1-k]?=some bd) (hk:k<L.length) {es:Array MapEntry} {clock:Nat} (hE:Ents (ImR w R) W (a2s .i64 bd.v bd.t.cw ((a2S L k).map imR)) es.toList):ImI w wl R L (k+1) { W with heap:=W.heap.setIfInBounds w.heap.size (.map es clock) }:=by
 obtain ⟨h1,⟨es0,clock0,h2,h3⟩,h4,h5,h6⟩:=h;obtain ⟨q1,q2⟩:=heap_set (o':=Obj.map es clock) h2;have hE:Ents (ImR w R) W ((a2S L (k+1)).map imR) es.toList:=by rw [b4k bP hk,<-a9L];exact hE
 refine ⟨by rw [q2 _ (by omega)];exact h1,⟨es,clock,q1,hE.keep fun b o u hu hc=>⟨hu,?_⟩⟩,⟨h4.os,h4.tape,h4.output,by simpa using h4.size,fun b hb=>(q2 b (by omega)).trans (h4.block b hb)⟩,by simpa using h5,fun b hb' hx=>?_⟩
 ·rw [World.cell?_of_block (w:=W) (q2 b (a4Z hu).2)];exact hc
 ·obtain ⟨o,ho⟩:=Classical.not_not.1 hx;exact (q2 b (a4Z ho).2).trans (h6 b hb' hx)
set_option maxRecDepth 100000 in
set_option maxHeartbeats 4000000 in
theorem b4s (L:List Bd) {R:Nat->Nat->Prop} {w:World} {ao:Option Addr} {n cap:Nat} (hn:n=L.length) (hv:VRep R w (.lst (L.map Bd.cv)) (.slice ao L.length cap)) (h64:64<n) (hl:n<=1000000000) :
  CallsIn Fence.wide 3 Tryz.prog 93 #[.slice ao n cap] w fun e W'=>∃ b g,e = .returned (.func (.func 128) #[] #[.pointer (some ⟨b,0,none⟩)])/\a9s b g ((a2S L L.length).map imR) (fun b o=>R b o\/w.heap.size<=b) W'/\Below w.heap.size w W':=by
 have yI:∀ w:World,Sem.run Tryz.prog (Instr.makeMap 166 (some (.int .i64 (n:Int)))) w = .ok (.map (some w.heap.size)) (w.alloc (.map #[] 0)):=fun w=>by simp [Instr.makeMap,run_underlying Tryz.underlying166,asInt,asIntOf,run_newObj_alloc]
 have HL:=hid hn;have HV:=hid hv;clear hn hv;refine callsIn_of_wp_marks Tryz.func93 rfl trivial ?_ rfl;simp only [Tryz.ntmps93,List.size_toArray,length_cons,length_nil,Nat.reduceAdd,Nat.reduceSub,Array.replicate_succ,Array.replicate_zero,List.push_toArray,List.append_toArray,nil_append,cons_append]
 gi_wp2_with (refine ⟨trivial,?_⟩;gi_at_call 127;refine (b0P _ _ _ _).mono ?_;rintro e w' ⟨rfl,rfl⟩)
 obtain ⟨w1,eI⟩:∃ w1,w1=w.alloc (.map #[] 0):=⟨_,rfl⟩
 obtain ⟨w2,mO⟩:∃ w2,w2=w1.alloc (.cells #[.map (some w.heap.size)] 166):=⟨_,rfl⟩
 obtain ⟨wl,eH⟩:∃ wl,wl=w2.alloc (.cells #[.slice ao n cap] 99):=⟨_,rfl⟩
 have s1:w1.heap.size=w.heap.size+1:=by rw [eI];simp
 have s2:w2.heap.size=w.heap.size+1+1:=by rw [mO];simp;omega
 have kC:wl.heap.size=w.heap.size+3:=by rw [eH];simp;omega
 have k1:Below w.heap.size w w1:=by rw [eI];exact bA (bW _) _
 have k2:Below w1.heap.size w1 w2:=by rw [mO];exact bA (bW _) _
 have k3:Below w2.heap.size w2 wl:=by rw [eH];exact bA (bW _) _
 have lI:Below w.heap.size w wl:=bN (bN k1 k2) k3;have fK:wl.cell? ⟨w.heap.size+1+1,0,none⟩=some (.slice ao n cap):=by
  have:wl.heap[w.heap.size+1+1]?=some (.cells #[.slice ao n cap] 99 (0,0)):=by rw [eH,<-s2];exact World.alloc_heap_new _ _
  simp [World.cell?,this]
 have qF:ImI w wl R L 0 wl:=by
  refine ⟨?_,⟨#[],0,?_,rfl⟩,lI,by omega,fun b hb hx=>rfl⟩
  ·rw [k3.block _ (by omega),mO,<-s1];exact World.alloc_heap_new _ _
  ·rw [k3.block _ (by omega),k2.block _ (by omega),eI];exact World.alloc_heap_new _ _
 have kG:VRep (ImR w R) wl (.lst (L.map Bd.cv)) (.slice ao L.length cap):=HV.out.keep fun b o u hu hc=>by have kA:=World.block_lt_of_cell? w _ hc;refine ⟨.inl ⟨hu,kA⟩,?_⟩;rw [World.cell?_of_block (w:=w) (lI.block b kA)];exact hc
 obtain ⟨zv,zf,za,zm,zc,hc,hG⟩:=a8D (R:=ImR w R) (w:=wl) (L:=L) (Bb:=w.heap.size+1+1) (ob:=0) HL.out (by have:=HL.out;omega) fK (.inr rfl) kG;rw [<-eI,<-mO,<-eH];clear eH eI mO s1 s2 k1 k2 k3 kG fK yI;refine a2j (gf:=162) (lb := #[.pointer (some ⟨w.heap.size+1+1,0,none⟩)]) rfl (enters_of Tryz.func162 (by kernel_rfl) rfl)
  hG (fun {A B C} h1 h2 b hb hx=>(h2 b hb hx).trans (h1 b hb hx)) (fun W l o o' hl h ho b hb hx=>World.putObj_heap_other (by omega)) (fun pre x W l o o' hl hx h ho=>hx) (fun x=>rfl)
  (fun pre W=>ImI w wl R L pre.length W) (fun pre A B h hb=>h.up (fun b hb'=>hb.block b (by have:=h.2.2.2.1;omega)) ⟨hb.os,hb.tape,hb.output,hb.size,fun b hb'=>hb.block b (by have:=h.2.2.2.1;omega)⟩) (fun pre A l o o' h hl h1 h2=>h.up (fun b hb'=>World.putObj_heap_other (by omega)) (L3 o' (by omega) h1 h2).1) qF
  (fun x b=>{ tmps := #[.slice ao n cap,undef,.nilFunc,.pointer (some ⟨w.heap.size+1,0,none⟩),undef,.pointer (some ⟨b,0,none⟩),.slice ao n cap,.int .i64 n,.bool (decide ((n:Int)<=64)),undef,undef,.slice ao n cap,.int .i64 n,.map (some w.heap.size),.slice ao n cap,.func (.func 162) #[] #[.pointer (some ⟨w.heap.size+1+1,0,none⟩)],.int .i64 ((n:Int)-1-x),.agg #[.int .i64 (zv x),.int .i64 (zf x),.slice (za x) (zm x) (zc x)],undef,undef,undef,undef,undef,undef],defers:=[] })
  (fun x => .cells #[.int .i64 (zv x),.int .i64 (zf x),.slice (za x) (zm x) (zc x)] 112 (0,0)) (fun V x hV b hb hx=>(bA (bW V) _).block b (by omega)) (fun pre x V hx=>hx) ?assign ?body ?done
 case assign =>
  intro l x W K hK
  gi_wp2
  exact hK
 case body =>
  rintro l pre x W b hb dY hI ⟨hx,lB⟩;obtain ⟨bd,bP⟩:∃ bd,L[n-1-x]?=some bd:=⟨L[n-1-x]'(by have:=HL.out;omega),getElem?_eq_getElem _⟩
  obtain ⟨g0,g1⟩:=b2x (hc _ _ lB bP);have hvW:VRep (ImR w R) W bd.t.cw (.agg #[.int .i64 (zf x),.slice (za x) (zm x) (zc x)]):=by
   refine g1.keep fun b o u hu vB=>⟨hu,?_⟩
   rw [World.cell?_of_block (w:=wl) (hI.2.2.2.2 b (a4Z hu).1 fun hn=>hn ⟨o,hu⟩)];exact vB
  rw [g0] at dY;rw [g0];have HI:=hid hI;obtain ⟨i1,⟨es,clock,i2,i3⟩,i4,i5,i6⟩:=hI;obtain ⟨es',clock',kY,hE⟩:=b8l (P:=Tryz.prog) (t:=166) (k := .i64) (i:=bd.v) Tryz.underlying166 Tryz.underlying3 i2 i3 (a4I _) hvW;have e0:W.cell? ⟨b,0,none⟩=some (.int .i64 bd.v):=by simp [World.cell?,dY]
  have e1:W.cell? ⟨b,1,none⟩=some (.int .i64 (zf x)):=by simp [World.cell?,dY]
  have e2:W.cell? ⟨b,2,none⟩=some (.slice (za x) (zm x) (zc x)):=by simp [World.cell?,dY]
  have em:W.cell? ⟨w.heap.size+1,0,none⟩=some (.map (some w.heap.size)):=by simp [World.cell?,i1]
  have HX:Hid (x=pre.length/\x<n):=⟨hx,lB⟩
  have HB:=hid bP;have HE:=hid hE;have H2:=hid i2;clear hx lB bP hE i1 i2 i3 i4 i6 hc hG qF g0 g1 hvW dY
  gi_wp2_with (gi_at_mapUpdate;refine a2u _ rfl _ _ _ 166 rfl rfl rfl rfl kY ?_)
  obtain ⟨hx,lB⟩:=HX.out;obtain ⟨q1,q2⟩:=heap_set (o':=Obj.map es' clock') H2.out;refine ⟨⟨by simp,fun g o tL mD ho=>by rw [q2 g (by omega)];exact mD⟩,fun b hb hx=>?_,?_⟩
  ·obtain ⟨o,ho⟩:=Classical.not_not.1 hx;exact q2 b (a4Z ho).2
  ·rw [length_append];have hB2:=HB.out;rw [HL.out,hx] at hB2;exact ImI.put HI.out hB2 (by have:=HL.out;omega) HE.out
 case done =>
  rintro D xs W hD hS hI hK
  gi_wp2
  refine ⟨by simp,.inl ⟨_,_,rfl,run_takeDeferred hK,?_⟩⟩;have eZ:=hI.up (W':=W.putObj D (.deferred none)) (fun b hb'=>World.putObj_heap_other (by omega)) (L3 _ (by omega) hK rfl).1;rw [hS,List.length_range,HL.out] at eZ;obtain ⟨j1,⟨es,clock,j2,j3⟩,j4,_,_⟩:=eZ;refine ⟨_,results_tmp rfl _ _ _,w.heap.size+1,w.heap.size,rfl,⟨by simp [World.cell?,j1],es,clock,j2,j3.keep fun b o u hu hc=>⟨?_,hc⟩⟩,j4⟩;rcases hu with h | h
  ·exact .inl h.1
  ·exact .inr (by omega)
theorem b0r {P:Program} (w:World) {ops:Array Oper} {o:Oper} {a:Act} {K:Act->World->Prop} {Q:Exit->Act->World->Prop} {E:Prop} (mP:Region.wanted o (yielded ops a.tmps)=true) (f:Nat) (x y:Operand) (ts:Array TypeId)
  (ho:o.op = .call { callee := .value (.func f),args := #[x,y],argTypes:=ts }) (eg:∀ args w,(callFunc f args).run P w = .ok (.enter f args) w) (v u:Value) (hx:a.eval x=v) (hy:a.eval y=u) {R:Ending->World->Prop} (hc:Calls P f #[v,u] w R) (h:∀ e w',R e w'->∃ u,e = .returned u/\K (a.put o.dst u) w') :
  if Region.wanted o (yielded ops a.tmps)=true then Oper.wp P o a w K Q else E:=by
 rw [if_pos mP];unfold Oper.wp;have he:(execOp a.eval o).run P w = .ok (.enter f #[v,u]) w:=by have hf:a.eval (.func f) = .func (.func f) #[] #[]:=rfl;generalize a.eval=ρ at hf hx hy |-;simp [execOp,ho,resolve,invoke,Deferred.ofValue,hf,hx,hy,eg]
 rw [he,Oper.upon_enter];refine hc.mono ?_;rintro e w' hr;obtain ⟨u,rfl,hk⟩:=h e w' hr;exact hk
theorem a8m {tmps:Array Value} {w:World} {g:Nat} {x y:Value} (hp:tmps.getD 4 undef = .pointer (some ⟨g,0,none⟩)) (hg:w.heap[g]?=some (.cells #[x,y] 41 (0,0))) :
  (results Tryz.f66 tmps).run Tryz.prog w = .ok (.agg #[x,y]) w:=by
 have oO:tmps[4]?.getD undef = .pointer (some ⟨g,0,none⟩):=by simpa using hp
 simp [results,oO,asAddr,run_loadVar_row w g _ 41 #[x,y] (0,0) _ hg Tryz.underlying41 rfl a0K]
set_option maxRecDepth 100000 in
set_option maxHeartbeats 4000000 in
theorem b0l (W:World) (L:List Bd) (t:Tm) (hl:64<L.length) (kL:L.length<=1000000000) (hb:bdsOk L) (hr:t.rng) (kH:t.ok):AFun Tryz.prog W 66 [.lst (L.map Bd.cv),t.cw] (.val (a9 (f0 L) t).cw):=by
 refine ⟨x0 Tryz.func66 rfl rfl,.inl rfl,rfl,fun U w vs _ hv=>?_⟩;obtain ⟨sv,vs1,rfl,gA,tv,vs2,rfl,gI,mH⟩:=hv;have mH:vs2=[]:=mH;subst mH;obtain ⟨ao,n,cap,e1,e2,_⟩:=l4.1 gA;subst e1;rw [length_map] at e2;obtain ⟨xs,e3,yD⟩:=E3.1 gI;obtain ⟨u1,u2,rfl⟩:∃ u1 u2,xs=[u1,u2]:=by
  have h3:xs.length=2:=(H8.2 yD).len
  match xs,h3 with
  | [u1,u2],_=>exact ⟨u1,u2,rfl⟩
 subst e3;obtain ⟨g1,ta,tm,tc,g2⟩:=a4k gI;subst g1;subst g2;have wM:VRep U w (.lst (L.map Bd.cv)) (.slice ao L.length cap):=by rw [<-e2];exact gA
 have HImg:Hid (∀ V:World,Below w.heap.size w V->w.heap.size+2<=V.heap.size->Calls Tryz.prog 93 #[.slice ao n cap] V fun e W'=>∃ b g,e = .returned (.func (.func 128) #[] #[.pointer (some ⟨b,0,none⟩)])/\a9s b g ((a2S L L.length).map imR) (fun b o=>(U b o/\b<w.heap.size)\/w.heap.size+2<=b) W'/\Below V.heap.size V W'):=fun V hV hV2 =>
  Calls.mono (callsIn_wide.1 (b4s (R:=fun b o=>U b o/\b<w.heap.size) L e2 (wM.keep fun b o u hu hc=>⟨⟨hu,World.block_lt_of_cell? w _ hc⟩,by
   rw [World.cell?_of_block (w:=w) (hV.block b (World.block_lt_of_cell? w _ hc))];exact hc⟩) (by omega) (by omega))) fun e W' ⟨b,g,k1,⟨k2,es,ck,k3,k4⟩,k5⟩=>⟨b,g,k1,⟨k2,es,ck,k3,k4.keep fun b o u hu hc=>⟨hu.imp id fun h=>by omega,hc⟩⟩,k5⟩
 have HRep:Hid (∀ (V:World) (b g:Nat),Below w.heap.size w V->w.heap.size+2<=V.heap.size->a9s b g ((a2S L L.length).map imR) (fun b o=>(U b o/\b<w.heap.size)\/w.heap.size+2<=b) V->Calls Tryz.prog 71 #[.agg #[.int .i64 t.f,.slice ta tm tc],.func (.func 128) #[] #[.pointer (some ⟨b,0,none⟩)]] V fun e W'=>∃ a m c,e = .returned (.agg #[.int .i64 (a9 (f0 L) t).f,.slice a m c])/\VRep (fun b o=>(U b o/\b<w.heap.size)\/w.heap.size+2<=b) W' (a9 (f0 L) t).cw (.agg #[.int .i64 (a9 (f0 L) t).f,.slice a m c])/\Below V.heap.size V W'):=fun V b g hV hV2 hq=>by
  have hI:∀ v,0<=v->v<=9223372036854775807->a7P Tryz.prog (a9s b g ((a2S L L.length).map imR)) (.fn 128 0 [.sc (.pointer (some ⟨b,0,none⟩))]) [.i v] (.val (f0 L v).cw)/\(f0 L v).rng/\(f0 L v).size<=90000000000:=fun v h1 h2=>by refine ⟨⟨_,_,_,rfl,?_⟩,a7l hb h1 h2⟩;have h3:=b6e b g (a2S L L.length) v h1 h2;rw [show f0 (a2S L L.length) v=f0 L v by unfold f0;rw [b3o]] at h3;exact h3
  have h4:=(a6F (a2O b g _) _ (f0 L) hI t hr kH).2.2.2 (fun b o=>(U b o/\b<w.heap.size)\/w.heap.size+2<=b) V [.agg #[.int .i64 t.f,.slice ta tm tc],.func (.func 128) #[] #[.pointer (some ⟨b,0,none⟩)]] hq ⟨_,_,rfl,gI.keep fun b o u hu hc=>⟨.inl ⟨hu,World.block_lt_of_cell? w _ hc⟩,by
   rw [World.cell?_of_block (w:=w) (hV.block b (World.block_lt_of_cell? w _ hc))];exact hc⟩,_,_,rfl,T7.2 ⟨[],[.pointer (some ⟨b,0,none⟩)],rfl,rfl,⟨[_],[],rfl,J7.2 ⟨rfl,rfl⟩,rfl⟩,fun c hc=>by simp at hc;subst hc;simp [CV.sc]⟩,rfl⟩
  refine Calls.mono h4 ?_;rintro e W' ⟨v,rfl,hR,hB⟩;have hR:VRep (fun b o=>((U b o/\b<w.heap.size)\/w.heap.size+2<=b)\/V.heap.size<=b) W' (a9 (f0 L) t).cw v:=hR;have hR:=hR.keep (V:=fun b o=>(U b o/\b<w.heap.size)\/w.heap.size+2<=b) (w':=W') fun b o u hu hc=>⟨hu.elim id fun h => .inr (by omega),hc⟩
  obtain ⟨xs,e3,yD⟩:=E3.1 hR;obtain ⟨u1,u2,rfl⟩:∃ u1 u2,xs=[u1,u2]:=by
   have h3:xs.length=2:=(H8.2 yD).len
   match xs,h3 with
   | [u1,u2],_=>exact ⟨u1,u2,rfl⟩
  subst e3;obtain ⟨g1,a,m,c,g2⟩:=a4k hR;subst g1;subst g2;exact ⟨a,m,c,rfl,hR,hB⟩
 clear gA wM gI yD hb hr kH hl kL e2;show Calls Tryz.prog 66 #[.slice ao n cap,.agg #[.int .i64 t.f,.slice ta tm tc]] w _;refine calls_of_wp Tryz.func66 rfl ?_;simp only [Tryz.ntmps66,List.size_toArray,length_cons,length_nil,Nat.reduceAdd,Nat.reduceSub,Array.replicate_succ,Array.replicate_zero,List.push_toArray,List.append_toArray,nil_append,cons_append]
 go_wp2_with fail
 obtain ⟨w2,mO⟩:∃ w2,w2=(w.alloc (.cells #[.int .i64 t.f,.slice ta tm tc] 41)).alloc (.cells #[.int .i64 0,.slice none 0 0] 41):=⟨_,rfl⟩
 have kC:w2.heap.size=w.heap.size+2:=by rw [mO];simp
 have gV:Below w.heap.size w w2:=by rw [mO];exact bA (bA (bW _) _) _
 have y1:w2.heap[w.heap.size]?=some (.cells #[.int .i64 t.f,.slice ta tm tc] 41 (0,0)):=by rw [mO,Below.heap_alloc _ _ _ (by simp)];exact World.alloc_heap_new _ _
 have y2:w2.heap[w.heap.size+1]?=some (.cells #[.int .i64 0,.slice none 0 0] 41 (0,0)):=by rw [mO,show w.heap.size+1=(w.alloc (.cells #[.int .i64 t.f,.slice ta tm tc] 41)).heap.size by simp];exact World.alloc_heap_new _ _
 have hs3:w2.drew.heap.size=w.heap.size+2:=kC;have dR:Below w.heap.size w w2.drew:=gV.drew;have HB3:=hid dR;have HY1:=hid (show w2.drew.heap[w.heap.size]?=_ from y1);have HY2:=hid (show w2.drew.heap[w.heap.size+1]?=_ from y2);obtain ⟨d1,d2⟩:=b4F (show w2.drew.heap[w.heap.size]?=_ from y1);rw [<-mO];clear mO gV dR y1 y2
 go_region_law (first
  | (refine b4z _ rfl 93 _ _ rfl (enters_of Tryz.func93 (by kernel_rfl) rfl) (.slice ao n cap) rfl (HImg.out _ HB3.out (by omega)) ?_;rintro e w5 ⟨b,g,rfl,hq5,sL⟩;refine ⟨_,rfl,?_⟩;have hB5:Below w.heap.size w w5:=HB3.out.trans (sL.mono (by omega));have hs5:=sL.size;have x2:=(sL.block _ (by omega)).trans HY2.out;obtain ⟨f1,f2⟩:=b4F ((sL.block _ (by omega)).trans HY1.out))
  | (refine b0r _ rfl 71 _ _ _ rfl (enters_of Tryz.func71 (by kernel_rfl) rfl) (.agg #[.int .i64 t.f,.slice ta tm tc]) (.func (.func 128) #[] #[.pointer (some ⟨b,0,none⟩)]) rfl rfl (HRep.out _ b g hB5 (by omega) hq5) ?_;rintro e w6 ⟨a6,m6,c6,rfl,hR6,hb6⟩;refine ⟨_,rfl,?_⟩;have hB6:Below w.heap.size w w6:=hB5.trans (hb6.mono (by omega));have z6:=(hb6.block _ (by omega)).trans x2;obtain ⟨f3,f4⟩:=b4F z6;obtain ⟨f5,f6⟩:=a2X z6))
 all_goals go_wp2_with fail
 all_goals refine bodyPost_ret (a8m (g:=w.heap.size+1) rfl (a5B z6 _ _)) rfl ?_
 all_goals refine ⟨_,rfl,?_,(hB6.setCell (p:=⟨w.heap.size+1,0,none⟩) (by show w.heap.size<=w.heap.size+1;omega) _).setCell (p:=⟨w.heap.size+1,1,none⟩) (by show w.heap.size<=w.heap.size+1;omega) _⟩
 all_goals refine VRep.keep (fun b' o u hu hc=>⟨hu.elim (fun h => .inl h.1) (fun h => .inr (by omega)),?_⟩) hR6
 all_goals have kF:b'≠w.heap.size+1:=by rcases hu with h | h<;>omega
 all_goals rw [World.cell?_of_block (w:=w6) (by rw [Below.heap_setCell _ _ _ _ kF,Below.heap_setCell _ _ _ _ kF])]
 all_goals exact hc
theorem a3d (W:World) (L:List Bd) (t:Tm) (hl:L.length<=1000000000) (hb:bdsOk L) (hr:t.rng) (kH:t.ok):AFun Tryz.prog W 66 [.lst (L.map Bd.cv),t.cw] (.val (a9 (f0 L) t).cw):=by
 by_cases h:L.length<=64
 ·exact b3j W L t h hb hr kH
 ·exact b0l W L t (by omega) hl hb hr kH
end
def F3 (c:List Lt):List Tm:=c.flatMap fun l=>[l.a,l.b]
theorem b3S (c:List Lt) (l:Lt):F3 (c++[l])=F3 c++[l.a,l.b]:=by simp [F3]
theorem a8V (c:List Lt):(F3 c).length=2*c.length:=by
 induction c with
 | nil=>rfl
 | cons l c ih =>
  have:F3 (l::c)=l.a::l.b::F3 c:=rfl;rw [this];simp only [length_cons,ih];omega
theorem b3G (c:List Lt) (k:Nat):(F3 (c.take k)).length<=2*c.length:=by
 rw [a8V,length_take];omega
theorem a3g (W:World) (c:List Lt) (hn:c.length<=1000000):AFun Tryz.prog W 47 [.lst (c.map Lt.cv)] (.val (Tm.cw ⟨0,F3 c⟩)):=by
 have kC:=Lt.size_all c;refine b9 (rs:=[Tm.cw ⟨0,F3 c⟩]) Tryz.func47 Tryz.ntmps47 rfl rfl rfl rfl ?_;intro w U hW;refine aS (aR ?_);refine nc zw ?_;refine aS (aR ?_);refine nc ze ?_;refine aS (aS (aR ?_));refine nc zl (nc zo (nc zl ?_));refine aB (l9 c.length (fun k=>[(2,.bp 2 0 []),(100002,⟨5,.row [.i 0,.lst []],1,0,[1]⟩),(3,.own (.lst ((F3 (c.take k)).map Tm.cv)) 200018),(200018,.tok 41 2),(6,.val (.lst (c.map Lt.cv))),(7,.val (.i (c.map Lt.cv).length)),(8,.val (.i k))])
  ((O0 3 200018 41 2 rfl rfl rfl rfl rfl rfl rfl).trans (a7 ⟨rfl,rfl,rfl,rfl,rfl,rfl,rfl,trivial⟩)) ?_)
 intro k hk;refine aS (aR ?_);refine nc zi ?_;refine aS (aC rfl (fun kA=>?_) (fun kA=>?_))
 ·have kE:k<c.length:=by simpa using kA
  obtain ⟨x,hx⟩:∃ x,c[k]?=some x:=⟨c[k],getElem?_eq_getElem kE⟩
  have kU:=Lt.map_at hx;have kD:=b3G c k;have jD:∀ y∈(F3 (c.take k)).map Tm.cv,y.size=2:=Tm.size_all _;have fY:((F3 (c.take k)).map Tm.cv).length<=2*c.length:=by rw [length_map];exact kD
  refine aK ?_;refine aS (aB (aS (aR ?_)));refine nc (zt (j:=k) (H:=kU) (hz:=kC)) (nc zu (nc zw (nc zx ?_)));refine aR ?_;refine nc zl (nc zg (nc zh (nc zg (nc zh (nc zy (nc zz (nc ze ?_)))))));refine aR ?_;refine nc zA (nc zl ?_);refine ⟨kE,Wk.trans (a7 (s':=[(2,.bp 2 0 []),(100002,⟨5,.row [.i 0,.lst []],1,0,[1]⟩),(3,.own (.lst ((F3 (c.take (k+1))).map Tm.cv)) 300018),(300018,.tok 41 2),(6,.val (.lst (c.map Lt.cv))),(7,.val (.i (c.map Lt.cv).length)),(8,.val (.i ((k+1:Nat):Int)))]) ⟨rfl,rfl,?_,rfl,rfl,rfl,rfl,trivial⟩) (A8 300018 200018 rfl rfl rfl rfl)⟩;rw [take_add_one,hx];simp only [Option.toList_some,b3S,map_append,map_cons,List.map_nil,Tm.cv_eq];rfl
 ·have kE:k=c.length:=by
   have:¬ k<c.length:=by simpa using kA
   omega
  subst kE;rw [take_length];refine aE ?_;refine aS (aR ?_);refine nc zl (nc zC (nc zx ?_));exact aT (And.intro (.inr rfl) rfl)
theorem b2S:∀ {c:List Lt} {k:Nat} {l:Lt},c[k]?=some l->(F3 c)[2*k]?=some l.a/\(F3 c)[2*k+1]?=some l.b
 | [],k,l,h=>by simp at h
 | x::c,0,l,h=>by
  simp at h;subst h;exact ⟨rfl,rfl⟩
 | x::c,k+1,l,h=>by
  have:=b2S (c:=c) (k:=k) (l:=l) (by simpa using h);have e:F3 (x::c)=x.a::x.b::F3 c:=rfl;rw [e,show 2*(k+1)=2*k+1+1 by omega];simpa using this
theorem a6m (W:World) (c d:List Lt) (f:Int) (hn:c.length<=1000000) (hcd:d.map Lt.neg=c.map Lt.neg):AFun Tryz.prog W 45 [.lst (c.map Lt.cv),Tm.cw ⟨f,F3 d⟩] (.val (.lst (d.map Lt.cv))):=by
 have kC:=Lt.size_all c;have wN:=Tm.size_all (F3 d);have kD:d.length=c.length:=by have:=congrArg List.length hcd;simpa using this
 refine b9 (rs:=[.lst (d.map Lt.cv)]) Tryz.func45 Tryz.ntmps45 rfl rfl rfl rfl ?_;intro w U hW;refine aS (aR ?_);refine nc zd (nc ze ?_);refine aS (aR ?_);refine nc ze ?_;refine aS (aS (aR ?_));refine nc zl (nc zo (nc zl ?_));refine aB (l9 c.length (fun k=>[(3,.bp 3 0 []),(100003,.bx (Tm.cw ⟨f,F3 d⟩)),(5,.own (.lst ((d.take k).map Lt.cv)) 200033),(200033,.tok 43 5),(8,.val (.lst (c.map Lt.cv))),(9,.val (.i (c.map Lt.cv).length)),(10,.val (.i k))])
  ((O0 5 200033 43 5 rfl rfl rfl rfl rfl rfl rfl).trans (a7 ⟨rfl,rfl,rfl,rfl,rfl,rfl,rfl,trivial⟩)) ?_)
 intro k hk;refine aS (aR ?_);refine nc zi ?_;refine aS (aC rfl (fun kA=>?_) (fun kA=>?_))
 ·have kE:k<c.length:=by simpa using kA
  obtain ⟨x,hx⟩:∃ x,c[k]?=some x:=⟨c[k],getElem?_eq_getElem kE⟩
  obtain ⟨y,hy⟩:∃ y,d[k]?=some y:=⟨d[k],getElem?_eq_getElem (by omega)⟩
  have wO:x.neg=y.neg:=by have:=congrArg (fun l=>l[k]?) hcd;simp only [List.getElem?_map,hx,hy,Option.map_some] at this;injection this with this;exact this.symm
  obtain ⟨n1,a1,b1⟩:=x;simp only at wO;subst wO;have kU:=Lt.map_at hx;obtain ⟨ha,hb⟩:=b2S hy;have vG:=Tm.map_at ha;have hb':=Tm.map_at hb;have jD:∀ z∈(d.take k).map Lt.cv,z.size=5:=Lt.size_all _;have fY:((d.take k).map Lt.cv).length<=1000000:=by rw [length_map,length_take];omega
  refine aK ?_;refine aS (aB (aS (aR ?_)));refine nc zl (nc (zt (j:=k) (H:=kU) (hz:=kC)) (nc zu (nc zw (nc ze (nc zx ?_)))));refine aD (by kernel_rfl) (by kernel_rfl) ?_;refine nc zl (nc zg (nc zh (nc zg (nc zh (nc zl (nc zbF (nc (zt (j:=(2*k)) (H:=vG) (hz:=wN)) (nc zu (nc zg (nc zh (nc zl (nc zbF (nc zA (nc (zt (j:=(2*k+1)) (H:=hb') (hz:=wN)) (nc zu (nc zC (nc zy (nc zz (nc ze ?_)))))))))))))))))));refine ⟨by kernel_rfl,?_⟩;refine aR ?_;refine nc zA (nc zl ?_);refine ⟨kE,Wk.trans (a7 (s':=[(3,.bp 3 0 []),(100003,.bx (Tm.cw ⟨f,F3 d⟩)),(5,.own (.lst ((d.take (k+1)).map Lt.cv)) 300033),(300033,.tok 43 5),(8,.val (.lst (c.map Lt.cv))),(9,.val (.i (c.map Lt.cv).length)),(10,.val (.i ((k+1:Nat):Int)))]) ⟨rfl,rfl,?_,rfl,rfl,rfl,rfl,trivial⟩) (A8 300033 200033 rfl rfl rfl rfl)⟩;rw [take_add_one,hy];simp only [Option.toList_some,map_append,map_cons,List.map_nil];rfl
 ·have kE:k=d.length:=by
   have:¬ k<c.length:=by simpa using kA
   omega
  subst kE;rw [take_length];refine aE ?_;refine aS (aR ?_);refine nc zl (nc ze ?_);exact aT (And.intro (.inr rfl) rfl)
def Lt.rep (img:Int->Tm) (l:Lt):Lt:=⟨l.neg,a9 img l.a,a9 img l.b⟩
theorem a9a (img:Int->Tm):∀ c:List Lt,(F3 c).map (a9 img)=F3 (c.map (Lt.rep img))
 | []=>rfl
 | l::c=>by
  show a9 img l.a::a9 img l.b::(F3 c).map (a9 img)=_;rw [a9a img c];rfl
theorem a5N (img:Int->Tm) (c:List Lt):a9 img ⟨0,F3 c⟩=⟨0,F3 (c.map (Lt.rep img))⟩:=by
 rw [j5 (show ¬ (0:Int)<0 by decide),a9a]
theorem b2u (img:Int->Tm) (c:List Lt):(c.map (Lt.rep img)).map Lt.neg=c.map Lt.neg:=by
 rw [List.map_map];rfl
theorem a3T (W:World) (L:List Bd) (c:List Lt) (hn:c.length<=1000000) (hl:L.length<=1000000000) (hb:bdsOk L) (hr:(⟨0,F3 c⟩:Tm).rng) (kH:(⟨0,F3 c⟩:Tm).ok):AFun Tryz.prog W 67 [.lst (L.map Bd.cv),.lst (c.map Lt.cv)] (.val (.lst ((c.map (Lt.rep (f0 L))).map Lt.cv))):=by
 have h2:=fun w=>a3d w L ⟨0,F3 c⟩ hl hb hr kH;rw [a5N] at h2;refine b9 (rs:=[.lst ((c.map (Lt.rep (f0 L))).map Lt.cv)]) Tryz.func67 Tryz.ntmps67 rfl rfl rfl rfl ?_;intro w U hW;refine aS (aR ?_);refine nc ze ?_;refine aS (aR ?_);refine nc zl (nc zl (nc zl (nc (zk (z:=a3g w c hn)) (nc (zk (z:=h2 w)) (nc (zk (z:=a6m w c _ 0 hn (b2u _ c))) (nc ze ?_))))));exact aT (And.intro (.inr rfl) rfl)
theorem a8n (W:World) (c:List Lt) (by_:Int) (hn:c.length<=1000000) (hr:(⟨0,F3 c⟩:Tm).rng) (kH:(⟨0,F3 c⟩:Tm).ok):AFun Tryz.prog W 18 [.lst (c.map Lt.cv),.i by_] (.val (.lst ((c.map (Lt.rep fun v=>r5 (upV (max by_ 0) v))).map Lt.cv))):=by
 have h2:=fun w=>b0R w ⟨0,F3 c⟩ by_ hr kH;rw [a5N] at h2;refine b9 (rs:=[.lst ((c.map (Lt.rep fun v=>r5 (upV (max by_ 0) v))).map Lt.cv)]) Tryz.func18 Tryz.ntmps18 rfl rfl rfl rfl ?_;intro w U hW;refine aS (aR ?_);refine nc ze ?_;refine aS (aR ?_);refine nc zl (nc zl (nc (zk (z:=a3g w c hn)) (nc zl (nc (zk (z:=h2 w)) (nc (zk (z:=a6m w c _ 0 hn (b2u _ c))) (nc ze ?_))))));exact aT (And.intro (.inr rfl) rfl)
section
section
variable {α β:Type}
end
open Classical in
section
variable {P:Program} {w0:World} {U0:UX} {nt:Nat} {ops:Array Oper} {o:Oper} {S:Nat->Option AV} {gs:List Nat} {d:Nat}
variable (hg:Gd w0 U0 nt ops o gs S) (hd:o.dst=some d) (hn:Nat.blt d nt=true) (h5:Nat.blt d 100000=true)
include hg hd hn h5
end
end
def b2B (size:Int) (l:Lt):Bool:=decide (0<=p6 l.a size 8)&&decide (0<=p6 l.b size 8)
def U5 (c:List Lt) (most:Nat) (size:Int):Bool:=decide (c.length<=most)&&c.all (b2B size)
set_option maxHeartbeats 1000000 in
theorem a3V (W:World) (c:List Lt) (most:Nat) (size:Int) (hm:most<=1000) (h0:0<=size) (h1:size<=60) (hr:okC c):AFun Tryz.prog W 8 [.lst (c.map Lt.cv),.i (most:Int),.i size] (.val (.b (U5 c most size))):=by
 have kC:=Lt.size_all c;refine b9 (rs:=[.b (U5 c most size)]) Tryz.func8 Tryz.ntmps8 rfl rfl rfl rfl ?_;intro w U hW;refine aS (aR ?_);refine nc ze ?_;refine aS (aS (aR ?_));refine nc zl (nc zo (nc zl (nc zN ?_)));refine aC rfl (fun hc=>?_) (fun hc=>?_)
 ·have kZ:U5 c most size=false:=by have:=of_decide_eq_true hc;rw [length_map] at this;unfold U5;rw [show decide (c.length<=most)=false by rw [decide_eq_false_iff_not];omega];rfl
  rw [kZ];refine aS (aR ?_);refine nc ze ?_;exact aT (And.intro (.inr rfl) rfl)
 have hl:c.length<=most:=by have:=of_decide_eq_false hc;rw [length_map] at this;omega
 refine aK ?_;refine aS (aS (aR ?_));refine nc ze ?_;refine aB (B7 c.length (fun k=>∀ l∈c.take k,b2B size l=true) (fun k=>[(0,.val (.lst (c.map Lt.cv))),(2,.val (.i size)),(7,.val (.i k))]) (a7 ⟨rfl,rfl,rfl,trivial⟩) (by simp) ?_);intro k hk hI;refine aS (aS (aR ?_));refine nc zl (nc zl (nc zo (nc zi ?_)));refine aC rfl (fun kA=>?_) (fun kA=>?_)
 ·have kE:k<c.length:=by simpa using kA
  obtain ⟨x,hx⟩:∃ x,c[k]?=some x:=⟨c[k],getElem?_eq_getElem kE⟩
  have kU:=Lt.map_at hx;have dG:=mem_of_getElem? hx;have sa:=a5x w x.a size 8 (hr x dG).1 h0 h1 (by decide) (by decide);have sb:=a5x w x.b size 8 (hr x dG).2 h0 h1 (by decide) (by decide);have kZ:b2B size x=false->U5 c most size=false:=fun h=>by unfold U5;rw [show c.all (b2B size)=false from List.all_eq_false.2 ⟨x,dG,by rw [h];simp⟩,Bool.and_false]
  refine aK ?_;by_cases ha:p6 x.a size 8<0
  ·have ga:decide (p6 x.a size 8<0)=true:=by simpa using ha
   rw [kZ (by unfold b2B;rw [show decide (0<=p6 x.a size 8)=false by rw [decide_eq_false_iff_not];omega];rfl)];refine aS (aB (aS (aR ?_)));refine nc zl (nc zl (nc (zt (j:=k) (H:=kU) (hz:=kC)) (nc zbG (nc zu (nc zl (nc (zk (z:=sa)) (nc zi (nc zl (nc zq (nc zq (nc zq (nc zq (nc zq (nc zq (nc zq (nc zq (nc zp ?_)))))))))))))))));refine aC rfl (fun gW=>?_) (fun gW=>by cases gW);refine aS (aR ?_);refine nc ze ?_;exact aT (And.intro (.inr rfl) rfl)
  ·have ga:decide (p6 x.a size 8<0)=false:=by simpa using ha
   refine aS (aB (aS (aR ?_)));refine nc zl (nc zl (nc (zt (j:=k) (H:=kU) (hz:=kC)) (nc zbG (nc zu (nc zl (nc (zk (z:=sa)) (nc zi (nc zl (nc (zl (p:=gb)) (nc (zl (p:=gb)) (nc (zt (j:=k) (r:=gb) (H:=kU) (hz:=kC)) (nc (zbG (r:=gb)) (nc (zu (r:=gb)) (nc (zl (p:=gb)) (nc (zk (p:=gb) (z:=sb)) (nc (zi (r:=gb)) (nc zr ?_)))))))))))))))));refine aC rfl (fun gW=>?_) (fun gW=>?_)
   ·have hb:=of_decide_eq_true gW;rw [kZ (by unfold b2B;rw [show decide (0<=p6 x.b size 8)=false by rw [decide_eq_false_iff_not];omega];simp)];refine aS (aR ?_);refine nc ze ?_;exact aT (And.intro (.inr rfl) rfl)
   ·have hb:=of_decide_eq_false gW;refine aK ?_;refine aR ?_;refine nc zl (nc zA (nc ze ?_));refine ⟨kE,?_,a7 ⟨rfl,rfl,rfl,trivial⟩⟩;intro y hy;rw [take_add_one,hx,mem_append] at hy;rcases hy with hy | hy
    ·exact hI y hy
    ·simp at hy;rw [hy];unfold b2B;rw [show decide (0<=p6 x.a size 8)=true by rw [decide_eq_true_eq];omega,show decide (0<=p6 x.b size 8)=true by rw [decide_eq_true_eq];omega];rfl
 ·have kE:k=c.length:=by
   have:¬ k<c.length:=by simpa using kA
   omega
  subst kE;rw [take_length] at hI;have pY:U5 c most size=true:=by unfold U5;rw [show decide (c.length<=most)=true by simpa using hl,Bool.true_and];exact all_eq_true.2 hI
  rw [pY];refine aE ?_;refine aS (aR ?_);refine nc ze ?_;exact aT (And.intro (.inr rfl) rfl)
theorem W5 {c:List Lt} {most:Nat} {size:Int} (h0:0<=size) (h1:size<=60) (h:U5 c most size=true):c.length<=most/\∀ l∈c,((l.a.sm/\l.a.rng/\l.a.ok)/\(l.a.wt:Int)<=size/\(l.a.size:Int)<=size)/\((l.b.sm/\l.b.rng/\l.b.ok)/\(l.b.wt:Int)<=size/\(l.b.size:Int)<=size):=by
 unfold U5 at h;rw [Bool.and_eq_true,decide_eq_true_eq] at h;refine ⟨h.1,fun l hl=>?_⟩;have hf:=all_eq_true.1 h.2 l hl;unfold b2B at hf;rw [Bool.and_eq_true,decide_eq_true_eq,decide_eq_true_eq] at hf;have key:∀ t:Tm,0<=p6 t size 8->(t.sm/\t.rng/\t.ok)/\(t.wt:Int)<=size/\(t.size:Int)<=size:=fun t ht=>by
  have rL:=b6m t _ _ ht;have hwt:(t.wt:Int)<=size:=by have:=(a0E t size 8 h0).2.2 ht;omega
  have:=t.size_wt;exact ⟨⟨rL,Tm.sm_rng rL,Tm.wt_ok (t:=t) (by omega)⟩,hwt,by omega⟩
 exact ⟨key _ hf.1,key _ hf.2⟩
set_option maxHeartbeats 1000000 in
theorem b3y (W:World) (c:List Lt) (hl:c.length<=1000000) (hc:∀ l∈c,l.a.ok/\l.b.ok):AFun Tryz.prog W 9 [.lst (c.map Lt.cv)] (.val (.lst ((c.map id).map Lt.cv))):=by
 have kC:=Lt.size_all c;refine b9 (rs:=[.lst ((c.map id).map Lt.cv)]) Tryz.func9 Tryz.ntmps9 rfl rfl rfl rfl ?_;intro w U hW;refine aS (aR ?_);refine nc ze ?_;refine aS (aR ?_);refine nc ze ?_;refine aS (aS (aR ?_));refine nc ze ?_;refine aB (l9 c.length (fun k=>[(0,.val (.lst (c.map Lt.cv))),(3,.own (.lst (((c.take k).map id).map Lt.cv)) 200031),(200031,.tok 43 5),(4,.val (.i k))]) ((O0 3 200031 43 5 rfl rfl rfl rfl rfl rfl rfl).trans (a7 ⟨rfl,rfl,rfl,rfl,trivial⟩)) ?_);intro k hk;have jE:=Lt.size_all ((c.take k).map id);refine aS (aS (aR ?_));refine nc zl (nc zl (nc zo (nc zi ?_)));refine aC rfl (fun kA=>?_) (fun kA=>?_)
 ·have kE:k<c.length:=by simpa using kA
  obtain ⟨x,hx⟩:∃ x,c[k]?=some x:=⟨c[k],getElem?_eq_getElem kE⟩
  have kU:=Lt.map_at hx;have dG:=mem_of_getElem? hx;have nZ:(((c.take k).map id).map Lt.cv).length<=1000000:=by rw [length_map,length_map,length_take];omega
  refine aK ?_;refine aS (aB (aD (by kernel_rfl) (by kernel_rfl) ?_));refine nc zl (nc zl (nc zl (nc (zt (j:=k) (H:=kU) (hz:=kC)) (nc zbG (nc zu (nc zl (nc zl (nc (zt (j:=k) (H:=kU) (hz:=kC)) (nc zbG (nc zu (nc (zk (z:=b7s w x.a (hc x dG).1)) (nc zl (nc zl (nc (zt (j:=k) (H:=kU) (hz:=kC)) (nc zbG (nc zu (nc (zk (z:=b7s w x.b (hc x dG).2)) (nc zC (nc zy (nc zz (nc ze ?_)))))))))))))))))))));refine ⟨by kernel_rfl,?_⟩;refine aR ?_;refine nc zl (nc zA (nc ze ?_));refine ⟨kE,Wk.trans (a7 (s':=[(0,.val (.lst (c.map Lt.cv))),(3,.own (.lst (((c.take (k+1)).map id).map Lt.cv)) 300031),(300031,.tok 43 5),(4,.val (.i ((k+1:Nat):Int)))]) ⟨rfl,?_,rfl,rfl,trivial⟩) (A8 300031 200031 rfl rfl rfl rfl)⟩;rw [take_add_one,hx,map_append,map_append];rfl
 ·have kE:k=c.length:=by
   have:¬ k<c.length:=by simpa using kA
   omega
  subst kE;rw [take_length];refine aE ?_;refine aS (aR ?_);refine nc zl (nc ze ?_);exact aT (And.intro (.inr rfl) rfl)
theorem a9J (W:World) (c:List Lt) (hl:c.length<=1000000) (hc:∀ l∈c,l.a.ok/\l.b.ok):AFun Tryz.prog W 9 [.lst (c.map Lt.cv)] (.val (.lst (c.map Lt.cv))):=by
 have:=b3y W c hl hc;rw [List.map_id] at this;exact this
theorem ToldU.uniq {l:List (Tm×Tm)} {r1 r2:List Bd×Bool} (h1:ToldU l r1) (h2:ToldU l r2):r1=r2:=by
 rcases h1 with ⟨a1,a2,a3⟩ | ⟨a1,s,a2,a3,a4,a5⟩
 ·rw [h2.no a3];cases r1;simp only at a1 a2;rw [a1,a2]
 ·have h:=(h2.yes a2 a3).1;cases r1;simp only at a1 a5;rw [h,a1,a5]
noncomputable def mgT (a b:Tm):List Bd×Bool:=open Classical in if h:∃ r,Tells8 [(a,b)] r then Classical.choose h else ([],false)
def Tm.ten (t:Tm):Prop:=(t.rng/\t.ok)/\t.size<=10
def Lt.ten (l:Lt):Prop:=l.a.ten/\l.b.ten
theorem a9k {a b:Tm} (ha:a.ten) (hb:b.ten):a5o [(a,b)]:=fun p hp=>by
 rw [List.mem_singleton] at hp;subst hp;exact ⟨⟨ha.1,Nat.le_trans ha.2 (by omega)⟩,hb.1,Nat.le_trans hb.2 (by omega)⟩
theorem b9N {a b:Tm} {r:List Bd×Bool} (h:Tells8 [(a,b)] r):mgT a b=r:=by
 have he:∃ r,Tells8 [(a,b)] r:=⟨r,h⟩
 unfold mgT;rw [dif_pos he];exact (Classical.choose_spec he).told.uniq h.told
theorem b2N {a b:Tm} (ha:a.ten) (hb:b.ten):Tells8 [(a,b)] (mgT a b):=by
 obtain ⟨n,r,_,_,_,h⟩:=b2g (l:=[(a,b)]) (by simp) (a9k ha hb);rw [b9N h];exact h
theorem b6p (l:List (Tm×Tm)) (hl:l.length<=2) (ht:a5o l):∃ r:Option (List Bd),(r=none->∀ τ,¬ uni τ l)/\∀ s,r=some s->Mgu (f0 s) l/\L7 s/\Orig (K0 l) (f0 s):=by
 have hV:∀ v∈H4 l,0<=v:=fun v hv=>by obtain ⟨p,_,hv⟩:=mem_flatMap.1 hv;rcases mem_append.1 hv with hv | hv<;>exact p9 _ v hv
 have kJ:∀ p∈l,(∀ u∈p.1.vs,u∈H4 l)/\∀ u∈p.2.vs,u∈H4 l:=fun p hp=>⟨fun u hu=>mem_flatMap.2 ⟨p,hp,List.mem_append_left _ hu⟩,fun u hu=>mem_flatMap.2 ⟨p,hp,List.mem_append_right _ hu⟩⟩
 have h0:Mgu (f0 []) []:=Mgu.nil;obtain ⟨n,r,e,g1,g2⟩:=a1L hV l [] [] h0 (fun b hb=>by cases hb) (fun b hb=>by cases hb) kJ;rw [nil_append] at g1 g2;have hE:arA (K0 l)<=60:=by
  have:=a7g l fun p hp=>⟨(ht p hp).1.2,(ht p hp).2.2⟩
  omega
 have dA:=a1G l ht;have oH:a7t (H4 l) (K0 l) 64 [] ([]++[]):=⟨h0,(fun b hb=>by cases hb),(fun b hb=>by cases hb),(fun v hv hf=>by exfalso;apply hf;show (r5 v).f<0;rw [s6];omega),by
  have:frN (H4 l) []<=(H4 l).length:=a9h _;show 0+_<=64;omega,fun b hb=>by cases hb⟩
 obtain ⟨c1,c2⟩:=a3C (V:=H4 l) (S:=K0 l) (K:=64) (E:=[]) hV (b7g hV (Y3 l) (by decide) hE n) l [] [] oH (fun b hb=>by cases hb) fun p hp=>by obtain ⟨s1,s2⟩:=a8P hp;exact ⟨fun s1' F1 h1=>⟨⟨(kJ p hp).1,p.1,s1,rfl⟩,⟨(kJ p hp).2,p.2,s2,rfl⟩⟩,(ht p hp).1.1,(ht p hp).2.1⟩
 refine ⟨r,g1,fun s hs=>?_⟩;obtain ⟨k1,k2,k3⟩:=g2 s hs;rw [hs] at e;exact ⟨k1,k2,(c2 s e).1.orig⟩
theorem c0Q {s E:Nat} (hE:E<=18) (h:Big E s):s<=2955:=by
 have h:=h.up hE;unfold Big at h;have e1:(2:Nat) ^ 18=262144:=by decide
 have e2:(3:Nat) ^ 18=387420489:=by decide
 rw [e1,e2] at h;omega
theorem c1a {a b:Tm} (ha:a.ten) (hb:b.ten) {v:Int} (hv:0<=v):(f0 (mgT a b).1 v).size<=2955:=by
 have hT:=b2N ha hb;have wP:∀ u:Tm,u.f<0->u.size<=2955:=fun u hu=>by rw [Tm.size_var hu];omega
 cases h2:(mgT a b).2 with
 | false =>
  rw [(hT.no h2).1];exact wP _ (by show (r5 v).f<0;rw [s6];omega)
 | true =>
  have hm:=hT.yes h2;obtain ⟨r,g1,g2⟩:=b6p [(a,b)] (by simp) (a9k ha hb);cases r with
  | none=>exact absurd hm.uni (g1 rfl _)
  | some s =>
   obtain ⟨k1,k2,k3⟩:=g2 s rfl;rw [k1.one hm hv];by_cases hf:(f0 s v).f<0
   ·exact wP _ hf
   ·obtain ⟨q,hq,_,e⟩:=k3 v hv hf;rw [<-e];refine c0Q ?_ (a1l (Y3 _) k3 (fun v _=>N0 k2 v) ⟨q,hq,rfl⟩);have e1:K0 [(a,b)]=(a.flat++b.flat)++[]:=rfl;have e2:=a1g a;have e3:=a1g b;have e4:=ha.2;have e5:=hb.2;rw [e1,append_nil,a2T];omega
theorem b9m {σ:Int->Tm} {M:Nat} (hM:1<=M) (h:∀ v,0<=v->(σ v).size<=M) (t:Tm):(a9 σ t).size<=M*t.size:=by
 induction t using Tm.indp with
 | h t ih =>
  by_cases hf:t.f<0
  ·rw [l6 hf,Tm.strip_size,Tm.size_var hf,Nat.mul_one];exact h _ (by omega)
  ·have e1:(a9 σ t).size=1+((t.l.map (a9 σ)).map Tm.size).sum:=by rw [j5 hf];exact Tm.size_sym (t:=⟨t.f,t.l.map (a9 σ)⟩) hf
   have e2:t.size=1+(t.l.map Tm.size).sum:=Tm.size_sym hf;have gZ:t.ps=t.l:=Tm.ps_of_sym (by omega);rw [gZ] at ih;have:∀ L:List Tm,(∀ s∈L,(a9 σ s).size<=M*s.size)->((L.map (a9 σ)).map Tm.size).sum<=M*(L.map Tm.size).sum:=fun L=>by
    induction L with
    | nil=>intro _;simp
    | cons x L ihL =>
     intro g;rw [map_cons,map_cons,map_cons,List.sum_cons,List.sum_cons,Nat.mul_add];have a1:=g x (by simp);have a2:=ihL fun s hs=>g s (List.mem_cons_of_mem _ hs);omega
   have h3:=this t.l ih;rw [e1,e2,Nat.mul_add,Nat.mul_one];omega
noncomputable def mgS (a b:Tm):Int->Tm:=f0 (mgT a b).1
def a1y (c:List Lt) (n:Nat):List Lt:=c.take n++c.drop (n+1)
theorem a4p {c:List Lt} {n:Nat} {l:Lt} (h:l∈a1y c n):l∈c:=by
 rcases mem_append.1 h with h | h
 ·exact List.mem_of_mem_take h
 ·exact List.mem_of_mem_drop h
theorem J1 {c:List Lt} {n:Nat} (h:n<c.length):(a1y c n).length+1=c.length:=by
 unfold a1y;rw [length_append,length_take,List.length_drop];omega
noncomputable def U6 (a b:Tm):Bool:=decide (kb a b=1\/kb a b=2)
section
open Go.RowKit Go.MapKept Go.Shelf
attribute [local go_sem] Oper.semAt_some
end
theorem a9I:(Tryz.prog.info? 43).map (fun i=>(i.zero,i.size,i.bytes))=some (some (.agg #[.bool false,.int .i64 0,.slice none 0 0,.int .i64 0,.slice none 0 0]),5,72):=by kernel_rfl
set_option maxRecDepth 100000 in
set_option maxHeartbeats 400000 in
theorem b3D (n:Nat) (hn:n<=2199023255552) (w:World) :
  Calls Tryz.prog 132 #[.slice none 0 0,.int .i64 (n:Int)] w fun e w'=>∃ v,e = .returned v/\w'.ownsRow w.heap.size 43 5 v 0 []/\Below w.heap.size w w':=by
 obtain ⟨i,bR,cL,cM,eW⟩:=info_parts a9I;rcases Nat.eq_zero_or_pos n with rfl | h0
 ·go_enter Tryz.func132,Tryz.ntmps132
  go_wp2
  go_ret
  exact ⟨_,rfl,World.ownsRow_nil _ _ _ _,bW _⟩
 ·have hr:=Lib.run_append_nil_zeros (P:=Tryz.prog) w 26 3 26 43 i (.agg #[.bool false,.int .i64 0,.slice none 0 0,.int .i64 0,.slice none 0 0]) .i64 .i64 Tryz.underlying26 Tryz.underlying3 bR cL n h0 (by rw [cM];omega) (by omega) (by rw [eW];omega)
  go_enter Tryz.func132,Tryz.ntmps132
  go_wp2_with (at_builtin;refine Lib.wpList_append_run _ rfl _ _ _ _ rfl _ _ rfl rfl _ _ hr ?_)
  go_wp2
  go_ret
  refine ⟨_,rfl,World.ownsRow_made w.drew _ _ (Nat.le_refl _) (grownCap_le_maxLen _ _ _ _ (by unfold maxLen;omega)) ?_,(Below.refl _ _).drew.alloc (Nat.le_refl _) _⟩;have:=grownCap_ge w n 0 43;simp [size_zeroCells]
  try omega
set_option maxRecDepth 100000 in
set_option maxHeartbeats 800000 in
theorem a8g (a:Option Addr) (m c:Nat) (A:Nat->Option Addr) (L C:Nat->Nat) (R:Nat->List Value) (w:World) (hr:Rw 5 w a m A L C R) (hm:m<=1000) (hs:a3N L m<=1099511627776) :
  Calls Tryz.prog 95 #[.slice a m c] w fun e w'=>∃ v,e = .returned v/\w'.ownsRow w.heap.size 43 5 v (a3N L m) (a2t R m)/\Below w.heap.size w w':=by
 obtain ⟨J,hJ⟩:∃ J:Nat->List Value,J=a2t R:=⟨_,rfl⟩
 obtain ⟨N,hN⟩:∃ N:Nat->Nat,N=a3N L:=⟨_,rfl⟩
 have HS:Hid (∀ k,J (k+1)=J k++R k):=fun k=>by rw [hJ];rfl
 have HSN:Hid (∀ k,N (k+1)=N k+L k):=fun k=>by rw [hN];rfl
 have HJ0:Hid (J 0=[]/\N 0=0):=by rw [hJ,hN];exact ⟨rfl,rfl⟩
 have HL:Hid (∀ k,k<=m->N k<=1099511627776):=fun k hk=>by rw [hN];exact Nat.le_trans (b1U L hk) hs
 have HR:Hid (∀ B w',Below B w w'->w.heap.size<=B->Rw 5 w' a m A L C R):=fun B w' hb hB=>hr.below hb hB;have HR0:Hid (Rw 5 w a m A L C R):=hr;rw [<-hJ,<-hN];clear hJ hs hr hN
 go_enter Tryz.func95,Tryz.ntmps95
 go_wp2
 go_loop [3,11] (fun s i=>∃ k x:Nat,i = .int .i64 (k:Int)/\k<=m/\s = .int .i64 (x:Int)/\x=N k) (fun s i=>m-(intOf i).toNat)
 case atStart=>exact ⟨0,0,rfl,by omega,rfl,by rw [HJ0.out.2]⟩
 case round =>
  obtain ⟨k,x,rfl,hk,rfl,hx⟩:=hrel;have HX:Hid (x=N k):=hx;have fN:x<=1099511627776:=by rw [hx];exact HL.out k hk
  clear hx;by_cases kA:k<m
  ·rcases HR0.out.2 with h0 | ⟨b,off,rfl,hb,hc⟩
   ·omega
   have dL:=hc k kA;have HXX:Hid (x+L k=N (k+1)):=by show x+L k=_;rw [HSN.out k,<-HX.out]
   have iU:x+L k<=1099511627776:=by rw [HXX.out];exact HL.out (k+1) kA
   obtain ⟨Lk,eP⟩:∃ y,L k=y:=⟨_,rfl⟩
   obtain ⟨Ak,jC⟩:∃ y,A k=y:=⟨_,rfl⟩
   obtain ⟨Ck,lK⟩:∃ y,C k=y:=⟨_,rfl⟩
   rw [eP] at HXX iU;rw [eP,jC,lK] at dL;clear eP jC lK hc
   go_wp2
   refine ⟨⟨k+1,x+Lk,by go_num,by omega,by go_num,HXX.out⟩,?_⟩;simp [intOf];omega
  ·obtain rfl:k=m:=by omega
   go_wp2_with fail
   refine (b3D x (by omega) w).mono ?_;rintro e w1 ⟨v1,rfl,jU,kV⟩
   go_wp2
   go_loopw [6,27] (fun u i wr=>∃ j:Nat,i = .int .i64 (j:Int)/\j<=k/\wr.ownsRow w.heap.size 43 5 u (N j) (J j)/\Below w.heap.size w wr) (fun _ i _=>k-(intOf i).toNat)
   case atStart=>exact ⟨0,rfl,by omega,by rw [HJ0.out.1,HJ0.out.2];exact jU,kV⟩
   case round =>
    obtain ⟨j,rfl,hj,pJ,nB⟩:=hrel;by_cases kA:j<k
    ·obtain ⟨bJ,eJ,oP,dM⟩:=(HR.out _ _ nB (Nat.le_refl _)).1 j kA;rcases (HR.out _ _ nB (Nat.le_refl _)).2 with h0 | ⟨b,off,rfl,hb,hc⟩
     ·omega
     have dL:=hc j kA;have yZ:N j+L j<=1099511627776:=by have:=HL.out (j+1) kA;rw [HSN.out j] at this;exact this
     have HSj':Hid (J (j+1)=J j++R j/\N (j+1)=N j+L j):=⟨HS.out j,HSN.out j⟩
     obtain ⟨Lk,eP⟩:∃ y,L j=y:=⟨_,rfl⟩
     obtain ⟨Ak,jC⟩:∃ y,A j=y:=⟨_,rfl⟩
     obtain ⟨Ck,lK⟩:∃ y,C j=y:=⟨_,rfl⟩
     obtain ⟨Rk,iG⟩:∃ y,R j=y:=⟨_,rfl⟩
     obtain ⟨Jk,rK⟩:∃ y,J j=y:=⟨_,rfl⟩
     obtain ⟨Nk,pK⟩:∃ y,N j=y:=⟨_,rfl⟩
     rw [jC,iG] at eJ;rw [iG] at dM;rw [eP,iG] at oP;rw [eP,jC,lK] at dL;rw [eP,jC,lK] at bJ;rw [rK,iG,pK,eP] at HSj';rw [rK,pK] at pJ;rw [pK,eP] at yZ;have kC:=nB.size;have HRl:=hid oP;clear eP jC lK iG rK pK hc oP
     go_wp2_with (at_builtin;refine J0 _ rfl _ _ 26 rfl w.heap.size 43 (.agg #[.bool false,.int .i64 0,.slice none 0 0,.int .i64 0,.slice none 0 0]) 5 72 Tryz.underlying26 a9I rfl (by decide) _ Nk Jk rfl pJ Ak Lk Ck Rk rfl bJ eJ HRl.out dM ?d1 ?d2 kC ?_)
     case d1=>unfold maxLen;omega
     case d2=>omega
     intro v2 w2 iT mD;have gV:=nB.trans (a2p pJ mD kC);clear mD
     go_wp2
     go_roundw
     case rel=>exact ⟨j+1,by go_num,kA,by rw [HSj'.out.1,HSj'.out.2];exact iT,gV⟩
     case measure=>simp [intOf];omega
    ·obtain rfl:j=k:=by omega
     go_wp2
     go_ret
     exact ⟨_,rfl,pJ,nB⟩
theorem a9o {U:Nat->Nat->Prop} {w:World}:∀ {l:List (List Lt)} {ys:List Value},Sq ((l.map fun x=>CV.lst (x.map Lt.cv)).map fun c=>Rep U w c) ys ->
  ∃ (A:Nat->Option Addr) (L C:Nat->Nat) (R:Nat->List Value),∀ r x,l[r]?=some x->ys[r]?=some (.slice (A r) (L r) (C r))/\L r=x.length/\(A r=none->L r=0/\C r=0)/\At U w (A r) (R r)/\Sq ((x.map Lt.cv).map fun c=>Rep U w c) (R r)
 | [],ys,h=>⟨fun _=>none,fun _=>0,fun _=>0,fun _=>[],fun r x hx=>by simp at hx⟩
 | x::l,ys,h=>by
  obtain ⟨y1,y2,rfl,h1,h2⟩:=h;obtain ⟨a,n,c,rfl,g1,g2,g3,g4,zs,g5,g6⟩:=M6.1 h1;obtain ⟨A,L,C,R,hR⟩:=a9o (l:=l) h2;refine ⟨fun r=>match r with | 0=>a | r+1=>A r,fun r=>match r with | 0=>n | r+1=>L r,fun r=>match r with | 0=>c | r+1=>C r,fun r=>match r with | 0=>zs | r+1=>R r,fun r y hy=>?_⟩;cases r with
  | zero =>
   simp at hy;subst hy;exact ⟨rfl,by rw [g1,length_map],g4,g5,g6⟩
  | succ r =>
   simp at hy;exact hR r y hy
theorem b1i {U:Nat->Nat->Prop} {w:World} {l:List (List Lt)} {L:Nat->Nat} {R:Nat->List Value} (h:∀ r x,l[r]?=some x->L r=x.length/\Sq ((x.map Lt.cv).map fun c=>Rep U w c) (R r)) :
  ∀ k,k<=l.length->Sq (((l.take k).flatten.map Lt.cv).map fun c=>Rep U w c) (a2t R k)/\a3N L k=(l.take k).flatten.length:=by
 intro k
 induction k with
 | zero=>intro _;exact ⟨rfl,rfl⟩
 | succ k ih =>
  intro hk;obtain ⟨h1,h2⟩:=ih (by omega);obtain ⟨x,hx⟩:∃ x,l[k]?=some x:=⟨l[k],getElem?_eq_getElem (by omega)⟩
  obtain ⟨h3,h4⟩:=h k x hx;rw [take_add_one,hx,List.flatten_append,a2t,a3N,map_append,map_append,length_append,h2,h3];simp only [Option.toList_some,List.flatten_cons,List.flatten_nil,append_nil];exact ⟨w9 h1 h4,trivial⟩
theorem a1X (W:World) (l:List (List Lt)) (hl:l.length<=1000) (hs:l.flatten.length<=1099511627776):AFun Tryz.prog W 95 [.lst (l.map fun x=>CV.lst (x.map Lt.cv))] (.val (.lst (l.flatten.map Lt.cv))):=by
 refine ⟨x0 Tryz.func95 rfl rfl,.inl rfl,rfl,?_⟩;rintro U w vs hW ⟨u1,us1,rfl,h1,h3⟩;have h3:us1=[]:=h3;subst h3;obtain ⟨a,n,c,rfl,g1,g2,g3,g4,ys,g5,g6⟩:=l4.1 h1;rw [length_map] at g1;subst g1;obtain ⟨A,L,C,R,hR⟩:=a9o g6;obtain ⟨hj,hn⟩:=b1i (fun r x hx=>⟨(hR r x hx).2.1,(hR r x hx).2.2.2.2⟩) l.length (Nat.le_refl _);rw [take_length] at hj hn;have aH:Rw 5 w a l.length A L C R:=by
  refine ⟨fun r hr=>?_,?_⟩
  ·obtain ⟨k1,k2,k3,k4,k5⟩:=hR r _ (getElem?_eq_getElem hr);refine ⟨k3,a0W k4,?_,E4 k5⟩;rw [A3 (n:=fun _=>5) (fun c hc xs hx=>by obtain ⟨t,ht,rfl⟩:=mem_map.1 hc;rw [hx.len];exact Lt.size_all [t] _ (by simp)) k5,k2]
   rw [List.map_const',List.sum_replicate_nat];simp
  ·by_cases hz:l.length=0
   ·exact .inl hz
   ·refine .inr ?_;have hc:=a0W g5;have nC:=(hR 0 _ (getElem?_eq_getElem (by omega:0<l.length))).1;rcases hc with hc | ⟨b,off,ha,hb,hc⟩
    ·rw [hc] at nC;simp at nC
    ·refine ⟨b,off,ha,hb,fun r hr=>?_⟩;have hy:=(hR r _ (getElem?_eq_getElem hr)).1;have kA:r<ys.length:=by
      rcases Nat.lt_or_ge r ys.length with h | h
      ·exact h
      ·rw [List.getElem?_eq_none h] at hy;cases hy
     rw [hc r kA,hy]
 refine (a8g a l.length c A L C R w aH hl (by rw [hn];exact hs)).mono ?_;rintro e w' ⟨v,rfl,ho,hb⟩;obtain ⟨a',c',rfl,k1,k2,k3,k4⟩:=a3U ho;refine ⟨_,rfl,l4.2 ⟨a',_,c',rfl,by rw [hn,length_map],k1,k2,k3,_,k4.keep fun b o v h1 h2=>⟨.inr h1,h2⟩,hj.keep fun b o v h1 h2=>⟨.inl h1,?_⟩⟩,hb⟩;rw [hb.cell (World.block_lt_of_cell? w _ h2)];exact h2
def b2c:List (Option (List Value))->Option (List Value)
 | []=>some []
 | none::_=>none
 | some x::r=>match b2c r with | some y=>some (x++y) | none=>none
def plS (k:Nat) (v:Value) (l:List CV) (r:Option (List Value)):Option (List Value):=match k,v,l with
 | 0,v,[]=>match O4 v,H3 v with | true,false=>some [v] | _,_=>none
 | 1,.nilFunc,[]=>some [.slice none 0 0]
 | 2,.nilFunc,_=>r
 | _,_,_=>none
def plC:Nat->CV->Option (List Value)
 | 0,_=>none
 | n+1,⟨k,v,l⟩=>plS k v l (b2c (l.map (plC n)))
theorem a1E {U:Nat->Nat->Prop} {w:World} {n:Nat} (ih:∀ c vs,plC n c=some vs->Rep U w c vs/\vs.length=c.size):∀ {zs:List CV} {vs:List Value},b2c (zs.map (plC n))=some vs->∃ segs:List (List Value),segs.flatten=vs/\segs.map List.length=zs.map CV.size/\zs.length=segs.length/\∀ (i:Nat) (c:CV),zs[i]?=some c->∃ seg,segs[i]?=some seg/\Rep U w c seg
 | [],vs,h=>by
  simp [b2c] at h;subst h;exact ⟨[],rfl,rfl,rfl,fun i c hi=>by simp at hi⟩
 | z::zs,vs,h=>by
  rw [map_cons] at h;cases hz:plC n z with
  | none=>rw [hz] at h;simp [b2c] at h
  | some x =>
   rw [hz] at h;unfold b2c at h;split at h
   ·rename_i y hy;cases h;obtain ⟨segs,a1,a2,a3,a4⟩:=a1E ih hy;obtain ⟨b1,b2⟩:=ih z x hz;refine ⟨x::segs,by simp [a1],by simp [a2,b2],by simp [a3],fun i c hi=>?_⟩;cases i with
    | zero=>simp at hi;subst hi;exact ⟨x,rfl,b1⟩
    | succ i=>obtain ⟨seg,c1,c2⟩:=a4 i c (by simpa using hi);exact ⟨seg,by simpa using c1,c2⟩
   ·cases h
theorem a4r {U:Nat->Nat->Prop} {w:World}:∀ (n:Nat) (c:CV) (vs:List Value),plC n c=some vs->Rep U w c vs/\vs.length=c.size
 | 0,c,vs,h=>by cases h
 | n+1,⟨k,v,l⟩,vs,h=>by
  rw [plC] at h;unfold plS at h;split at h
  ·split at h
   ·rename_i h1 h2;cases h;exact ⟨(X2 h1).2 h2,rfl⟩
   ·cases h
  ·cases h;exact ⟨a7E U w,rfl⟩
  ·obtain ⟨segs,a1,a2,a3,a4⟩:=a1E (fun c vs h=>a4r (U:=U) (w:=w) n c vs h) h;refine ⟨?_,?_⟩
   ·show Rep U w (.row l) vs;rw [H8,<-a1];exact I0 a3 a4
   ·rw [CV.size_mk,if_pos rfl,<-a1,List.length_flatten,a2]
  ·cases h
section
variable {P:Program} {w0:World} {U0:UX} {nt:Nat} {ops:Array Oper} {o:Oper} {S:Nat->Option AV} {gs:List Nat} {d:Nat}
theorem b5Z (zs:List CV) (hg:Gd w0 U0 nt ops o gs S) (hd:o.dst=some d) (hn:Nat.blt d nt=true) (h5:Nat.blt d 100000=true) {ty:TypeId} {it:TypeInfo} {cs:Array Value} (ho:o.op = .alloc ty) (hi:P.info? ty=some it) (hz:it.zero=some (.agg cs)) (h0:plC 6 (.row zs)=some cs.toList):AOp P w0 U0 nt ops o gs [(d,[])] S [(d,.bp d 0 []),(100000+d,.bx (.row zs))]:=by
 intro s hs hN a w ⟨D,hv,h⟩ Q K hK;rw [if_pos (hg s hs a w D hv h)];have gG:Rep (Us w0 U0 D) w (.row zs) cs.toList:=(a4r 6 _ _ h0).1;have he:(execOp a.eval o).run P w = .ok (.value (.pointer (some ⟨w.heap.size,0,none⟩))) (w.alloc (.cells cs ty)):=by simp [execOp,ho,Instr.alloc,zeroValue,typeInfo,hi,hz,B6,Value.cells]
 unfold Oper.wp;rw [he,Oper.upon_value,hd];have:=h.newbox (d:=d) (av := .bx (.row zs)) (hN (d,[]) (by simp)).nr (bL hn) (bL h5) (.inl rfl) ty (fun _=>gG) (fun _ hl=>absurd hl A0);rw [Array.toArray_toList] at this;exact hK _ _ ⟨_,_,this⟩
theorem zbN {P:Program} {w0:World} {U0:UX} {nt:Nat} {ops:Array Oper} {o:Oper} {S:Nat->Option AV} {gs:List Nat} {d:Nat} {ty:TypeId} {it:TypeInfo} {cs:Array Value} (zs:List CV) (p:Gd w0 U0 nt ops o gs S:=by exact gN rfl) (q:o.dst=some d:=by exact rfl) (r:Nat.blt d nt=true:=by exact rfl) (t:Nat.blt d 100000=true:=by exact rfl) (u:o.op = .alloc ty:=by exact rfl) (v:P.info? ty=some it:=by exact rfl) (x:it.zero=some (.agg cs):=by exact rfl) (y:plC 6 (.row zs)=some cs.toList:=by exact rfl):AOp P w0 U0 nt ops o gs [(d,[])] S [(d,.bp d 0 []),(100000+d,.bx (.row zs))]:=b5Z zs p q r t u v x y
theorem a4m (zs:List CV) (hg:Gd w0 U0 nt ops o gs S) (hd:o.dst=some d) (hn:Nat.blt d nt=true) (h5:Nat.blt d 100000=true) {t:TypeId} {parts:Array (Nat×Operand)} {fs:Array Field} {it:TypeInfo} {cs:Array Value} {sz:List Nat} {r:List CV} (ho:o.op = .build t parts) (hu:P.underlying t=some (.struct fs)) (hi:P.info? t=some it) (hz:it.zero=some (.agg cs)) (kC:szO P fs.toList 0=some sz) (rN:zs.map CV.size=sz) (h0:b2c (zs.map (plC 6))=some cs.toList) (hr:U7 S parts.toList zs=some r) :
  AOp P w0 U0 nt ops o (gs++rds parts.toList) [] S [(d,.val (.row r))]:=
 j9 hg hd hn h5 (fun k hk=>List.mem_append_left _ hk) fun s hs a w D hv hm=>by
  obtain ⟨segs,e1,e2,e4,e5⟩:=a1E (U:=Us w0 U0 D) (w:=w) (a4r 6) h0;obtain ⟨g1,g2⟩:=S7 (U:=Us w0 U0 D) (w:=w) (ρ:=a.eval) (segs:=segs) hr (fun x hx c n q p qQ=>y7 hm (fun k hk=>hs k (List.mem_append_right _ (a3z hx k hk))) qQ) e4 e2 e5;obtain ⟨pl,h1,h2⟩:=a4M kC;have iD:=Y9 (place:=fun i=>pl.toArray[i]?) sz (fun i z hz=>by rw [List.getElem?_toArray,h2 i z hz,Nat.zero_add]) (parts.toList.map fun x=>(x.1,a.eval x.2)) segs cs e1.symm (by rw [e2,rN]) (fun x hx=>by rw [<-rN];exact g1 x hx);refine ⟨.agg (F2 segs (parts.toList.map fun x=>(x.1,a.eval x.2))).flatten.toArray,?_,n4 (E3.2 ⟨_,rfl,g2⟩)⟩;have hb:P.built t (parts.map fun x=>(x.1,a.eval x.2)).toList=some (F2 segs (parts.toList.map fun x=>(x.1,a.eval x.2))).flatten.toArray:=by unfold Program.built;rw [hi,hu];simp only [hz,h1];rw [Array.toList_map];exact iD
  have:=run_build w t _ _ hb;generalize a.eval=ρ at this |-;simp [execOp,ho,this]
theorem zbM {P:Program} {w0:World} {U0:UX} {nt:Nat} {ops:Array Oper} {o:Oper} {S:Nat->Option AV} {gs:List Nat} {d:Nat} {t:TypeId} {parts:Array (Nat×Operand)} {fs:Array Field} {it:TypeInfo} {cs:Array Value} {sz:List Nat} {r:List CV} (zs:List CV) (u:Gd w0 U0 nt ops o gs S:=by exact gN rfl) (v:o.dst=some d:=by exact rfl) (y:Nat.blt d nt=true:=by exact rfl) (A:Nat.blt d 100000=true:=by exact rfl) (B:o.op = .build t parts:=by exact rfl) (C:P.underlying t=some (.struct fs):=by exact rfl) (E:P.info? t=some it:=by exact rfl) (F:it.zero=some (.agg cs):=by exact rfl) (G:szO P fs.toList 0=some sz:=by exact rfl) (H:zs.map CV.size=sz:=by exact rfl) (h0:b2c (zs.map (plC 6))=some cs.toList:=by exact rfl) (hr:U7 S parts.toList zs=some r:=by exact rfl):AOp P w0 U0 nt ops o (gs++rds parts.toList) [] S [(d,.val (.row r))]:=a4m zs u v y A B C E F G H h0 hr
end
theorem b5m {c:List Lt} {s:Tm}:s∈F3 c↔∃ l∈c,s=l.a\/s=l.b:=by
 unfold F3;rw [mem_flatMap];constructor
 ·rintro ⟨l,hl,h⟩;exact ⟨l,hl,by simpa using h⟩
 ·rintro ⟨l,hl,h⟩;exact ⟨l,hl,by simpa using h⟩
section
variable {P:Program} {w0:World} {U0:UX} {nt:Nat} {s:AS}
theorem b8o (k n e0 z:Nat) (hk:Nat.ble 500000 k=true) (hn:(Nat.ble 200000 n&&Nat.blt n 400000)=true) (hz:Nat.blt 0 z=true) (hs:look s k=some ⟨0,.lst [],1,0,[]⟩) (hr:y6 s [(n,[])]=true) (nL:R9 s n=true):Wk w0 U0 nt s ((k,.sl n 0 0 z)::(n,.mrow e0 z [])::s):=by
 rintro a w ⟨D,hv,h⟩;have hk5:=Nat.le_of_ble_eq_true hk;have kN:=rnB hn;have fP:RN n:=RW.rn kN;unfold RW at kN;have rR:look s n=none:=by
  cases e:look s n with
  | none=>rfl
  | some av =>
   unfold R9 at nL;rw [all_eq_true] at nL;have:=nL _ (C3 e);simp [Nat.beq_refl] at this
 have jA:S2 s n:=(p7 hr (n,[]) (by simp)).nr;obtain ⟨kG,gK⟩:∃ kG:Nat->Value,kG=fun x=>if x=n then .slice none 0 0 else hv x:=⟨_,rfl⟩
 have kR:∀ x,x≠n->kG x=hv x:=fun x hx=>by rw [gK];simp only [if_neg hx]
 have bI:kG n = .slice none 0 0:=by rw [gK];simp
 obtain ⟨s',gC⟩:∃ s',s'=(k,AV.sl n 0 0 z)::(n,AV.mrow e0 z [])::s:=⟨_,rfl⟩
 rw [<-gC];have kB:∀ x,x≠k->x≠n->look s' x=look s x:=fun x h1 h2=>by rw [gC,lN (Ne.symm h1),lN (Ne.symm h2)]
 have nP:look s' k=some (.sl n 0 0 z):=by rw [gC,lS]
 have nQ:look s' n=some (.mrow e0 z []):=by rw [gC,lN (by omega),lS]
 have hl:∀ q e,s8 s' q e↔s8 s q e:=fun q e=>by
  unfold s8;by_cases e1:q=k
  ·omega
  ·by_cases e2:q=n
   ·subst e2;rw [nQ,rR];constructor<;>(rintro ⟨h1,_⟩;cases h1)
   ·rw [kB q e1 e2]
 have kL:a8 s'=a8 s:=by funext q;simp only [a8,hl]
 have jR:∀ {k' av v},look s k'=some av->AVRep (Us w0 U0 D) w hv (a8 s) av v->AVRep (Us w0 U0 D) w kG (a8 s) av v:=fun {k' av v} h1 h2 =>
  h2.move (fun _ _ _ h1 h2=>⟨h1,h2⟩) (fun _ h=>h) fun h3=>kR _ (a1A fP (jA k' av h1).1 h3)
 refine ⟨D,kG,h.below,h.dfr,h.size,fun d av g1 g2=>?_,fun m o av g1 g2 g3 g4=>?_,fun m o o' av av' g1 g2 g3 g4 g5=>?_,fun k' av g1 g2=>?_,fun k' av g g1 g2 g3 g4=>?_,fun k' k2 av av' g g1 g2 g3 g4 g5 g6 g7 g8=>?_,fun k' v g1=>?_,h.dlt⟩
 ·rw [kB d (by omega) (by omega)] at g1;rw [kL];obtain ⟨v,h1,h2⟩:=h.slot d av g1 g2;exact ⟨v,h1,jR g1 h2⟩
 ·have fB:=F5 g4;unfold l7 at fB;unfold BN at g4;rw [kB (100000+m) (by omega) (by omega)] at g3;rw [kL,kR (100000+m) (by omega)];by_cases e:d9 m o=k
  ·rw [e,nP] at g1;cases g1;obtain ⟨v,h1,h2,h3⟩:=h.fld m o _ (by rw [e];exact hs) g2 g3 g4;have hv0:v = .slice none 0 0:=by obtain ⟨q1,q2⟩:VRep (Us w0 U0 D) w (.lst []) v/\Tk hv (a8 s) ⟨0,.lst [],1,0,[]⟩ v.cells.toList:=h1;obtain ⟨mm,c,f1,f2⟩:=q2 (.inl rfl);simp only at f1;rw [Q5] at f1;cases f1;obtain ⟨ao,k,c,e1,_⟩:=l4.1 q1;rw [e1] at f2 |-;simpa [Value.cells,H7] using f2
   subst hv0;refine ⟨.slice none 0 0,⟨fP,?_⟩,rfl,h3⟩;show SlV (kG n) 0 0 z (.slice none 0 0);rw [bI];exact H9 rfl (Nat.le_refl _) (.inl rfl)
  ·rw [kB _ e (by unfold d9;omega)] at g1;obtain ⟨v,h1,h2,h3⟩:=h.fld m o av g1 g2 g3 g4;exact ⟨v,jR g1 h1,h2,h3⟩
 ·have conv:∀ o (av:AV),look s' (d9 m o)=some av->∃ av',look s (d9 m o)=some av'/\av'.sz=av.sz:=fun o av f1=>by
   by_cases e:d9 m o=k
   ·rw [e,nP] at f1;cases f1;exact ⟨⟨0,.lst [],1,0,[]⟩,by rw [e];exact hs,rfl⟩
   ·rw [kB _ e (by unfold d9;omega)] at f1;exact ⟨av,f1,rfl⟩
  obtain ⟨a1,b1,c1⟩:=conv o av g1
  obtain ⟨a2,b2,c2⟩:=conv o' av' g2
  rw [<-c1];exact h.fdis m o o' a1 a2 b1 b2 g3 g4 g5
 ·unfold l7 at g2;rw [kL];by_cases e:k'=n
  ·subst e;rw [nQ] at g1;cases g1;rw [bI];exact ⟨[],World.ownsRow_nil _ _ _ _,bL hz,(fun c hc=>by cases hc),rfl⟩
  ·rw [kB k' (by omega) e] at g1;rw [kR k' e];exact (h.obj k' av g1 g2).move (fun _ _ _ h1 h2=>⟨h1,h2⟩) (fun ht hl=>⟨hl,by
    unfold H7;rw [kR _ (jA k' av g1).1]⟩) (fun _ _=>rfl)
 ·unfold l7 at g2;by_cases e:k'=n
  ·subst e;rw [bI] at g4;cases g4
  ·rw [kB k' (by omega) e] at g1;rw [kR k' e] at g4 |-;exact h.blk k' av g g1 g2 g3 g4
 ·unfold l7 at g3 g4;by_cases e:k'=n
  ·subst e;rw [bI] at g8;cases g8
  ·by_cases e2:k2=n
   ·subst e2;rw [bI];intro h9;cases h9
   ·rw [kB k' (by omega) e] at g1;rw [kB k2 (by omega) e2] at g2;rw [kR k' e] at g8;rw [kR k2 e2];exact h.disj k' k2 av av' g g1 g2 g3 g4 g5 g6 g7 g8
 ·have:=U0.hf k' v g1;rw [kR k' (by omega)];exact h.fix k' v g1
end
theorem b1I {k:Nat}:∀ (l:List Nat) {ns:List Nd} {o:List Nat} {q},U4 k l ns o=some q->pw q.1=pw ns
 | [],ns,o,q,e=>by cases e;rfl
 | p::l,ns,o,q,e=>by
  rw [U4] at e;cases h:n7 k ns p with
  | none=>rw [h] at e;cases e
  | some q1 =>
   rw [h] at e;rw [b1I l e,b7C,T6 k h]
theorem b6L {k:Nat}:∀ (j i:Nat) {c:Cl} {o:List Nat} {q},a2d k j i c o=some q->pw q.1.ns=pw c.ns
 | 0,_,_,_,_,e=>by cases e
 | j+1,i,c,o,q,e=>by
  rw [a2d] at e;split at e
  ·cases e;rfl
  ·rename_i g hg;split at e
   ·cases e
   ·rename_i q1 h1;rw [b6L j _ e];show pw q1.1=_;rw [b1I _ h1,J5]
theorem c0v {c:Cl} {H r:Nat->Nat} {a b:Tm} (h:ClsC c H r [(a,b)]) (hv:P4 c.vr) (ha:a.ten) (hb:b.ten) (hn:c.ns.length<=a.size+b.size):c.vr.length<20:=by
 have hnd:(c.vr.map Prod.snd).Nodup:=by have h1:c.vr.Pairwise (fun a b=>a.1≠b.1):=List.pairwise_map.1 hv.1;refine List.pairwise_map.2 (List.Pairwise.imp_of_mem (fun {a b} ha hb oD e=>oD ?_) h1);have e1:=(h.vrt a.1 a.2 (F8 hv.1 ha)).2;have e2:=(h.vrt b.1 b.2 (F8 hv.1 hb)).2;rw [e] at e1;omega
 have kA:∀ x∈c.vr.map Prod.snd,x<c.ns.length/\(nT c.ns x).f<0:=fun x hx=>by obtain ⟨p,hp,rfl⟩:=mem_map.1 hx;have h1:=h.vrt p.1 p.2 (F8 hv.1 hp);have h2:=hv.2 p hp;refine ⟨h1.1,?_⟩;rw [h1.2];omega
 obtain ⟨n,m,h1,h2,e1,e2,_⟩:=h.pair (a,b) (by simp);have e1:nT c.ns n=a:=e1;have e2:nT c.ns m=b:=e2;have more:∀ x,x<c.ns.length->¬ (nT c.ns x).f<0->c.vr.length+1<=c.ns.length:=fun x hx hf=>by
  have:=a1f c.ns.length (l:=x::c.vr.map Prod.snd) (List.nodup_cons.2 ⟨fun hm=>hf (kA x hm).2,hnd⟩) (fun y hy=>by
   rcases List.mem_cons.1 hy with rfl | hy
   ·exact hx
   ·exact (kA y hy).1)
  simpa using this
 have dC:=c0M h hv;have eG:=ha.2;have nE:=hb.2;by_cases f1:a.f<0
 ·by_cases f2:b.f<0
  ·have s1:=Tm.size_var f1;have s2:=Tm.size_var f2;omega
  ·have:=more m h2 (by rw [e2];exact f2);omega
 ·have:=more n h1 (by rw [e1];exact f1);omega
theorem a8f (W:World) (x y:List Lt) (hl:x.length+y.length<=1000000):AFun Tryz.prog W 95 [.lst [.lst (x.map Lt.cv),.lst (y.map Lt.cv)]] (.val (.lst ((x++y).map Lt.cv))):=by
 have h:=a1X W [x,y] (by simp) (by simp;omega);have e:[x,y].flatten=x++y:=by simp
 rw [e] at h;exact h
theorem a8j (W:World) (c:List Lt) (n:Nat) (hn:n<c.length) (hl:c.length<=100000):AFun Tryz.prog W 133 [.lst (c.map Lt.cv),.i (n:Int)] (.val (.lst ((a1y c n).map Lt.cv))):=by
 have kC:=Lt.size_all c;have gW:=fun w=>a8f w (c.take n) (c.drop (n+1)) (by rw [length_take,List.length_drop];omega);rw [List.map_take,List.map_drop] at gW;have kD:(c.map Lt.cv).length=c.length:=length_map ..;refine b9 (rs:=[.lst ((a1y c n).map Lt.cv)]) Tryz.func133 Tryz.ntmps133 rfl rfl rfl rfl ?_;intro w U hW;refine aS (aR ?_);refine nc ze ?_;refine aS (aD (by kernel_rfl) (by kernel_rfl) ?_);refine nc zl (nc zl (nc zbH (nc zl (nc zl (nc zA (nc (zbu (lo:=n+1)) (nc zy (nc (zk (z:=gW w)) (nc ze ?_)))))))));refine ⟨by kernel_rfl,?_⟩;exact aT (And.intro (.inr rfl) rfl)
theorem a7u {c:List Lt} (hl:c.length<=100000) (h:∀ l∈c,(l.a.rng/\l.a.ok)/\l.b.rng/\l.b.ok):(⟨0,F3 c⟩:Tm).rng/\(⟨0,F3 c⟩:Tm).ok:=by
 have hm:∀ s∈F3 c,s.rng/\s.ok:=fun s hs=>by
  obtain ⟨l,hl,e⟩:=b5m.1 hs;rcases e with rfl | rfl
  ·exact (h l hl).1
  ·exact (h l hl).2
 have kD:=a8V c;exact ⟨(Tm.rng_iff _).2 ⟨by show _<=(0:Int)/\(0:Int)<=_;omega,fun s hs=>(hm s hs).1⟩,(Tm.ok_iff _).2 ⟨by show (F3 c).length<=_;omega,fun s hs=>(hm s hs).2⟩⟩
theorem b0e:∀ t:Tm,a9 (f0 []) t=t.strip:=fun t=>a7M t
theorem b8H (c:List Lt):c.map (Lt.rep (f0 []))=c.map Lt.strip:=by
 refine List.map_congr_left fun l _=>?_;unfold Lt.rep Lt.strip;rw [b0e,b0e]
theorem J8 (W:World) (c:List Lt) (i:Int) (hl:c.length<=100000) (hc:∀ l∈c,(l.a.rng/\l.a.ok)/\l.b.rng/\l.b.ok):AFun Tryz.prog W 96 [.lst (c.map Lt.cv),.i i] (.val (.lst (((if 0<=i/\i<c.length then a1y c i.toNat else c).map Lt.strip).map Lt.cv))):=by
 have fR:∀ (d:List Lt) (w:World),d.length<=100000->(∀ l∈d,(l.a.rng/\l.a.ok)/\l.b.rng/\l.b.ok)->AFun Tryz.prog w 67 [.lst [],.lst (d.map Lt.cv)] (.val (.lst ((d.map Lt.strip).map Lt.cv))):=fun d w h1 h2=>by obtain ⟨g1,g2⟩:=a7u h1 h2;have:=a3T w [] d (by omega) (by simp) (fun b hb=>by cases hb) g1 g2;rw [b8H] at this;exact this
 have kC:=Lt.size_all c;refine b9 (rs:=[.lst (((if 0<=i/\i<c.length then a1y c i.toNat else c).map Lt.strip).map Lt.cv)]) Tryz.func96 Tryz.ntmps96 rfl rfl rfl rfl ?_;intro w U hW;refine aS (aR ?_);refine nc ze ?_;by_cases h0:i>=0
 ·have g0:decide (i>=0)=true:=decide_eq_true h0;by_cases h1:i<c.length
  ·have g1:decide (i<((c.map Lt.cv).length:Int))=true:=decide_eq_true (by rw [length_map];exact h1);obtain ⟨n,rfl⟩:∃ n:Nat,i=(n:Int):=⟨i.toNat,by omega⟩
   rw [if_pos ⟨h0,h1⟩,Int.toNat_natCast];have hn:n<c.length:=by omega
   have sK:=J1 hn;refine aS (aS (aR ?_));refine nc zl (nc zn (nc zl (nc (zl (p:=gb)) (nc (zl (p:=gb)) (nc (zo (r:=gb)) (nc (zi (r:=gb)) (nc zp ?_)))))));refine aC rfl (fun _=>?_) (fun h=>by rw [g1] at h;cases h);refine aR ?_;refine nc zl (nc zl (nc (zk (z:=a8j w c n hn hl)) (nc ze ?_)));refine aS (aR ?_);refine nc zl ?_;refine nc (zk (z:=fR (a1y c n) w (by omega) (fun l h=>hc l (a4p h)))) ?_;refine nc ze ?_;exact aT (And.intro (.inr rfl) rfl)
  ·have g1:decide (i<((c.map Lt.cv).length:Int))=false:=decide_eq_false (by rw [length_map];exact h1);rw [if_neg (by omega)];refine aS (aS (aR ?_));refine nc zl (nc zn (nc zl (nc (zl (p:=gb)) (nc (zl (p:=gb)) (nc (zo (r:=gb)) (nc (zi (r:=gb)) (nc zp ?_)))))));refine aC rfl (fun h=>by rw [g1] at h;cases h) (fun _=>aK ?_);refine aS (aR ?_);refine nc zl (nc (zk (z:=fR c w hl hc)) (nc ze ?_));exact aT (And.intro (.inr rfl) rfl)
 ·have g0:decide (i>=0)=false:=decide_eq_false h0;rw [if_neg (by omega)];refine aS (aS (aR ?_));refine nc zl (nc zn (nc zl (nc zq (nc zq (nc zq (nc zq (nc zr ?_)))))));refine aC rfl (fun h=>by cases h) (fun _=>aK ?_);refine aS (aR ?_);refine nc zl (nc (zk (z:=fR c w hl hc)) (nc ze ?_));exact aT (And.intro (.inr rfl) rfl)
noncomputable def clC (c:List Lt):CV := .lst (c.map Lt.cv)
theorem a9e (L:List (List Lt)):∀ x∈L.map clC,x.size=1:=by
 intro x hx;obtain ⟨c,_,rfl⟩:=mem_map.1 hx;rfl
noncomputable abbrev obE (L:List (List Lt)):AS:=[(450001,.obj),(35500100,.sl 300005 0 L.length 1),(300005,.mrow 26 1 (L.map clC))]
noncomputable abbrev b7o:List CV:=[.b false,.row [.i 0,.lst []],.row [.i 0,.lst []]]
noncomputable def sy (t:Tm):List Int->List (List Int×Tm):=
 Tm.rec (motive_1:=fun _=>List Int->List (List Int×Tm)) (motive_2:=fun _=>Nat->List Int->List (List Int×Tm))
  (fun f l ih pl=>if f<0 then [] else (pl,⟨f,l⟩)::ih 0 pl)
  (fun _ _=>[])
  (fun _ _ ih1 ih2 i pl=>ih1 (pl++[(i:Int)])++ih2 (i+1) pl) t
noncomputable def syL (l:List Tm):Nat->List Int->List (List Int×Tm):=
 Tm.rec_1 (motive_1:=fun _=>List Int->List (List Int×Tm)) (motive_2:=fun _=>Nat->List Int->List (List Int×Tm))
  (fun f l ih pl=>if f<0 then [] else (pl,⟨f,l⟩)::ih 0 pl)
  (fun _ _=>[])
  (fun _ _ ih1 ih2 i pl=>ih1 (pl++[(i:Int)])++ih2 (i+1) pl) l
theorem a2v (t:Tm) (pl:List Int):sy t pl=if t.f<0 then [] else (pl,t)::syL t.l 0 pl:=by cases t;rfl
theorem T4 (i:Nat) (pl:List Int):syL [] i pl=[]:=rfl
theorem N1 (t:Tm) (l:List Tm) (i:Nat) (pl:List Int):syL (t::l) i pl=sy t (pl++[(i:Int)])++syL l (i+1) pl:=rfl
theorem a6U:∀ (a b:List Tm) (i:Nat) (pl:List Int),syL (a++b) i pl=syL a i pl++syL b (i+a.length) pl
 | [],b,i,pl=>by rw [nil_append,T4,nil_append];rfl
 | t::a,b,i,pl=>by rw [cons_append,N1,N1,a6U a b (i+1) pl,List.append_assoc,length_cons];congr 3;omega
theorem a4h {l:List Tm} {k:Nat} {x:Tm} (i:Nat) (pl:List Int) (hx:l[k]?=some x):syL (l.take (k+1)) i pl=syL (l.take k) i pl++sy x (pl++[((i+k:Nat):Int)]):=by
 have hk:k<l.length:=by
  rcases Nat.lt_or_ge k l.length with h | h
  ·exact h
  ·rw [List.getElem?_eq_none h] at hx;cases hx
 rw [take_add_one,hx,a6U];rw [show (some x).toList=[x] from rfl,N1,T4,append_nil,length_take,Nat.min_eq_left (by omega)]
theorem b6O {f:Int} {l:List Tm} {k:Nat} {x:Tm} (hx:l[k]?=some x) (pl:List Int) {i:Nat} {y:List Int×Tm} (hy:(sy x (pl++[(k:Int)]))[i]?=some y):((pl,(⟨f,l⟩:Tm))::syL l 0 pl)[1+(syL (l.take k) 0 pl).length+i]?=some y:=by
 rw [show 1+(syL (l.take k) 0 pl).length+i=((syL (l.take k) 0 pl).length+i)+1 by omega,List.getElem?_cons_succ];have h1:syL l 0 pl=syL (l.take (k+1)) 0 pl++syL (l.drop (k+1)) (0+(l.take (k+1)).length) pl:=by rw [<-a6U,List.take_append_drop]
 have hi:i<(sy x (pl++[(k:Int)])).length:=by
  rcases Nat.lt_or_ge i (sy x (pl++[(k:Int)])).length with h | h
  ·exact h
  ·rw [List.getElem?_eq_none h] at hy;cases hy
 rw [h1,a4h 0 pl hx,Nat.zero_add,List.append_assoc,List.getElem?_append_right (by omega),Nat.add_sub_cancel_left,List.getElem?_append_left hi,hy]
theorem a4A {f:Int} {l:List Tm} (hf:¬ f<0) {k:Nat} {x:Tm} (hx:l[k]?=some x):1+((l.take k).flatMap Tm.flat).length+x.size<=(Tm.mk f l).size:=by
 have h1:(Tm.mk f l).size=1+(l.flatMap Tm.flat).length:=by rw [Tm.size_eq,Tm.ps_of_sym (by show 0<=f;omega)]
 have h2:(l.flatMap Tm.flat).length=((l.take k).flatMap Tm.flat).length+((l.drop k).flatMap Tm.flat).length:=by
  conv=>lhs;rw [<-List.take_append_drop k l]
  rw [List.flatMap_append,length_append]
 have h3:x.flat.length<=((l.drop k).flatMap Tm.flat).length:=t7 Tm.flat (mem_of_getElem? (i:=0) (by rw [List.getElem?_drop];simpa using hx));have h4:x.flat.length=x.size:=rfl;omega
theorem b8m {f:Int} {l:List Tm} (hf:¬ f<0):l.length<(Tm.mk f l).size:=by
 rw [Tm.size_eq,Tm.ps_of_sym (by show 0<=f;omega)];have:∀ l:List Tm,l.length<=(l.flatMap Tm.flat).length:=by
  intro l
  induction l with
  | nil=>exact Nat.le_refl _
  | cons x l ih =>
   rw [List.flatMap_cons,length_append,length_cons];have:0<x.flat.length:=by rw [Tm.flat_eq];simp
   omega
 have:=this l;show l.length<1+(l.flatMap Tm.flat).length;omega
theorem b9J {U:UX} {pre:List Nat} (hU:∀ k v,U.f k=some v->l5 pre k=true) {n:Nat} (h:l5 pre n=false):U.f n=none:=by
 cases e:U.f n with
 | none=>rfl
 | some v=>rw [hU n v e] at h;cases h
noncomputable abbrev b9C (X:Nat) (pl:List Int):AS:=[(X,.mrow 3 1 (pl.map CV.i))]
noncomputable abbrev obX (L:List (List Lt)) (X:Nat) (pl:List Int):AS:=[(450001,.obj),(35500100,.sl 300005 0 L.length 1),(300005,.mrow 26 1 (L.map clC)),(X,.mrow 3 1 (pl.map CV.i))]
set_option maxHeartbeats 8000000 in
theorem b0M (Wb:World) (Ub:UX) (l0:Nat) (Ls:Nat->List (List Lt)):∀ t:Tm,∀ (j:Nat) (pl:List Int),pl.length+t.size<=1000000->(∀ i x,(sy t pl)[i]?=some x->∀ X∈[400002,400003],b6Q Tryz.prog Wb Ub l0 X (obX (Ls (j+i)) X x.1) (fun _=>[.sl X 0 x.1.length 1,.val x.2.cw]) (obX (Ls (j+i+1)) X x.1))->a0Z Tryz.prog Wb Ub 120 (obX (Ls (j)) 400002 (pl)) [.sl 400002 0 (pl).length 1,.val (t).cw,.val (E7 l0)] (.val (.b true)) (obX (Ls (j+(sy t pl).length)) 400002 (pl))/\a0Z Tryz.prog Wb Ub 120 (obX (Ls (j)) 400003 (pl)) [.sl 400003 0 (pl).length 1,.val (t).cw,.val (E7 l0)] (.val (.b true)) (obX (Ls (j+(sy t pl).length)) 400003 (pl)):=by
 intro t
 induction t using Tm.ind with
 | h f l ih =>
 intro j pl gV hY;have kC:=Tm.size_all l;have dF:f<0\/l.length<1000000:=by
  by_cases hf:f<0
  ·exact .inl hf
  ·exact .inr (by have:=b8m hf (l:=l);omega)
 constructor
 ·refine a1j Tryz.func120 Tryz.ntmps120 rfl rfl rfl rfl (by kernel_rfl) (by kernel_rfl) ?_;intro w U bE hU;have wQ:U.f 400003=none:=b9J hU (by kernel_rfl);refine aS (aR ?_);refine ne zd (nc ze ?_);refine aS (aS (aR ?_));refine nc zg (nc zh (nc zi ?_));refine aC rfl (fun hc=>?_) (fun hc=>?_)
  ·have hf:f<0:=by simpa using hc
   have e:(sy ⟨f,l⟩ pl).length=0:=by rw [a2v,if_pos hf];rfl
   rw [e,Nat.add_zero];refine aS (aR ?_);refine nc ze ?_;exact aT ⟨.inr rfl,_,Wk.refl _,rfl,rfl,rfl,rfl,rfl,trivial⟩
  have hf:¬ f<0:=by simpa using hc
  have sT:=a2v ⟨f,l⟩ pl;rw [if_neg hf] at sT;rw [sT] at hY |-;refine aK ?_;refine AWp.wk (a7 (s':=(0,AV.sl 400002 0 pl.length 1)::(2,.val (E7 l0))::(4,.bp 4 0 [])::(100004,.bx (Tm.cw ⟨f,l⟩))::(obX (Ls (j)) 400002 pl)) ⟨rfl,rfl,rfl,rfl,rfl,rfl,rfl,rfl,trivial⟩) ?_;have oY:=hY 0 (pl,⟨f,l⟩) rfl 400002 (by simp);refine aS (aS (I9 ?_))
  (refine nxY (AOp.y (aM (gN rfl) rfl rfl rfl rfl rfl)) rfl ?_)
  (refine nxY (AOp.y (aM (gN rfl) rfl rfl rfl rfl rfl)) rfl ?_)
  (refine nxY (AOp.y (aL (gN rfl) rfl rfl rfl rfl rfl rfl rfl rfl rfl rfl rfl rfl)) rfl ?_)
  (refine nxY (a1x (u := .slice none 0 0) 0 (oY) bE (gN rfl) rfl rfl rfl rfl rfl rfl (.inr fun _ _=>rfl) (by repeat (first | exact trivial | refine ⟨rfl,?_⟩)) (by first | rfl | kernel_rfl) (by first | rfl | kernel_rfl) (by first | rfl | kernel_rfl) (i0 (by first | rfl | kernel_rfl)) rfl) rfl ?_)
  (refine nxY (AOp.y (a7U (gN rfl) rfl rfl rfl rfl rfl)) rfl ?_)
  refine aC rfl (fun hc=>by cases hc) (fun hc=>aK ?_);refine AWp.wk (a7 (s':=(0,AV.sl 400002 0 pl.length 1)::(2,.val (E7 l0))::(4,.bp 4 0 [])::(100004,.bx (Tm.cw ⟨f,l⟩))::(obX (Ls (j+1)) 400002 pl)) ⟨rfl,rfl,rfl,rfl,rfl,rfl,rfl,rfl,trivial⟩) ?_;refine aS (aS (aR ?_));refine nc zg (nc zh (nc zo (nc zl ?_)));refine aB (l9 l.length (fun k=>(0,AV.sl 400002 0 pl.length 1)::(2,.val (E7 l0))::(18,.val (.lst (l.map Tm.cv)))::(19,.val (.i (l.map Tm.cv).length))::(20,.val (.i (k)))::(obX (Ls (j+1+(syL (l.take k) 0 pl).length)) 400002 pl)) (a7 ⟨rfl,rfl,rfl,rfl,rfl,?_,?_,?_,rfl,trivial⟩) ?_)
  ·rfl
  ·rfl
  ·rfl
  intro k hk;obtain ⟨J,hJ⟩:∃ J,J=j+1+(syL (l.take k) 0 pl).length:=⟨_,rfl⟩
  refine aS (aR ?_);refine nc zi ?_;refine aS (aC rfl (fun kA=>?_) (fun kA=>?_))
  ·have kE:k<l.length:=by simpa using kA
   obtain ⟨x,hx⟩:∃ x,l[k]?=some x:=⟨l[k],getElem?_eq_getElem kE⟩
   have kU:=Tm.map_at hx;have dG:=mem_of_getElem? hx;have hszs:=a4A hf hx;have kP:syL (l.take (k+1)) 0 pl=syL (l.take k) 0 pl++sy x (pl++[(k:Int)]):=by rw [a4h 0 pl hx,Nat.zero_add]
   have iZ:j+1+(syL (l.take (k+1)) 0 pl).length=J+(sy x (pl++[(k:Int)])).length:=by rw [kP,length_append,hJ];omega
   have kK:=(ih x dG J (pl++[(k:Int)]) (by rw [length_append];simp only [length_cons,length_nil];omega) (fun i y hy X hX=>by
    have h2:=hY (1+(syL (l.take k) 0 pl).length+i) y (b6O hx pl hy) X hX;have e1:j+(1+(syL (l.take k) 0 pl).length+i)=J+i:=by omega
    rw [e1] at h2;exact h2)).2
   have hpe:(pl++[(k:Int)]).length=(pl.map CV.i).length+[CV.i (k:Int)].length:=by simp
   unfold obX at kK;rw [hpe,map_append] at kK;have fU:(pl.map CV.i).length=pl.length:=length_map ..;rw [<-hJ];refine aK ?_;refine aS (aB (aS (aR ?_)));refine nc zl (nc (zt (j:=k) (H:=kU) (hz:=kC)) (nc zu (ne zw (nc ze (nc zx ?_)))));refine AWp.wk (a7 (s':=(7,AV.val (.i (k:Int)))::(8,.bp 8 0 [])::(100008,.bx x.cw)::((0,AV.sl 400002 0 pl.length 1)::(2,.val (E7 l0))::(18,.val (.lst (l.map Tm.cv)))::(19,.val (.i (l.map Tm.cv).length))::(20,.val (.i (k)))::(obX (Ls (J)) 400002 pl))) ⟨rfl,rfl,rfl,rfl,rfl,rfl,rfl,rfl,rfl,rfl,rfl,rfl,trivial⟩) ?_;refine AWp.handle 3 400002 rfl rfl rfl rfl fun ao cap pM aP=>?_;rcases Nat.lt_or_ge (pl.map CV.i).length cap with hroom | hroom
   ·refine aS (aD (by kernel_rfl) (by kernel_rfl) ?_);refine nc zl (nc zl (nc zy (ne (zbI 400003 3 5 (hf:=wQ) (hroom:=hroom)) (nc zj (nc zl (nc (zbJ bE (z:=kK) (G:=i0 (by first | rfl | kernel_rfl))) (nc zZ ?_)))))));refine ⟨by kernel_rfl,?_⟩;refine aC rfl (fun hc=>by cases hc) (fun hc=>aK ?_);refine AWp.wk (a8R 400002 400003 3 5 (pl.map CV.i).length rfl rfl rfl rfl rfl rfl rfl (by simp)) ?_;refine aR ?_;refine nc zA (nc zl ?_);refine ⟨kE,?_⟩;show Wk _ _ _ _ ((0,AV.sl 400002 0 pl.length 1)::(2,.val (E7 l0))::(18,.val (.lst (l.map Tm.cv)))::(19,.val (.i (l.map Tm.cv).length))::(20,.val (.i (((k+1:Nat):Int))))::(obX (Ls (j+1+(syL (l.take (k+1)) 0 pl).length)) 400002 pl));rw [iZ];refine a7 ⟨rfl,rfl,rfl,rfl,rfl,rfl,rfl,rfl,?_,trivial⟩;show some (AV.mrow 3 1 ((pl.map CV.i++[CV.i (k:Int)]).take (pl.map CV.i).length))=_;rw [List.take_left' rfl]
   ·have wE:cap=(pl.map CV.i).length:=by omega
    subst wE;refine aS (aD (by kernel_rfl) (by kernel_rfl) ?_);refine nc zl (nc zl (nc zy (ne (zbK 400003 3 (hf:=wQ)) (nc zj (nc zl (nc (zbJ bE (z:=kK) (G:=i0 (by first | rfl | kernel_rfl))) (nc zZ ?_)))))));refine ⟨by kernel_rfl,?_⟩;refine aC rfl (fun hc=>by cases hc) (fun hc=>aK ?_);refine aR ?_;refine nc zA (nc zl ?_);refine ⟨kE,?_⟩;show Wk _ _ _ _ ((0,AV.sl 400002 0 pl.length 1)::(2,.val (E7 l0))::(18,.val (.lst (l.map Tm.cv)))::(19,.val (.i (l.map Tm.cv).length))::(20,.val (.i (((k+1:Nat):Int))))::(obX (Ls (j+1+(syL (l.take (k+1)) 0 pl).length)) 400002 pl));rw [iZ];exact a7 ⟨rfl,rfl,rfl,rfl,rfl,rfl,rfl,rfl,rfl,trivial⟩
  ·have kE:k=l.length:=by
    have:¬ k<l.length:=by simpa using kA
    omega
   subst kE;have pG:j+((pl,(⟨f,l⟩:Tm))::syL l 0 pl).length=J:=by rw [take_length] at hJ;rw [hJ,length_cons];omega
   rw [pG,<-hJ];refine aE ?_;refine aS (aR ?_);refine nc ze ?_;exact aT ⟨.inr rfl,_,Wk.refl _,rfl,rfl,rfl,rfl,rfl,trivial⟩
 ·refine a1j Tryz.func120 Tryz.ntmps120 rfl rfl rfl rfl (by kernel_rfl) (by kernel_rfl) ?_;intro w U bE hU;have wQ:U.f 400002=none:=b9J hU (by kernel_rfl);refine aS (aR ?_);refine ne zd (nc ze ?_);refine aS (aS (aR ?_));refine nc zg (nc zh (nc zi ?_));refine aC rfl (fun hc=>?_) (fun hc=>?_)
  ·have hf:f<0:=by simpa using hc
   have e:(sy ⟨f,l⟩ pl).length=0:=by rw [a2v,if_pos hf];rfl
   rw [e,Nat.add_zero];refine aS (aR ?_);refine nc ze ?_;exact aT ⟨.inr rfl,_,Wk.refl _,rfl,rfl,rfl,rfl,rfl,trivial⟩
  have hf:¬ f<0:=by simpa using hc
  have sT:=a2v ⟨f,l⟩ pl;rw [if_neg hf] at sT;rw [sT] at hY |-;refine aK ?_;refine AWp.wk (a7 (s':=(0,AV.sl 400003 0 pl.length 1)::(2,.val (E7 l0))::(4,.bp 4 0 [])::(100004,.bx (Tm.cw ⟨f,l⟩))::(obX (Ls (j)) 400003 pl)) ⟨rfl,rfl,rfl,rfl,rfl,rfl,rfl,rfl,trivial⟩) ?_;have oY:=hY 0 (pl,⟨f,l⟩) rfl 400003 (by simp);refine aS (aS (I9 ?_))
  (refine nxY (AOp.y (aM (gN rfl) rfl rfl rfl rfl rfl)) rfl ?_)
  (refine nxY (AOp.y (aM (gN rfl) rfl rfl rfl rfl rfl)) rfl ?_)
  (refine nxY (AOp.y (aL (gN rfl) rfl rfl rfl rfl rfl rfl rfl rfl rfl rfl rfl rfl)) rfl ?_)
  (refine nxY (a1x (u := .slice none 0 0) 0 (oY) bE (gN rfl) rfl rfl rfl rfl rfl rfl (.inr fun _ _=>rfl) (by repeat (first | exact trivial | refine ⟨rfl,?_⟩)) (by first | rfl | kernel_rfl) (by first | rfl | kernel_rfl) (by first | rfl | kernel_rfl) (i0 (by first | rfl | kernel_rfl)) rfl) rfl ?_)
  (refine nxY (AOp.y (a7U (gN rfl) rfl rfl rfl rfl rfl)) rfl ?_)
  refine aC rfl (fun hc=>by cases hc) (fun hc=>aK ?_);refine AWp.wk (a7 (s':=(0,AV.sl 400003 0 pl.length 1)::(2,.val (E7 l0))::(4,.bp 4 0 [])::(100004,.bx (Tm.cw ⟨f,l⟩))::(obX (Ls (j+1)) 400003 pl)) ⟨rfl,rfl,rfl,rfl,rfl,rfl,rfl,rfl,trivial⟩) ?_;refine aS (aS (aR ?_));refine nc zg (nc zh (nc zo (nc zl ?_)));refine aB (l9 l.length (fun k=>(0,AV.sl 400003 0 pl.length 1)::(2,.val (E7 l0))::(18,.val (.lst (l.map Tm.cv)))::(19,.val (.i (l.map Tm.cv).length))::(20,.val (.i (k)))::(obX (Ls (j+1+(syL (l.take k) 0 pl).length)) 400003 pl)) (a7 ⟨rfl,rfl,rfl,rfl,rfl,?_,?_,?_,rfl,trivial⟩) ?_)
  ·rfl
  ·rfl
  ·rfl
  intro k hk;obtain ⟨J,hJ⟩:∃ J,J=j+1+(syL (l.take k) 0 pl).length:=⟨_,rfl⟩
  refine aS (aR ?_);refine nc zi ?_;refine aS (aC rfl (fun kA=>?_) (fun kA=>?_))
  ·have kE:k<l.length:=by simpa using kA
   obtain ⟨x,hx⟩:∃ x,l[k]?=some x:=⟨l[k],getElem?_eq_getElem kE⟩
   have kU:=Tm.map_at hx;have dG:=mem_of_getElem? hx;have hszs:=a4A hf hx;have kP:syL (l.take (k+1)) 0 pl=syL (l.take k) 0 pl++sy x (pl++[(k:Int)]):=by rw [a4h 0 pl hx,Nat.zero_add]
   have iZ:j+1+(syL (l.take (k+1)) 0 pl).length=J+(sy x (pl++[(k:Int)])).length:=by rw [kP,length_append,hJ];omega
   have kK:=(ih x dG J (pl++[(k:Int)]) (by rw [length_append];simp only [length_cons,length_nil];omega) (fun i y hy X hX=>by
    have h2:=hY (1+(syL (l.take k) 0 pl).length+i) y (b6O hx pl hy) X hX;have e1:j+(1+(syL (l.take k) 0 pl).length+i)=J+i:=by omega
    rw [e1] at h2;exact h2)).1
   have hpe:(pl++[(k:Int)]).length=(pl.map CV.i).length+[CV.i (k:Int)].length:=by simp
   unfold obX at kK;rw [hpe,map_append] at kK;have fU:(pl.map CV.i).length=pl.length:=length_map ..;rw [<-hJ];refine aK ?_;refine aS (aB (aS (aR ?_)));refine nc zl (nc (zt (j:=k) (H:=kU) (hz:=kC)) (nc zu (ne zw (nc ze (nc zx ?_)))));refine AWp.wk (a7 (s':=(7,AV.val (.i (k:Int)))::(8,.bp 8 0 [])::(100008,.bx x.cw)::((0,AV.sl 400003 0 pl.length 1)::(2,.val (E7 l0))::(18,.val (.lst (l.map Tm.cv)))::(19,.val (.i (l.map Tm.cv).length))::(20,.val (.i (k)))::(obX (Ls (J)) 400003 pl))) ⟨rfl,rfl,rfl,rfl,rfl,rfl,rfl,rfl,rfl,rfl,rfl,rfl,trivial⟩) ?_;refine AWp.handle 3 400003 rfl rfl rfl rfl fun ao cap pM aP=>?_;rcases Nat.lt_or_ge (pl.map CV.i).length cap with hroom | hroom
   ·refine aS (aD (by kernel_rfl) (by kernel_rfl) ?_);refine nc zl (nc zl (nc zy (ne (zbI 400002 3 5 (hf:=wQ) (hroom:=hroom)) (nc zj (nc zl (nc (zbJ bE (z:=kK) (G:=i0 (by first | rfl | kernel_rfl))) (nc zZ ?_)))))));refine ⟨by kernel_rfl,?_⟩;refine aC rfl (fun hc=>by cases hc) (fun hc=>aK ?_);refine AWp.wk (a8R 400003 400002 3 5 (pl.map CV.i).length rfl rfl rfl rfl rfl rfl rfl (by simp)) ?_;refine aR ?_;refine nc zA (nc zl ?_);refine ⟨kE,?_⟩;show Wk _ _ _ _ ((0,AV.sl 400003 0 pl.length 1)::(2,.val (E7 l0))::(18,.val (.lst (l.map Tm.cv)))::(19,.val (.i (l.map Tm.cv).length))::(20,.val (.i (((k+1:Nat):Int))))::(obX (Ls (j+1+(syL (l.take (k+1)) 0 pl).length)) 400003 pl));rw [iZ];refine a7 ⟨rfl,rfl,rfl,rfl,rfl,rfl,rfl,rfl,?_,trivial⟩;show some (AV.mrow 3 1 ((pl.map CV.i++[CV.i (k:Int)]).take (pl.map CV.i).length))=_;rw [List.take_left' rfl]
   ·have wE:cap=(pl.map CV.i).length:=by omega
    subst wE;refine aS (aD (by kernel_rfl) (by kernel_rfl) ?_);refine nc zl (nc zl (nc zy (ne (zbK 400002 3 (hf:=wQ)) (nc zj (nc zl (nc (zbJ bE (z:=kK) (G:=i0 (by first | rfl | kernel_rfl))) (nc zZ ?_)))))));refine ⟨by kernel_rfl,?_⟩;refine aC rfl (fun hc=>by cases hc) (fun hc=>aK ?_);refine aR ?_;refine nc zA (nc zl ?_);refine ⟨kE,?_⟩;show Wk _ _ _ _ ((0,AV.sl 400003 0 pl.length 1)::(2,.val (E7 l0))::(18,.val (.lst (l.map Tm.cv)))::(19,.val (.i (l.map Tm.cv).length))::(20,.val (.i (((k+1:Nat):Int))))::(obX (Ls (j+1+(syL (l.take (k+1)) 0 pl).length)) 400003 pl));rw [iZ];exact a7 ⟨rfl,rfl,rfl,rfl,rfl,rfl,rfl,rfl,rfl,trivial⟩
  ·have kE:k=l.length:=by
    have:¬ k<l.length:=by simpa using kA
    omega
   subst kE;have pG:j+((pl,(⟨f,l⟩:Tm))::syL l 0 pl).length=J:=by rw [take_length] at hJ;rw [hJ,length_cons];omega
   rw [pG,<-hJ];refine aE ?_;refine aS (aR ?_);refine nc ze ?_;exact aT ⟨.inr rfl,_,Wk.refl _,rfl,rfl,rfl,rfl,rfl,trivial⟩
theorem a5h (W:World) (t:Tm):AFun Tryz.prog W 91 [t.cw] (.val (.fn 119 0 [.ptr t.cw])):=by
 refine b9 (rs:=[.fn 119 0 [.ptr t.cw]]) Tryz.func91 Tryz.ntmps91 rfl rfl rfl rfl ?_;intro w U hW;refine aS (aR ?_);refine nc zd (nc ze ?_);refine AWp.wk (o9 1 rfl rfl rfl (s':=[]) trivial rfl rfl rfl) ?_;refine aS (aR ?_);refine nc zG (nc ze ?_);exact aT ⟨.inr rfl,rfl⟩
set_option maxHeartbeats 2000000 in
theorem a8d (t:Tm) (kC:t.size<=1000000) (Ls:Nat->List (List Lt)):a0M Tryz.prog 119 [.ptr t.cw] [400002,400003] (fun X x=>b9C X x.1) (fun X x _=>[.sl X 0 x.1.length 1,.val x.2.cw]) (sy t []) (fun k=>obE (Ls k)):=by
 intro Wb Ub l0 hY;have hw:=(b0M Wb Ub l0 Ls t 0 [] (by simpa using kC) (fun i x hx X hX=>by have:=hY i x hx X hX;rw [show 0+i=i by omega];exact this)).1
 rw [Nat.zero_add] at hw;have kK:a0Z Tryz.prog Wb Ub 120 (obE (Ls 0)) [.own (.lst []) 1,.val t.cw,.val (E7 l0)] (.val (.b true)) (obE (Ls (sy t []).length)):=b4c 400002 3 1 (cs:=[t.cw,E7 l0]) rfl rfl (by kernel_rfl) rfl hw;refine a1j Tryz.func119 Tryz.ntmps119 rfl rfl rfl rfl (by kernel_rfl) (by kernel_rfl) ?_;intro w U bE hU;show AWp _ _ _ _ _ _ ((0,AV.val (E7 l0))::(1,.val (.ptr t.cw))::obE (Ls 0));refine aR ?_;refine nc zI (nc zl (nc (zbJ bE (z:=kK) (G:=i0 (by first | rfl | kernel_rfl))) ?_));exact ⟨.inl rfl,_,Wk.refl _,rfl,rfl,rfl,rfl,trivial⟩
theorem a8p (W:World) (a b:Tm) (ha:a.rng/\a.ok/\a.size<=1000000) (hb:b.rng/\b.ok/\b.size<=1000000):AFun Tryz.prog W 38 [a.cw,b.cw] (.val (.b (U6 a b))):=by
 have hk:=fun w=>a9B w a b ha.1 ha.2.1 (by omega) hb.1 hb.2.1 (by omega);obtain ⟨k,gE⟩:∃ k,k=kb a b:=⟨_,rfl⟩
 have he:U6 a b=decide (k=1\/k=2):=by rw [gE];rfl
 rw [<-gE] at hk;rw [he];refine b9 (rs:=[.b (decide (k=1\/k=2))]) Tryz.func38 Tryz.ntmps38 rfl rfl rfl rfl ?_;intro w U hW;refine aS (aR ?_);refine nc zd (nc zd (nc ze ?_));refine aS (aR ?_);refine nc zj (nc zj (nc (zk (z:=hk w)) (nc ze ?_)));by_cases h1:k=1
 ·have g:decide (k=1)=true:=decide_eq_true h1;rw [decide_eq_true (Or.inl h1)];refine aS (aR ?_);refine nc zl (nc zD (nc zl (nc zq (nc zq (nc zp (nc ze ?_))))));exact aT (And.intro (.inr rfl) rfl)
 ·have g:decide (k=1)=false:=decide_eq_false h1;have e:decide (k=1\/k=2)=decide (k=2):=by simp [h1]
  rw [e];refine aS (aR ?_);refine nc zl (nc zD (nc zl (nc (zl (p:=gb)) (nc (zD (r:=gb)) (nc zr (nc ze ?_))))));exact aT (And.intro (.inr rfl) rfl)
theorem a6I (W:World) (a b:Tm):AFun Tryz.prog W 42 [a.cw,b.cw] (.val (.b true)):=by
 refine b9 (rs:=[.b true]) Tryz.func42 Tryz.ntmps42 rfl rfl rfl rfl ?_;intro w U hW;refine aS (aR ?_);refine nc zd (nc zd (nc ze ?_));refine aS (aR ?_);refine nc ze ?_;exact aT (And.intro (.inr rfl) rfl)
def upL (n:Nat):List Int:=(List.range n).map fun (k:Nat)=>(k:Int)
theorem b6u (n:Nat):upL (n+1)=upL n++[(n:Int)]:=by
 unfold upL;rw [List.range_succ,map_append];rfl
theorem a7f (n:Nat):(upL n).length=n:=by unfold upL;simp
end Go.Proofs.YteegmcfobgpemaaGreat
