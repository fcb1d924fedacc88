/-
 SbImg SbApM ClSides ClWith SrtGen ClNmM AbKind CodeMath CodeLen CodePut CodePutMore RefSame CodeRef CodeAlive CodeReadMath CodeRead CodeUint CodeText CodeBackMath ClBy ClCode ClPut ClGet ClGet2 ClA ClB ClNmN EqMath EqWays EqConcat ClSort AbZero ClNmW AbNilF EqUni EqFns EqFac SuWalk SuSym SuWays
-/
import Derived.Test.YteegmcfobgpemaaGreatMg9
import Derived.Test.YteegmcfobgpemaaGreatMg2
import Derived.Test.YteegmcfobgpemaaGreatMg4
import Derived.Test.YteegmcfobgpemaaGreatMg3
import Derived.WalkKit
import Derived.Test.YteegmcfobgpemaaGreatChecked
import Derived.WalkLawsBesides
import Derived.WalkSpells
import Derived.Test.YteegmcfobgpemaaGreatMg1
import Derived.Laws.BitsAllLaws
import Derived.Deep.QuietTactic
import Derived.BigQuiet
import Derived.Laws.BytesArg
import Derived.Test.YteegmcfobgpemaaGreatMg8
import Derived.Test.YteegmcfobgpemaaGreatMg5
namespace Go.Proofs.YteegmcfobgpemaaGreat
open List (all_eq_true append_assoc append_nil cons_append getElem?_eq_getElem length_append length_cons length_map length_nil length_take map_append map_cons mem_append mem_flatMap mem_map mem_of_getElem? nil_append take_add_one take_append_drop take_length)
open Go.RowKit
set_option linter.unusedVariables false
set_option linter.unusedSimpArgs false
set_option maxRecDepth 100000
section
open Go.RowKit Go.MapKept Go.Shelf
attribute [local go_sem] Oper.semAt_some
theorem b9V {P:Program} {w:World} {U:Nat->Nat->Prop} {t kt et:TypeId} {k:IntKind} {i:Int} {l:List CV} {g clock:Nat} {es:Array MapEntry} {val:Value} {c:CV} (hu:P.underlying t=some (.map kt et)) (fB:P.underlying kt=some (.int k)) (g2:w.heap[g]?=some (.map es clock)) (g3:Ents U w l es.toList) (hik:y6 k l) (e3:VRep U w c val) :
  ∃ es' clock',(Instr.mapUpdate t (.map (some g)) (.int k i) val).run P w = .ok () { w with heap:=w.heap.setIfInBounds g (.map es' clock') }/\Ents U w (a2s k i c l) es'.toList:=by
 have dO:=run_checkKey (P:=P) (w:=w) fB (k := .int k i) rfl false 9999;have dX:=Go.MapKept.run_getObj_map (P:=P) g2;obtain ⟨p1,p2'⟩:=Z5 (i:=i) c hik;rcases L3 0 g3 hik (i:=i) with ⟨f1,f2⟩ | ⟨j,e,c',f1,f2,f3,f4,f5,f6⟩
 ·have cZ:=run_findKey (P:=P) (w:=w) fB f1;refine ⟨es.push { key := .int k i,val:=val,born:=clock },clock+1,?_,?_⟩
  ·have nV:=run_setObj_map (P:=P) (Obj.map (es.push { key := .int k i,val:=val,born:=clock }) (clock+1)) g2;simp [Instr.mapUpdate,run_underlying hu,dX,dO,cZ,nV]
  ·rw [p1 f2,Array.toList_push];exact a1P g3 ⟨.sc (.int k i),c,rfl,rfl,rfl,e3⟩
 ·have cZ:=run_findKey (P:=P) (w:=w) fB f1;rw [Nat.zero_add] at cZ;have gJ:j<es.size:=by have:=(List.getElem?_eq_some_iff.1 f2).1;simpa using this
  have uZ:es[j]?=some e:=by rw [<-Array.getElem?_toList];exact f2
  have pY:(es.modify j fun e=>{ e with key := .int k i,val:=val }).toList=es.toList.set j { e with key := .int k i,val:=val }:=by
   rw [Array.toList_modify];apply List.ext_getElem?;intro q;rw [List.getElem?_modify,List.getElem?_set];by_cases hq:j=q
   ·subst hq;have:es[j]=e:=(Array.getElem?_eq_some_iff.1 uZ).2;simp [gJ,this]
   ·simp [hq]
  refine ⟨es.modify j fun e=>{ e with key := .int k i,val:=val },clock,?_,?_⟩
  ·have nV:=run_setObj_map (P:=P) (Obj.map (es.modify j fun e=>{ e with key := .int k i,val:=val }) clock) g2;have dD:(Instr.keyThatStays (.int k i) (.int k i)).run P w = .ok (.int k i) w:=by simp [Instr.keyThatStays,Instr.sameBits]
   simp [Instr.mapUpdate,run_underlying hu,dX,dO,cZ,nV,uZ,f5,dD]
  ·rw [pY,p2' j c' f3 (a0v 0 (j:=j) g3 hik f1)];exact a4D g3 ⟨.sc (.int k i),c,rfl,rfl,rfl,e3⟩
theorem a2N {F:Fence} {nF:Nat} {P:Program} (w:World) {ops:Array Oper} {rest:List Oper} {o:Oper} {a:Act} {Q:Exit->Act->World->Prop}
  (hg:o.guard=none) (m x v:Operand) (t:TypeId) (rL:o.op=Op.mapUpdate t m x v) {mv key val:Value} (hm:a.eval m=mv) (hx:a.eval x=key) (hv:a.eval v=val) {w':World} (kZ:(Instr.mapUpdate t mv key val).run P w = .ok () w')
  (hK:wpListIn F nF P ops Q rest (a.put o.dst undef) w'):wpListIn F nF P ops Q (o::rest) a w:=by
 refine wpListIn_plain hg fun K' hK'=>?_;unfold Oper.wpIn;refine ⟨by simp [Oper.about,rL],?_⟩;rw [Oper.semAt_plain F _ _ (by rw [rL];intro c uY;cases uY)];simp [execOp,rL,hm,hx,hv,kZ,Result.andThen];exact hK' _ _ hK
theorem b0X (ao:Option Addr) (n c:Nat) (w:World) :
  CallsIn Fence.wide 2 Tryz.prog 127 #[.slice ao n c] w fun e w'=>e = .returned (.func (.func 162) #[] #[.pointer (some ⟨w.heap.size,0,none⟩)])/\w'=w.alloc (.cells #[.slice ao n c] 99):=by
 refine callsIn_of_wp Tryz.func127 rfl trivial ?_ rfl;simp only [Tryz.ntmps127,List.size_toArray,length_cons,length_nil,Nat.reduceAdd,Nat.reduceSub,Array.replicate_succ,Array.replicate_zero,List.push_toArray,List.append_toArray,nil_append,cons_append]
 gi_wp2
 go_ret
 exact ⟨rfl,rfl⟩
theorem b3f {R:Nat->Nat->Prop} {w:World} {b:Bd} {u0 u1 u2:Value} (h:VRep R w b.cw (.agg #[u0,u1,u2])):u0 = .int .i64 b.v/\VRep R w b.t.cw (.agg #[u1,u2]):=by
 obtain ⟨xs,e,h1⟩:=E8.1 h;have eV:xs=[u0,u1,u2]:=by injection e with e;have:=congrArg Array.toList e;simpa using this.symm
 subst eV;obtain ⟨us,bs,e1,k1,us',bs',e2,k3,k4⟩:=h1;have fV:us=[.int .i64 b.v]:=(K0.1 k1).1;have eR:bs'=[]:=k4;subst fV;subst eR;subst e2;simp at e1;obtain ⟨e3,e4⟩:=e1;subst e4;exact ⟨e3,_,rfl,k3⟩
theorem a4L {R:Nat->Nat->Prop} {w:World} {t:Tm} {u1 u2:Value} (h:VRep R w t.cw (.agg #[u1,u2])):u1 = .int .i64 t.f/\∃ a m c,u2 = .slice a m c:=by
 obtain ⟨xs,e,h1⟩:=E8.1 h;have eV:xs=[u1,u2]:=by injection e with e;have:=congrArg Array.toList e;simpa using this.symm
 subst eV;obtain ⟨us,bs,e1,k1,us',bs',e2,k3,k4⟩:=h1;have fV:us=[.int .i64 t.f]:=(K0.1 k1).1;have eR:bs'=[]:=k4;subst fV;subst eR;subst e2;simp at e1;obtain ⟨e3,e4⟩:=e1;subst e4;obtain ⟨a,m,c,e5,_⟩:=N1.1 k3;simp at e5;exact ⟨e3,a,m,c,e5⟩
theorem a8J {α:Type} {P:Program} {gf:Nat} {lb:Array Value} {encs encs':α->Array Value} {Ok:List α->α->World->Prop} {Kp:World->World->Prop} {S:List α->Prop} {w:World} (he:∀ pre x V,Ok pre x V->encs x=encs' x) (h:a2J P gf lb encs Ok Kp S w):a2J P gf lb encs' Ok Kp S w:=
 fun l J W hW hJ hY h0=>h l J W hW hJ (fun pre x V hj kH=>by rw [he pre x V kH];exact hY pre x V hj kH) h0
theorem a8M {R:Nat->Nat->Prop} {w:World} {L:List Bd} {Bb ob n:Nat} {ao:Option Addr} {cap:Nat} (hn:n=L.length) (hl:L.length<=1000000000) (dQ:w.cell? ⟨Bb,ob,none⟩=some (.slice ao n cap)) (qD:R Bb ob) (hv:VRep R w (.lst (L.map Bd.cv)) (.slice ao L.length cap)) :
  ∃ (v f:Nat->Int) (a:Nat->Option Addr) (m c:Nat->Nat),(∀ x b,x<n->L[n-1-x]?=some b->VRep R w b.cw (.agg #[.int .i64 (v x),.int .i64 (f x),.slice (a x) (m x) (c x)])) /\
   a2J Tryz.prog 162 #[.pointer (some ⟨Bb,ob,none⟩)] (fun x:Nat => #[.int .i64 ((n:Int)-1-x),.agg #[.int .i64 (v x),.int .i64 (f x),.slice (a x) (m x) (c x)]]) (fun pre x _=>x=pre.length/\x<n) (KpX w.heap.size fun b=>¬ ∃ o,R b o) (fun ys=>ys=List.range n) w:=by
 subst hn;obtain ⟨c0,c1,c2,hc,hG⟩:=a8S hl dQ qD hv;have hx:∀ x:Nat,∃ (q:Int×Int×Option Addr×Nat×Nat),x<L.length->c0 (L.length-1-x) = .int .i64 q.1/\c1 (L.length-1-x) = .int .i64 q.2.1/\c2 (L.length-1-x) = .slice q.2.2.1 q.2.2.2.1 q.2.2.2.2:=fun x=>by
  by_cases h:x<L.length
  ·obtain ⟨bd,bP⟩:∃ bd,L[L.length-1-x]?=some bd:=⟨L[L.length-1-x]'(by omega),getElem?_eq_getElem _⟩
   obtain ⟨g0,g1⟩:=b3f (hc _ _ bP);obtain ⟨g2,a,m,c,g3⟩:=a4L g1;exact ⟨⟨bd.v,bd.t.f,a,m,c⟩,fun _=>⟨g0,g2,g3⟩⟩
  ·exact ⟨⟨0,0,none,0,0⟩,fun h2=>absurd h2 h⟩
 obtain ⟨q,hq⟩:∃ q:Nat->Int×Int×Option Addr×Nat×Nat,∀ x:Nat,x<L.length->c0 (L.length-1-x) = .int .i64 (q x).1/\c1 (L.length-1-x) = .int .i64 (q x).2.1/\c2 (L.length-1-x) = .slice (q x).2.2.1 (q x).2.2.2.1 (q x).2.2.2.2:=⟨fun x=>(hx x).choose,fun x=>(hx x).choose_spec⟩
 clear hx;refine ⟨fun x=>(q x).1,fun x=>(q x).2.1,fun x=>(q x).2.2.1,fun x=>(q x).2.2.2.1,fun x=>(q x).2.2.2.2,fun x b lK hb=>?_,a8J (fun pre x V kH=>?_) hG⟩
 ·obtain ⟨g1,g2,g3⟩:=hq x lK;have:=hc _ _ hb;rw [g1,g2,g3] at this;exact this
 ·obtain ⟨g1,g2,g3⟩:=hq x kH.2;rw [g1,g2,g3]
def ImR (w:World) (R:Nat->Nat->Prop) (b o:Nat):Prop:=(R b o/\b<w.heap.size)\/b=w.heap.size+1+1
def ImI (w wl:World) (R:Nat->Nat->Prop) (L:List Bd) (k:Nat) (W:World):Prop:=
 W.heap[w.heap.size+1]?=some (.cells #[.map (some w.heap.size)] 166 (0,0))/\(∃ es clock,W.heap[w.heap.size]?=some (.map es clock)/\Ents (ImR w R) W ((a4c L k).map imR) es.toList)/\Below w.heap.size w W/\w.heap.size+3<=W.heap.size/\KpX (w.heap.size+3) (fun b=>¬ ∃ o,ImR w R b o) wl W
theorem a5B {w:World} {R:Nat->Nat->Prop} {b o:Nat} (h:ImR w R b o):b<w.heap.size+3/\b≠w.heap.size:=by
 rcases h with h | h
 ·have:=h.2;omega
 ·omega
theorem ImI.up {w wl:World} {R:Nat->Nat->Prop} {L:List Bd} {k:Nat} {W W':World} (h:ImI w wl R L k W) (hb:∀ b,b<w.heap.size+3->W'.heap[b]?=W.heap[b]?) (hB:Below w.heap.size W W'):ImI w wl R L k W':=by
 obtain ⟨h1,⟨es,clock,h2,h3⟩,h4,h5,h6⟩:=h;refine ⟨by rw [hb _ (by omega)];exact h1,⟨es,clock,by rw [hb _ (by omega)];exact h2,h3.keep fun b o u hu hc=>⟨hu,?_⟩⟩,h4.trans hB,Nat.le_trans h5 hB.size,fun b hb' hx=>(hb b hb').trans (h6 b hb' hx)⟩;rw [World.cell?_of_block (w:=W) (hb b (a5B hu).1)];exact hc
theorem ImI.put {w wl:World} {R:Nat->Nat->Prop} {L:List Bd} {k:Nat} {W:World} (h:ImI w wl R L k W) {bd:Bd} (bP:L[L.length-1-k]?=some bd) (hk:k<L.length) {es:Array MapEntry} {clock:Nat} (hE:Ents (ImR w R) W (a2s .i64 bd.v bd.t.cw ((a4c L k).map imR)) es.toList):ImI w wl R L (k+1) { W with heap:=W.heap.setIfInBounds w.heap.size (.map es clock) }:=by
 obtain ⟨h1,⟨es0,clock0,h2,h3⟩,h4,h5,h6⟩:=h;obtain ⟨q1,q2⟩:=heap_set (o':=Obj.map es clock) h2;have hE:Ents (ImR w R) W ((a4c L (k+1)).map imR) es.toList:=by rw [b4d bP hk,<-b0u];exact hE
 refine ⟨by rw [q2 _ (by omega)];exact h1,⟨es,clock,q1,hE.keep fun b o u hu hc=>⟨hu,?_⟩⟩,⟨h4.os,h4.tape,h4.output,by simpa using h4.size,fun b hb=>(q2 b (by omega)).trans (h4.block b hb)⟩,by simpa using h5,fun b hb' hx=>?_⟩
 ·rw [World.cell?_of_block (w:=W) (q2 b (a5B hu).2)];exact hc
 ·obtain ⟨o,ho⟩:=Classical.not_not.1 hx;exact (q2 b (a5B ho).2).trans (h6 b hb' hx)
set_option maxRecDepth 100000 in
set_option maxHeartbeats 4000000 in
theorem b4H (L:List Bd) {R:Nat->Nat->Prop} {w:World} {ao:Option Addr} {n cap:Nat} (hn:n=L.length) (hv:VRep R w (.lst (L.map Bd.cv)) (.slice ao L.length cap)) (h64:64<n) (hl:n<=1000000000) :
  CallsIn Fence.wide 3 Tryz.prog 93 #[.slice ao n cap] w fun e W'=>∃ b g,e = .returned (.func (.func 128) #[] #[.pointer (some ⟨b,0,none⟩)])/\a9x b g ((a4c L L.length).map imR) (fun b o=>R b o\/w.heap.size<=b) W'/\Below w.heap.size w W':=by
 have yW:∀ w:World,Sem.run Tryz.prog (Instr.makeMap 166 (some (.int .i64 (n:Int)))) w = .ok (.map (some w.heap.size)) (w.alloc (.map #[] 0)):=fun w=>by simp [Instr.makeMap,run_underlying Tryz.underlying166,asInt,asIntOf,run_newObj_alloc]
 have HL:=hid hn;have HV:=hid hv;clear hn hv;refine callsIn_of_wp_marks Tryz.func93 rfl trivial ?_ rfl;simp only [Tryz.ntmps93,List.size_toArray,length_cons,length_nil,Nat.reduceAdd,Nat.reduceSub,Array.replicate_succ,Array.replicate_zero,List.push_toArray,List.append_toArray,nil_append,cons_append]
 gi_wp2_with (refine ⟨trivial,?_⟩;gi_at_call 127;refine (b0X _ _ _ _).mono ?_;rintro e w' ⟨rfl,rfl⟩)
 obtain ⟨w1,dW⟩:∃ w1,w1=w.alloc (.map #[] 0):=⟨_,rfl⟩
 obtain ⟨w2,mV⟩:∃ w2,w2=w1.alloc (.cells #[.map (some w.heap.size)] 166):=⟨_,rfl⟩
 obtain ⟨wl,eQ⟩:∃ wl,wl=w2.alloc (.cells #[.slice ao n cap] 99):=⟨_,rfl⟩
 have s1:w1.heap.size=w.heap.size+1:=by rw [dW];simp
 have s2:w2.heap.size=w.heap.size+1+1:=by rw [mV];simp;omega
 have kC:wl.heap.size=w.heap.size+3:=by rw [eQ];simp;omega
 have k1:Below w.heap.size w w1:=by rw [dW];exact bA (bW _) _
 have k2:Below w1.heap.size w1 w2:=by rw [mV];exact bA (bW _) _
 have k3:Below w2.heap.size w2 wl:=by rw [eQ];exact bA (bW _) _
 have lR:Below w.heap.size w wl:=bN (bN k1 k2) k3;have fR:wl.cell? ⟨w.heap.size+1+1,0,none⟩=some (.slice ao n cap):=by
  have:wl.heap[w.heap.size+1+1]?=some (.cells #[.slice ao n cap] 99 (0,0)):=by rw [eQ,<-s2];exact World.alloc_heap_new _ _
  simp [World.cell?,this]
 have qQ:ImI w wl R L 0 wl:=by
  refine ⟨?_,⟨#[],0,?_,rfl⟩,lR,by omega,fun b hb hx=>rfl⟩
  ·rw [k3.block _ (by omega),mV,<-s1];exact World.alloc_heap_new _ _
  ·rw [k3.block _ (by omega),k2.block _ (by omega),dW];exact World.alloc_heap_new _ _
 have kG:VRep (ImR w R) wl (.lst (L.map Bd.cv)) (.slice ao L.length cap):=HV.out.keep fun b o u hu hc=>by have kA:=World.block_lt_of_cell? w _ hc;refine ⟨.inl ⟨hu,kA⟩,?_⟩;rw [World.cell?_of_block (w:=w) (lR.block b kA)];exact hc
 obtain ⟨zv,zf,za,zm,zc,hc,hG⟩:=a8M (R:=ImR w R) (w:=wl) (L:=L) (Bb:=w.heap.size+1+1) (ob:=0) HL.out (by have:=HL.out;omega) fR (.inr rfl) kG;rw [<-dW,<-mV,<-eQ];clear eQ dW mV s1 s2 k1 k2 k3 kG fR yW;refine a2v (gf:=162) (lb := #[.pointer (some ⟨w.heap.size+1+1,0,none⟩)]) rfl (enters_of Tryz.func162 (by kernel_rfl) rfl)
  hG (fun {A B C} h1 h2 b hb hx=>(h2 b hb hx).trans (h1 b hb hx)) (fun W l o o' hl h ho b hb hx=>World.putObj_heap_other (by omega)) (fun pre x W l o o' hl hx h ho=>hx) (fun x=>rfl)
  (fun pre W=>ImI w wl R L pre.length W) (fun pre A B h hb=>h.up (fun b hb'=>hb.block b (by have:=h.2.2.2.1;omega)) ⟨hb.os,hb.tape,hb.output,hb.size,fun b hb'=>hb.block b (by have:=h.2.2.2.1;omega)⟩) (fun pre A l o o' h hl h1 h2=>h.up (fun b hb'=>World.putObj_heap_other (by omega)) (L8 o' (by omega) h1 h2).1) qQ
  (fun x b=>{ tmps := #[.slice ao n cap,undef,.nilFunc,.pointer (some ⟨w.heap.size+1,0,none⟩),undef,.pointer (some ⟨b,0,none⟩),.slice ao n cap,.int .i64 n,.bool (decide ((n:Int)<=64)),undef,undef,.slice ao n cap,.int .i64 n,.map (some w.heap.size),.slice ao n cap,.func (.func 162) #[] #[.pointer (some ⟨w.heap.size+1+1,0,none⟩)],.int .i64 ((n:Int)-1-x),.agg #[.int .i64 (zv x),.int .i64 (zf x),.slice (za x) (zm x) (zc x)],undef,undef,undef,undef,undef,undef],defers:=[] })
  (fun x => .cells #[.int .i64 (zv x),.int .i64 (zf x),.slice (za x) (zm x) (zc x)] 112 (0,0)) (fun V x hV b hb hx=>(bA (bW V) _).block b (by omega)) (fun pre x V hx=>hx) ?assign ?body ?done
 case assign =>
  intro l x W K hK
  gi_wp2
  exact hK
 case body =>
  rintro l pre x W b hb eG hI ⟨hx,lK⟩;obtain ⟨bd,bP⟩:∃ bd,L[n-1-x]?=some bd:=⟨L[n-1-x]'(by have:=HL.out;omega),getElem?_eq_getElem _⟩
  obtain ⟨g0,g1⟩:=b3f (hc _ _ lK bP);have hvW:VRep (ImR w R) W bd.t.cw (.agg #[.int .i64 (zf x),.slice (za x) (zm x) (zc x)]):=by
   refine g1.keep fun b o u hu vN=>⟨hu,?_⟩
   rw [World.cell?_of_block (w:=wl) (hI.2.2.2.2 b (a5B hu).1 fun hn=>hn ⟨o,hu⟩)];exact vN
  rw [g0] at eG;rw [g0];have HI:=hid hI;obtain ⟨i1,⟨es,clock,i2,i3⟩,i4,i5,i6⟩:=hI;obtain ⟨es',clock',kZ,hE⟩:=b9V (P:=Tryz.prog) (t:=166) (k := .i64) (i:=bd.v) Tryz.underlying166 Tryz.underlying3 i2 i3 (a4y _) hvW;have e0:W.cell? ⟨b,0,none⟩=some (.int .i64 bd.v):=by simp [World.cell?,eG]
  have e1:W.cell? ⟨b,1,none⟩=some (.int .i64 (zf x)):=by simp [World.cell?,eG]
  have e2:W.cell? ⟨b,2,none⟩=some (.slice (za x) (zm x) (zc x)):=by simp [World.cell?,eG]
  have em:W.cell? ⟨w.heap.size+1,0,none⟩=some (.map (some w.heap.size)):=by simp [World.cell?,i1]
  have HX:Hid (x=pre.length/\x<n):=⟨hx,lK⟩
  have HB:=hid bP;have HE:=hid hE;have H2:=hid i2;clear hx lK bP hE i1 i2 i3 i4 i6 hc hG qQ g0 g1 hvW eG
  gi_wp2_with (gi_at_mapUpdate;refine a2N _ rfl _ _ _ 166 rfl rfl rfl rfl kZ ?_)
  obtain ⟨hx,lK⟩:=HX.out;obtain ⟨q1,q2⟩:=heap_set (o':=Obj.map es' clock') H2.out;refine ⟨⟨by simp,fun g o wQ oX ho=>by rw [q2 g (by omega)];exact oX⟩,fun b hb hx=>?_,?_⟩
  ·obtain ⟨o,ho⟩:=Classical.not_not.1 hx;exact q2 b (a5B ho).2
  ·rw [length_append];have hB2:=HB.out;rw [HL.out,hx] at hB2;exact ImI.put HI.out hB2 (by have:=HL.out;omega) HE.out
 case done =>
  rintro D xs W hD hS hI hK
  gi_wp2
  refine ⟨by simp,.inl ⟨_,_,rfl,run_takeDeferred hK,?_⟩⟩;have fG:=hI.up (W':=W.putObj D (.deferred none)) (fun b hb'=>World.putObj_heap_other (by omega)) (L8 _ (by omega) hK rfl).1;rw [hS,List.length_range,HL.out] at fG;obtain ⟨j1,⟨es,clock,j2,j3⟩,j4,_,_⟩:=fG;refine ⟨_,results_tmp rfl _ _ _,w.heap.size+1,w.heap.size,rfl,⟨by simp [World.cell?,j1],es,clock,j2,j3.keep fun b o u hu hc=>⟨?_,hc⟩⟩,j4⟩;rcases hu with h | h
  ·exact .inl h.1
  ·exact .inr (by omega)
theorem b0G {P:Program} (w:World) {ops:Array Oper} {o:Oper} {a:Act} {K:Act->World->Prop} {Q:Exit->Act->World->Prop} {E:Prop} (mW:Region.wanted o (yielded ops a.tmps)=true) (f:Nat) (x y:Operand) (ts:Array TypeId)
  (ho:o.op = .call { callee := .value (.func f),args := #[x,y],argTypes:=ts }) (eg:∀ args w,(callFunc f args).run P w = .ok (.enter f args) w) (v u:Value) (hx:a.eval x=v) (hy:a.eval y=u) {R:Ending->World->Prop} (hc:Calls P f #[v,u] w R) (h:∀ e w',R e w'->∃ u,e = .returned u/\K (a.put o.dst u) w') :
  if Region.wanted o (yielded ops a.tmps)=true then Oper.wp P o a w K Q else E:=by
 rw [if_pos mW];unfold Oper.wp;have he:(execOp a.eval o).run P w = .ok (.enter f #[v,u]) w:=by have hf:a.eval (.func f) = .func (.func f) #[] #[]:=rfl;generalize a.eval=ρ at hf hx hy |-;simp [execOp,ho,resolve,invoke,Deferred.ofValue,hf,hx,hy,eg]
 rw [he,Oper.upon_enter];refine hc.mono ?_;rintro e w' hr;obtain ⟨u,rfl,hk⟩:=h e w' hr;exact hk
theorem a8O {tmps:Array Value} {w:World} {g:Nat} {x y:Value} (hp:tmps.getD 4 undef = .pointer (some ⟨g,0,none⟩)) (hg:w.heap[g]?=some (.cells #[x,y] 41 (0,0))) :
  (results Tryz.f66 tmps).run Tryz.prog w = .ok (.agg #[x,y]) w:=by
 have oV:tmps[4]?.getD undef = .pointer (some ⟨g,0,none⟩):=by simpa using hp
 simp [results,oV,asAddr,run_loadVar_row w g _ 41 #[x,y] (0,0) _ hg Tryz.underlying41 rfl a0J]
set_option maxRecDepth 100000 in
set_option maxHeartbeats 4000000 in
theorem b0O (W:World) (L:List Bd) (t:Tm) (hl:64<L.length) (kL:L.length<=1000000000) (hb:bdsOk L) (hr:t.rng) (kH:t.ok):AFun Tryz.prog W 66 [.lst (L.map Bd.cv),t.cw] (.val (a8 (i7 L) t).cw):=by
 refine ⟨x9 Tryz.func66 rfl rfl,.inl rfl,rfl,fun U w vs _ hv=>?_⟩;obtain ⟨sv,vs1,rfl,gB,tv,vs2,rfl,gI,mO⟩:=hv;have mO:vs2=[]:=mO;subst mO;obtain ⟨ao,n,cap,e1,e2,_⟩:=l5.1 gB;subst e1;rw [length_map] at e2;obtain ⟨xs,e3,uA⟩:=E8.1 gI;obtain ⟨u1,u2,rfl⟩:∃ u1 u2,xs=[u1,u2]:=by
  have h3:xs.length=2:=(I4.2 uA).len
  match xs,h3 with
  | [u1,u2],_=>exact ⟨u1,u2,rfl⟩
 subst e3;obtain ⟨g1,ta,tm,tc,g2⟩:=a4L gI;subst g1;subst g2;have wY:VRep U w (.lst (L.map Bd.cv)) (.slice ao L.length cap):=by rw [<-e2];exact gB
 have HImg:Hid (∀ V:World,Below w.heap.size w V->w.heap.size+2<=V.heap.size->Calls Tryz.prog 93 #[.slice ao n cap] V fun e W'=>∃ b g,e = .returned (.func (.func 128) #[] #[.pointer (some ⟨b,0,none⟩)])/\a9x b g ((a4c L L.length).map imR) (fun b o=>(U b o/\b<w.heap.size)\/w.heap.size+2<=b) W'/\Below V.heap.size V W'):=fun V hV hV2 =>
  Calls.mono (callsIn_wide.1 (b4H (R:=fun b o=>U b o/\b<w.heap.size) L e2 (wY.keep fun b o u hu hc=>⟨⟨hu,World.block_lt_of_cell? w _ hc⟩,by
   rw [World.cell?_of_block (w:=w) (hV.block b (World.block_lt_of_cell? w _ hc))];exact hc⟩) (by omega) (by omega))) fun e W' ⟨b,g,k1,⟨k2,es,ck,k3,k4⟩,k5⟩=>⟨b,g,k1,⟨k2,es,ck,k3,k4.keep fun b o u hu hc=>⟨hu.imp id fun h=>by omega,hc⟩⟩,k5⟩
 have HRep:Hid (∀ (V:World) (b g:Nat),Below w.heap.size w V->w.heap.size+2<=V.heap.size->a9x b g ((a4c L L.length).map imR) (fun b o=>(U b o/\b<w.heap.size)\/w.heap.size+2<=b) V->Calls Tryz.prog 71 #[.agg #[.int .i64 t.f,.slice ta tm tc],.func (.func 128) #[] #[.pointer (some ⟨b,0,none⟩)]] V fun e W'=>∃ a m c,e = .returned (.agg #[.int .i64 (a8 (i7 L) t).f,.slice a m c])/\VRep (fun b o=>(U b o/\b<w.heap.size)\/w.heap.size+2<=b) W' (a8 (i7 L) t).cw (.agg #[.int .i64 (a8 (i7 L) t).f,.slice a m c])/\Below V.heap.size V W'):=fun V b g hV hV2 hq=>by
  have hI:∀ v,0<=v->v<=9223372036854775807->a8k Tryz.prog (a9x b g ((a4c L L.length).map imR)) (.fn 128 0 [.sc (.pointer (some ⟨b,0,none⟩))]) [.i v] (.val (i7 L v).cw)/\(i7 L v).rng/\(i7 L v).size<=90000000000:=fun v h1 h2=>by refine ⟨⟨_,_,_,rfl,?_⟩,a7Y hb h1 h2⟩;have h3:=b6w b g (a4c L L.length) v h1 h2;rw [show i7 (a4c L L.length) v=i7 L v by unfold i7;rw [b3J]] at h3;exact h3
  have h4:=(a6Y (a3o b g _) _ (i7 L) hI t hr kH).2.2.2 (fun b o=>(U b o/\b<w.heap.size)\/w.heap.size+2<=b) V [.agg #[.int .i64 t.f,.slice ta tm tc],.func (.func 128) #[] #[.pointer (some ⟨b,0,none⟩)]] hq ⟨_,_,rfl,gI.keep fun b o u hu hc=>⟨.inl ⟨hu,World.block_lt_of_cell? w _ hc⟩,by
   rw [World.cell?_of_block (w:=w) (hV.block b (World.block_lt_of_cell? w _ hc))];exact hc⟩,_,_,rfl,T9.2 ⟨[],[.pointer (some ⟨b,0,none⟩)],rfl,rfl,⟨[_],[],rfl,K0.2 ⟨rfl,rfl⟩,rfl⟩,fun c hc=>by simp at hc;subst hc;simp [CV.sc]⟩,rfl⟩
  refine Calls.mono h4 ?_;rintro e W' ⟨v,rfl,hR,hB⟩;have hR:VRep (fun b o=>((U b o/\b<w.heap.size)\/w.heap.size+2<=b)\/V.heap.size<=b) W' (a8 (i7 L) t).cw v:=hR;have hR:=hR.keep (V:=fun b o=>(U b o/\b<w.heap.size)\/w.heap.size+2<=b) (w':=W') fun b o u hu hc=>⟨hu.elim id fun h => .inr (by omega),hc⟩
  obtain ⟨xs,e3,uA⟩:=E8.1 hR;obtain ⟨u1,u2,rfl⟩:∃ u1 u2,xs=[u1,u2]:=by
   have h3:xs.length=2:=(I4.2 uA).len
   match xs,h3 with
   | [u1,u2],_=>exact ⟨u1,u2,rfl⟩
  subst e3;obtain ⟨g1,a,m,c,g2⟩:=a4L hR;subst g1;subst g2;exact ⟨a,m,c,rfl,hR,hB⟩
 clear gB wY gI uA hb hr kH hl kL e2;show Calls Tryz.prog 66 #[.slice ao n cap,.agg #[.int .i64 t.f,.slice ta tm tc]] w _;refine calls_of_wp Tryz.func66 rfl ?_;simp only [Tryz.ntmps66,List.size_toArray,length_cons,length_nil,Nat.reduceAdd,Nat.reduceSub,Array.replicate_succ,Array.replicate_zero,List.push_toArray,List.append_toArray,nil_append,cons_append]
 go_wp2_with fail
 obtain ⟨w2,mV⟩:∃ w2,w2=(w.alloc (.cells #[.int .i64 t.f,.slice ta tm tc] 41)).alloc (.cells #[.int .i64 0,.slice none 0 0] 41):=⟨_,rfl⟩
 have kC:w2.heap.size=w.heap.size+2:=by rw [mV];simp
 have gV:Below w.heap.size w w2:=by rw [mV];exact bA (bA (bW _) _) _
 have y1:w2.heap[w.heap.size]?=some (.cells #[.int .i64 t.f,.slice ta tm tc] 41 (0,0)):=by rw [mV,Below.heap_alloc _ _ _ (by simp)];exact World.alloc_heap_new _ _
 have y2:w2.heap[w.heap.size+1]?=some (.cells #[.int .i64 0,.slice none 0 0] 41 (0,0)):=by rw [mV,show w.heap.size+1=(w.alloc (.cells #[.int .i64 t.f,.slice ta tm tc] 41)).heap.size by simp];exact World.alloc_heap_new _ _
 have hs3:w2.drew.heap.size=w.heap.size+2:=kC;have dV:Below w.heap.size w w2.drew:=gV.drew;have HB3:=hid dV;have HY1:=hid (show w2.drew.heap[w.heap.size]?=_ from y1);have HY2:=hid (show w2.drew.heap[w.heap.size+1]?=_ from y2);obtain ⟨d1,d2⟩:=b4X (show w2.drew.heap[w.heap.size]?=_ from y1);rw [<-mV];clear mV gV dV y1 y2
 go_region_law (first
  | (refine b3N _ rfl 93 _ _ rfl (enters_of Tryz.func93 (by kernel_rfl) rfl) (.slice ao n cap) rfl (HImg.out _ HB3.out (by omega)) ?_;rintro e w5 ⟨b,g,rfl,hq5,sW⟩;refine ⟨_,rfl,?_⟩;have hB5:Below w.heap.size w w5:=HB3.out.trans (sW.mono (by omega));have hs5:=sW.size;have x2:=(sW.block _ (by omega)).trans HY2.out;obtain ⟨f1,f2⟩:=b4X ((sW.block _ (by omega)).trans HY1.out))
  | (refine b0G _ rfl 71 _ _ _ rfl (enters_of Tryz.func71 (by kernel_rfl) rfl) (.agg #[.int .i64 t.f,.slice ta tm tc]) (.func (.func 128) #[] #[.pointer (some ⟨b,0,none⟩)]) rfl rfl (HRep.out _ b g hB5 (by omega) hq5) ?_;rintro e w6 ⟨a6,m6,c6,rfl,hR6,hb6⟩;refine ⟨_,rfl,?_⟩;have hB6:Below w.heap.size w w6:=hB5.trans (hb6.mono (by omega));have z6:=(hb6.block _ (by omega)).trans x2;obtain ⟨f3,f4⟩:=b4X z6;obtain ⟨f5,f6⟩:=a3x z6))
 all_goals go_wp2_with fail
 all_goals refine bodyPost_ret (a8O (g:=w.heap.size+1) rfl (a6J z6 _ _)) rfl ?_
 all_goals refine ⟨_,rfl,?_,(hB6.setCell (p:=⟨w.heap.size+1,0,none⟩) (by show w.heap.size<=w.heap.size+1;omega) _).setCell (p:=⟨w.heap.size+1,1,none⟩) (by show w.heap.size<=w.heap.size+1;omega) _⟩
 all_goals refine VRep.keep (fun b' o u hu hc=>⟨hu.elim (fun h => .inl h.1) (fun h => .inr (by omega)),?_⟩) hR6
 all_goals have kE:b'≠w.heap.size+1:=by rcases hu with h | h<;>omega
 all_goals rw [World.cell?_of_block (w:=w6) (by rw [Below.heap_setCell _ _ _ _ kE,Below.heap_setCell _ _ _ _ kE])]
 all_goals exact hc
theorem a3S (W:World) (L:List Bd) (t:Tm) (hl:L.length<=1000000000) (hb:bdsOk L) (hr:t.rng) (kH:t.ok):AFun Tryz.prog W 66 [.lst (L.map Bd.cv),t.cw] (.val (a8 (i7 L) t).cw):=by
 by_cases h:L.length<=64
 ·exact b3G W L t h hb hr kH
 ·exact b0O W L t (by omega) hl hb hr kH
end
def G2 (c:List Lt):List Tm:=c.flatMap fun l=>[l.a,l.b]
theorem b4c (c:List Lt) (l:Lt):G2 (c++[l])=G2 c++[l.a,l.b]:=by simp [G2]
theorem b0e (c:List Lt):(G2 c).length=2*c.length:=by
 induction c with
 | nil=>rfl
 | cons l c ih =>
  have:G2 (l::c)=l.a::l.b::G2 c:=rfl;rw [this];simp only [length_cons,ih];omega
theorem b3Q (c:List Lt) (k:Nat):(G2 (c.take k)).length<=2*c.length:=by
 rw [b0e,length_take];omega
theorem a4k (W:World) (c:List Lt) (hn:c.length<=1000000):AFun Tryz.prog W 47 [.lst (c.map Lt.cv)] (.val (Tm.cw ⟨0,G2 c⟩)):=by
 have kC:=Lt.size_all c;refine c9 (rs:=[Tm.cw ⟨0,G2 c⟩]) Tryz.func47 Tryz.ntmps47 rfl rfl rfl rfl ?_;intro w U hW;refine aS (aR ?_);refine nc zw ?_;refine aS (aR ?_);refine nc ze ?_;refine aS (aS (aR ?_));refine nc zl (nc zo (nc zl ?_));refine aB (n5 c.length (fun k=>[(2,.bp 2 0 []),(100002,⟨5,.row [.i 0,.lst []],1,0,[1]⟩),(3,.own (.lst ((G2 (c.take k)).map Tm.cv)) 200018),(200018,.tok 41 2),(6,.val (.lst (c.map Lt.cv))),(7,.val (.i (c.map Lt.cv).length)),(8,.val (.i k))])
  ((R7 3 200018 41 2 rfl rfl rfl rfl rfl rfl rfl).trans (a7 ⟨rfl,rfl,rfl,rfl,rfl,rfl,rfl,trivial⟩)) ?_)
 intro k hk;refine aS (aR ?_);refine nc zi ?_;refine aS (aC rfl (fun kA=>?_) (fun kA=>?_))
 ·have kF:k<c.length:=by simpa using kA
  obtain ⟨x,hx⟩:∃ x,c[k]?=some x:=⟨c[k],getElem?_eq_getElem kF⟩
  have kS:=Lt.map_at hx;have kD:=b3Q c k;have jM:∀ y∈(G2 (c.take k)).map Tm.cv,y.size=2:=Tm.size_all _;have iC:((G2 (c.take k)).map Tm.cv).length<=2*c.length:=by rw [length_map];exact kD
  refine aK ?_;refine aS (aB (aS (aR ?_)));refine nc (zt (j:=k) (H:=kS) (hz:=kC)) (nc zu (nc zw (nc zx ?_)));refine aR ?_;refine nc zl (nc zg (nc zh (nc zg (nc zh (nc zy (nc zz (nc ze ?_)))))));refine aR ?_;refine nc zA (nc zl ?_);refine ⟨kF,Wk.trans (a7 (s':=[(2,.bp 2 0 []),(100002,⟨5,.row [.i 0,.lst []],1,0,[1]⟩),(3,.own (.lst ((G2 (c.take (k+1))).map Tm.cv)) 300018),(300018,.tok 41 2),(6,.val (.lst (c.map Lt.cv))),(7,.val (.i (c.map Lt.cv).length)),(8,.val (.i ((k+1:Nat):Int)))]) ⟨rfl,rfl,?_,rfl,rfl,rfl,rfl,trivial⟩) (B2 300018 200018 rfl rfl rfl rfl)⟩;rw [take_add_one,hx];simp only [Option.toList_some,b4c,map_append,map_cons,List.map_nil,Tm.cv_eq];rfl
 ·have kF:k=c.length:=by
   have:¬ k<c.length:=by simpa using kA
   omega
  subst kF;rw [take_length];refine aE ?_;refine aS (aR ?_);refine nc zl (nc zC (nc zx ?_));exact aT (And.intro (.inr rfl) rfl)
theorem b2A:∀ {c:List Lt} {k:Nat} {l:Lt},c[k]?=some l->(G2 c)[2*k]?=some l.a/\(G2 c)[2*k+1]?=some l.b
 | [],k,l,h=>by simp at h
 | x::c,0,l,h=>by
  simp at h;subst h;exact ⟨rfl,rfl⟩
 | x::c,k+1,l,h=>by
  have:=b2A (c:=c) (k:=k) (l:=l) (by simpa using h);have e:G2 (x::c)=x.a::x.b::G2 c:=rfl;rw [e,show 2*(k+1)=2*k+1+1 by omega];simpa using this
theorem a6D (W:World) (c d:List Lt) (f:Int) (hn:c.length<=1000000) (hcd:d.map Lt.neg=c.map Lt.neg):AFun Tryz.prog W 45 [.lst (c.map Lt.cv),Tm.cw ⟨f,G2 d⟩] (.val (.lst (d.map Lt.cv))):=by
 have kC:=Lt.size_all c;have wZ:=Tm.size_all (G2 d);have kD:d.length=c.length:=by have:=congrArg List.length hcd;simpa using this
 refine c9 (rs:=[.lst (d.map Lt.cv)]) Tryz.func45 Tryz.ntmps45 rfl rfl rfl rfl ?_;intro w U hW;refine aS (aR ?_);refine nc zd (nc ze ?_);refine aS (aR ?_);refine nc ze ?_;refine aS (aS (aR ?_));refine nc zl (nc zo (nc zl ?_));refine aB (n5 c.length (fun k=>[(3,.bp 3 0 []),(100003,.bx (Tm.cw ⟨f,G2 d⟩)),(5,.own (.lst ((d.take k).map Lt.cv)) 200033),(200033,.tok 43 5),(8,.val (.lst (c.map Lt.cv))),(9,.val (.i (c.map Lt.cv).length)),(10,.val (.i k))])
  ((R7 5 200033 43 5 rfl rfl rfl rfl rfl rfl rfl).trans (a7 ⟨rfl,rfl,rfl,rfl,rfl,rfl,rfl,trivial⟩)) ?_)
 intro k hk;refine aS (aR ?_);refine nc zi ?_;refine aS (aC rfl (fun kA=>?_) (fun kA=>?_))
 ·have kF:k<c.length:=by simpa using kA
  obtain ⟨x,hx⟩:∃ x,c[k]?=some x:=⟨c[k],getElem?_eq_getElem kF⟩
  obtain ⟨y,hy⟩:∃ y,d[k]?=some y:=⟨d[k],getElem?_eq_getElem (by omega)⟩
  have xA:x.neg=y.neg:=by have:=congrArg (fun l=>l[k]?) hcd;simp only [List.getElem?_map,hx,hy,Option.map_some] at this;injection this with this;exact this.symm
  obtain ⟨n1,a1,b1⟩:=x;simp only at xA;subst xA;have kS:=Lt.map_at hx;obtain ⟨ha,hb⟩:=b2A hy;have oJ:=Tm.map_at ha;have hb':=Tm.map_at hb;have jM:∀ z∈(d.take k).map Lt.cv,z.size=5:=Lt.size_all _;have iC:((d.take k).map Lt.cv).length<=1000000:=by rw [length_map,length_take];omega
  refine aK ?_;refine aS (aB (aS (aR ?_)));refine nc zl (nc (zt (j:=k) (H:=kS) (hz:=kC)) (nc zu (nc zw (nc ze (nc zx ?_)))));refine aD (by kernel_rfl) (by kernel_rfl) ?_;refine nc zl (nc zg (nc zh (nc zg (nc zh (nc zl (nc zbG (nc (zt (j:=(2*k)) (H:=oJ) (hz:=wZ)) (nc zu (nc zg (nc zh (nc zl (nc zbG (nc zA (nc (zt (j:=(2*k+1)) (H:=hb') (hz:=wZ)) (nc zu (nc zC (nc zy (nc zz (nc ze ?_)))))))))))))))))));refine ⟨by kernel_rfl,?_⟩;refine aR ?_;refine nc zA (nc zl ?_);refine ⟨kF,Wk.trans (a7 (s':=[(3,.bp 3 0 []),(100003,.bx (Tm.cw ⟨f,G2 d⟩)),(5,.own (.lst ((d.take (k+1)).map Lt.cv)) 300033),(300033,.tok 43 5),(8,.val (.lst (c.map Lt.cv))),(9,.val (.i (c.map Lt.cv).length)),(10,.val (.i ((k+1:Nat):Int)))]) ⟨rfl,rfl,?_,rfl,rfl,rfl,rfl,trivial⟩) (B2 300033 200033 rfl rfl rfl rfl)⟩;rw [take_add_one,hy];simp only [Option.toList_some,map_append,map_cons,List.map_nil];rfl
 ·have kF:k=d.length:=by
   have:¬ k<c.length:=by simpa using kA
   omega
  subst kF;rw [take_length];refine aE ?_;refine aS (aR ?_);refine nc zl (nc ze ?_);exact aT (And.intro (.inr rfl) rfl)
def Lt.rep (img:Int->Tm) (l:Lt):Lt:=⟨l.neg,a8 img l.a,a8 img l.b⟩
theorem a9S (img:Int->Tm):∀ c:List Lt,(G2 c).map (a8 img)=G2 (c.map (Lt.rep img))
 | []=>rfl
 | l::c=>by
  show a8 img l.a::a8 img l.b::(G2 c).map (a8 img)=_;rw [a9S img c];rfl
theorem a5S (img:Int->Tm) (c:List Lt):a8 img ⟨0,G2 c⟩=⟨0,G2 (c.map (Lt.rep img))⟩:=by
 rw [d8 (show ¬ (0:Int)<0 by decide),a9S]
theorem b2J (img:Int->Tm) (c:List Lt):(c.map (Lt.rep img)).map Lt.neg=c.map Lt.neg:=by
 rw [List.map_map];rfl
theorem a4g (W:World) (L:List Bd) (c:List Lt) (hn:c.length<=1000000) (hl:L.length<=1000000000) (hb:bdsOk L) (hr:(⟨0,G2 c⟩:Tm).rng) (kH:(⟨0,G2 c⟩:Tm).ok):AFun Tryz.prog W 67 [.lst (L.map Bd.cv),.lst (c.map Lt.cv)] (.val (.lst ((c.map (Lt.rep (i7 L))).map Lt.cv))):=by
 have h2:=fun w=>a3S w L ⟨0,G2 c⟩ hl hb hr kH;rw [a5S] at h2;refine c9 (rs:=[.lst ((c.map (Lt.rep (i7 L))).map Lt.cv)]) Tryz.func67 Tryz.ntmps67 rfl rfl rfl rfl ?_;intro w U hW;refine aS (aR ?_);refine nc ze ?_;refine aS (aR ?_);refine nc zl (nc zl (nc zl (nc (zk (z:=a4k w c hn)) (nc (zk (z:=h2 w)) (nc (zk (z:=a6D w c _ 0 hn (b2J _ c))) (nc ze ?_))))));exact aT (And.intro (.inr rfl) rfl)
theorem a8V (W:World) (c:List Lt) (by_:Int) (hn:c.length<=1000000) (hr:(⟨0,G2 c⟩:Tm).rng) (kH:(⟨0,G2 c⟩:Tm).ok):AFun Tryz.prog W 18 [.lst (c.map Lt.cv),.i by_] (.val (.lst ((c.map (Lt.rep fun v=>q7 (upV (max by_ 0) v))).map Lt.cv))):=by
 have h2:=fun w=>b1E w ⟨0,G2 c⟩ by_ hr kH;rw [a5S] at h2;refine c9 (rs:=[.lst ((c.map (Lt.rep fun v=>q7 (upV (max by_ 0) v))).map Lt.cv)]) Tryz.func18 Tryz.ntmps18 rfl rfl rfl rfl ?_;intro w U hW;refine aS (aR ?_);refine nc ze ?_;refine aS (aR ?_);refine nc zl (nc zl (nc (zk (z:=a4k w c hn)) (nc zl (nc (zk (z:=h2 w)) (nc (zk (z:=a6D w c _ 0 hn (b2J _ c))) (nc ze ?_))))));exact aT (And.intro (.inr rfl) rfl)
section
section
variable {α β:Type}
end
open Classical in
section
variable {P:Program} {w0:World} {U0:UX} {nt:Nat} {ops:Array Oper} {o:Oper} {S:Nat->Option AV} {gs:List Nat} {d:Nat}
variable (hg:Gd w0 U0 nt ops o gs S) (hd:o.dst=some d) (hn:Nat.blt d nt=true) (h5:Nat.blt d 100000=true)
include hg hd hn h5
end
end
def b2E (size:Int) (l:Lt):Bool:=decide (0<=q5 l.a size 8)&&decide (0<=q5 l.b size 8)
def a0c (c:List Lt) (most:Nat) (size:Int):Bool:=decide (c.length<=most)&&c.all (b2E size)
set_option maxHeartbeats 1000000 in
theorem b1f (W:World) (c:List Lt) (most:Nat) (size:Int) (hm:most<=1000) (h0:0<=size) (h1:size<=60) (hr:okC c):AFun Tryz.prog W 8 [.lst (c.map Lt.cv),.i (most:Int),.i size] (.val (.b (a0c c most size))):=by
 have kC:=Lt.size_all c;refine c9 (rs:=[.b (a0c c most size)]) Tryz.func8 Tryz.ntmps8 rfl rfl rfl rfl ?_;intro w U hW;refine aS (aR ?_);refine nc ze ?_;refine aS (aS (aR ?_));refine nc zl (nc zo (nc zl (nc zN ?_)));refine aC rfl (fun hc=>?_) (fun hc=>?_)
 ·have gA:a0c c most size=false:=by have:=of_decide_eq_true hc;rw [length_map] at this;unfold a0c;rw [show decide (c.length<=most)=false by rw [decide_eq_false_iff_not];omega];rfl
  rw [gA];refine aS (aR ?_);refine nc ze ?_;exact aT (And.intro (.inr rfl) rfl)
 have hl:c.length<=most:=by have:=of_decide_eq_false hc;rw [length_map] at this;omega
 refine aK ?_;refine aS (aS (aR ?_));refine nc ze ?_;refine aB (C0 c.length (fun k=>∀ l∈c.take k,b2E size l=true) (fun k=>[(0,.val (.lst (c.map Lt.cv))),(2,.val (.i size)),(7,.val (.i k))]) (a7 ⟨rfl,rfl,rfl,trivial⟩) (by simp) ?_);intro k hk hI;refine aS (aS (aR ?_));refine nc zl (nc zl (nc zo (nc zi ?_)));refine aC rfl (fun kA=>?_) (fun kA=>?_)
 ·have kF:k<c.length:=by simpa using kA
  obtain ⟨x,hx⟩:∃ x,c[k]?=some x:=⟨c[k],getElem?_eq_getElem kF⟩
  have kS:=Lt.map_at hx;have cH:=mem_of_getElem? hx;have sa:=a5T w x.a size 8 (hr x cH).1 h0 h1 (by decide) (by decide);have sb:=a5T w x.b size 8 (hr x cH).2 h0 h1 (by decide) (by decide);have gA:b2E size x=false->a0c c most size=false:=fun h=>by unfold a0c;rw [show c.all (b2E size)=false from List.all_eq_false.2 ⟨x,cH,by rw [h];simp⟩,Bool.and_false]
  refine aK ?_;by_cases ha:q5 x.a size 8<0
  ·have ga:decide (q5 x.a size 8<0)=true:=by simpa using ha
   rw [gA (by unfold b2E;rw [show decide (0<=q5 x.a size 8)=false by rw [decide_eq_false_iff_not];omega];rfl)];refine aS (aB (aS (aR ?_)));refine nc zl (nc zl (nc (zt (j:=k) (H:=kS) (hz:=kC)) (nc zbH (nc zu (nc zl (nc (zk (z:=sa)) (nc zi (nc zl (nc zq (nc zq (nc zq (nc zq (nc zq (nc zq (nc zq (nc zq (nc zp ?_)))))))))))))))));refine aC rfl (fun gY=>?_) (fun gY=>by cases gY);refine aS (aR ?_);refine nc ze ?_;exact aT (And.intro (.inr rfl) rfl)
  ·have ga:decide (q5 x.a size 8<0)=false:=by simpa using ha
   refine aS (aB (aS (aR ?_)));refine nc zl (nc zl (nc (zt (j:=k) (H:=kS) (hz:=kC)) (nc zbH (nc zu (nc zl (nc (zk (z:=sa)) (nc zi (nc zl (nc (zl (p:=gb)) (nc (zl (p:=gb)) (nc (zt (j:=k) (r:=gb) (H:=kS) (hz:=kC)) (nc (zbH (r:=gb)) (nc (zu (r:=gb)) (nc (zl (p:=gb)) (nc (zk (p:=gb) (z:=sb)) (nc (zi (r:=gb)) (nc zr ?_)))))))))))))))));refine aC rfl (fun gY=>?_) (fun gY=>?_)
   ·have hb:=of_decide_eq_true gY;rw [gA (by unfold b2E;rw [show decide (0<=q5 x.b size 8)=false by rw [decide_eq_false_iff_not];omega];simp)];refine aS (aR ?_);refine nc ze ?_;exact aT (And.intro (.inr rfl) rfl)
   ·have hb:=of_decide_eq_false gY;refine aK ?_;refine aR ?_;refine nc zl (nc zA (nc ze ?_));refine ⟨kF,?_,a7 ⟨rfl,rfl,rfl,trivial⟩⟩;intro y hy;rw [take_add_one,hx,mem_append] at hy;rcases hy with hy | hy
    ·exact hI y hy
    ·simp at hy;rw [hy];unfold b2E;rw [show decide (0<=q5 x.a size 8)=true by rw [decide_eq_true_eq];omega,show decide (0<=q5 x.b size 8)=true by rw [decide_eq_true_eq];omega];rfl
 ·have kF:k=c.length:=by
   have:¬ k<c.length:=by simpa using kA
   omega
  subst kF;rw [take_length] at hI;have qK:a0c c most size=true:=by unfold a0c;rw [show decide (c.length<=most)=true by simpa using hl,Bool.true_and];exact all_eq_true.2 hI
  rw [qK];refine aE ?_;refine aS (aR ?_);refine nc ze ?_;exact aT (And.intro (.inr rfl) rfl)
theorem a2i {c:List Lt} {most:Nat} {size:Int} (h0:0<=size) (h1:size<=60) (h:a0c c most size=true):c.length<=most/\∀ l∈c,((l.a.sm/\l.a.rng/\l.a.ok)/\(l.a.wt:Int)<=size/\(l.a.size:Int)<=size)/\((l.b.sm/\l.b.rng/\l.b.ok)/\(l.b.wt:Int)<=size/\(l.b.size:Int)<=size):=by
 unfold a0c at h;rw [Bool.and_eq_true,decide_eq_true_eq] at h;refine ⟨h.1,fun l hl=>?_⟩;have hf:=all_eq_true.1 h.2 l hl;unfold b2E at hf;rw [Bool.and_eq_true,decide_eq_true_eq,decide_eq_true_eq] at hf;have key:∀ t:Tm,0<=q5 t size 8->(t.sm/\t.rng/\t.ok)/\(t.wt:Int)<=size/\(t.size:Int)<=size:=fun t ht=>by
  have pT:=b5O t _ _ ht;have hwt:(t.wt:Int)<=size:=by have:=(a0K t size 8 h0).2.2 ht;omega
  have:=t.size_wt;exact ⟨⟨pT,Tm.sm_rng pT,Tm.wt_ok (t:=t) (by omega)⟩,hwt,by omega⟩
 exact ⟨key _ hf.1,key _ hf.2⟩
set_option maxHeartbeats 1000000 in
theorem b4C (W:World) (c:List Lt) (hl:c.length<=1000000) (hc:∀ l∈c,l.a.ok/\l.b.ok):AFun Tryz.prog W 9 [.lst (c.map Lt.cv)] (.val (.lst ((c.map id).map Lt.cv))):=by
 have kC:=Lt.size_all c;refine c9 (rs:=[.lst ((c.map id).map Lt.cv)]) Tryz.func9 Tryz.ntmps9 rfl rfl rfl rfl ?_;intro w U hW;refine aS (aR ?_);refine nc ze ?_;refine aS (aR ?_);refine nc ze ?_;refine aS (aS (aR ?_));refine nc ze ?_;refine aB (n5 c.length (fun k=>[(0,.val (.lst (c.map Lt.cv))),(3,.own (.lst (((c.take k).map id).map Lt.cv)) 200031),(200031,.tok 43 5),(4,.val (.i k))]) ((R7 3 200031 43 5 rfl rfl rfl rfl rfl rfl rfl).trans (a7 ⟨rfl,rfl,rfl,rfl,trivial⟩)) ?_);intro k hk;have jN:=Lt.size_all ((c.take k).map id);refine aS (aS (aR ?_));refine nc zl (nc zl (nc zo (nc zi ?_)));refine aC rfl (fun kA=>?_) (fun kA=>?_)
 ·have kF:k<c.length:=by simpa using kA
  obtain ⟨x,hx⟩:∃ x,c[k]?=some x:=⟨c[k],getElem?_eq_getElem kF⟩
  have kS:=Lt.map_at hx;have cH:=mem_of_getElem? hx;have oE:(((c.take k).map id).map Lt.cv).length<=1000000:=by rw [length_map,length_map,length_take];omega
  refine aK ?_;refine aS (aB (aD (by kernel_rfl) (by kernel_rfl) ?_));refine nc zl (nc zl (nc zl (nc (zt (j:=k) (H:=kS) (hz:=kC)) (nc zbH (nc zu (nc zl (nc zl (nc (zt (j:=k) (H:=kS) (hz:=kC)) (nc zbH (nc zu (nc (zk (z:=b7i w x.a (hc x cH).1)) (nc zl (nc zl (nc (zt (j:=k) (H:=kS) (hz:=kC)) (nc zbH (nc zu (nc (zk (z:=b7i w x.b (hc x cH).2)) (nc zC (nc zy (nc zz (nc ze ?_)))))))))))))))))))));refine ⟨by kernel_rfl,?_⟩;refine aR ?_;refine nc zl (nc zA (nc ze ?_));refine ⟨kF,Wk.trans (a7 (s':=[(0,.val (.lst (c.map Lt.cv))),(3,.own (.lst (((c.take (k+1)).map id).map Lt.cv)) 300031),(300031,.tok 43 5),(4,.val (.i ((k+1:Nat):Int)))]) ⟨rfl,?_,rfl,rfl,trivial⟩) (B2 300031 200031 rfl rfl rfl rfl)⟩;rw [take_add_one,hx,map_append,map_append];rfl
 ·have kF:k=c.length:=by
   have:¬ k<c.length:=by simpa using kA
   omega
  subst kF;rw [take_length];refine aE ?_;refine aS (aR ?_);refine nc zl (nc ze ?_);exact aT (And.intro (.inr rfl) rfl)
theorem b6E (W:World) (c:List Lt) (hl:c.length<=1000000) (hc:∀ l∈c,l.a.ok/\l.b.ok):AFun Tryz.prog W 9 [.lst (c.map Lt.cv)] (.val (.lst (c.map Lt.cv))):=by
 have:=b4C W c hl hc;rw [List.map_id] at this;exact this
theorem ToldU.uniq {l:List (Tm×Tm)} {r1 r2:List Bd×Bool} (h1:ToldU l r1) (h2:ToldU l r2):r1=r2:=by
 rcases h1 with ⟨a1,a2,a3⟩ | ⟨a1,s,a2,a3,a4,a5⟩
 ·rw [h2.no a3];cases r1;simp only at a1 a2;rw [a1,a2]
 ·have h:=(h2.yes a2 a3).1;cases r1;simp only at a1 a5;rw [h,a1,a5]
noncomputable def mgT (a b:Tm):List Bd×Bool:=open Classical in if h:∃ r,Tells8 [(a,b)] r then Classical.choose h else ([],false)
def Tm.ten (t:Tm):Prop:=(t.rng/\t.ok)/\t.size<=10
def Lt.ten (l:Lt):Prop:=l.a.ten/\l.b.ten
theorem b0a {a b:Tm} (ha:a.ten) (hb:b.ten):a5M [(a,b)]:=fun p hp=>by
 rw [List.mem_singleton] at hp;subst hp;exact ⟨⟨ha.1,Nat.le_trans ha.2 (by omega)⟩,hb.1,Nat.le_trans hb.2 (by omega)⟩
theorem c0y {a b:Tm} {r:List Bd×Bool} (h:Tells8 [(a,b)] r):mgT a b=r:=by
 have he:∃ r,Tells8 [(a,b)] r:=⟨r,h⟩
 unfold mgT;rw [dif_pos he];exact (Classical.choose_spec he).told.uniq h.told
theorem b2S {a b:Tm} (ha:a.ten) (hb:b.ten):Tells8 [(a,b)] (mgT a b):=by
 obtain ⟨n,r,_,_,_,h⟩:=b2U (l:=[(a,b)]) (by simp) (b0a ha hb);rw [c0y h];exact h
theorem b6I (l:List (Tm×Tm)) (hl:l.length<=2) (ht:a5M l):∃ r:Option (List Bd),(r=none->∀ τ,¬ uni τ l)/\∀ s,r=some s->Mgu (i7 s) l/\L7 s/\Orig (K6 l) (i7 s):=by
 have hV:∀ v∈I1 l,0<=v:=fun v hv=>by obtain ⟨p,_,hv⟩:=mem_flatMap.1 hv;rcases mem_append.1 hv with hv | hv<;>exact o5 _ v hv
 have kJ:∀ p∈l,(∀ u∈p.1.vs,u∈I1 l)/\∀ u∈p.2.vs,u∈I1 l:=fun p hp=>⟨fun u hu=>mem_flatMap.2 ⟨p,hp,List.mem_append_left _ hu⟩,fun u hu=>mem_flatMap.2 ⟨p,hp,List.mem_append_right _ hu⟩⟩
 have h0:Mgu (i7 []) []:=Mgu.nil;obtain ⟨n,r,e,g1,g2⟩:=a2c hV l [] [] h0 (fun b hb=>by cases hb) (fun b hb=>by cases hb) kJ;rw [nil_append] at g1 g2;have hE:arA (K6 l)<=60:=by
  have:=a7N l fun p hp=>⟨(ht p hp).1.2,(ht p hp).2.2⟩
  omega
 have dE:=a2a l ht;have oN:a7K (I1 l) (K6 l) 64 [] ([]++[]):=⟨h0,(fun b hb=>by cases hb),(fun b hb=>by cases hb),(fun v hv hf=>by exfalso;apply hf;show (q7 v).f<0;rw [s7];omega),by
  have:frN (I1 l) []<=(I1 l).length:=b0r _;show 0+_<=64;omega,fun b hb=>by cases hb⟩
 obtain ⟨c1,c2⟩:=a3R (V:=I1 l) (S:=K6 l) (K:=64) (E:=[]) hV (b7n hV (Y9 l) (by decide) hE n) l [] [] oN (fun b hb=>by cases hb) fun p hp=>by obtain ⟨s1,s2⟩:=a9Q hp;exact ⟨fun s1' F1 h1=>⟨⟨(kJ p hp).1,p.1,s1,rfl⟩,⟨(kJ p hp).2,p.2,s2,rfl⟩⟩,(ht p hp).1.1,(ht p hp).2.1⟩
 refine ⟨r,g1,fun s hs=>?_⟩;obtain ⟨k1,k2,k3⟩:=g2 s hs;rw [hs] at e;exact ⟨k1,k2,(c2 s e).1.orig⟩
theorem c1y {s E:Nat} (hE:E<=18) (h:Big E s):s<=2955:=by
 have h:=h.up hE;unfold Big at h;have e1:(2:Nat) ^ 18=262144:=by decide
 have e2:(3:Nat) ^ 18=387420489:=by decide
 rw [e1,e2] at h;omega
theorem c1t {a b:Tm} (ha:a.ten) (hb:b.ten) {v:Int} (hv:0<=v):(i7 (mgT a b).1 v).size<=2955:=by
 have hT:=b2S ha hb;have xB:∀ u:Tm,u.f<0->u.size<=2955:=fun u hu=>by rw [Tm.size_var hu];omega
 cases h2:(mgT a b).2 with
 | false =>
  rw [(hT.no h2).1];exact xB _ (by show (q7 v).f<0;rw [s7];omega)
 | true =>
  have hm:=hT.yes h2;obtain ⟨r,g1,g2⟩:=b6I [(a,b)] (by simp) (b0a ha hb);cases r with
  | none=>exact absurd hm.uni (g1 rfl _)
  | some s =>
   obtain ⟨k1,k2,k3⟩:=g2 s rfl;rw [k1.one hm hv];by_cases hf:(i7 s v).f<0
   ·exact xB _ hf
   ·obtain ⟨q,hq,_,e⟩:=k3 v hv hf;rw [<-e];refine c1y ?_ (a1h (Y9 _) k3 (fun v _=>N3 k2 v) ⟨q,hq,rfl⟩);have e1:K6 [(a,b)]=(a.flat++b.flat)++[]:=rfl;have e2:=a1m a;have e3:=a1m b;have e4:=ha.2;have e5:=hb.2;rw [e1,append_nil,a4d];omega
theorem b8n {σ:Int->Tm} {M:Nat} (hM:1<=M) (h:∀ v,0<=v->(σ v).size<=M) (t:Tm):(a8 σ t).size<=M*t.size:=by
 induction t using Tm.indp with
 | h t ih =>
  by_cases hf:t.f<0
  ·rw [l4 hf,Tm.strip_size,Tm.size_var hf,Nat.mul_one];exact h _ (by omega)
  ·have e1:(a8 σ t).size=1+((t.l.map (a8 σ)).map Tm.size).sum:=by rw [d8 hf];exact Tm.size_sym (t:=⟨t.f,t.l.map (a8 σ)⟩) hf
   have e2:t.size=1+(t.l.map Tm.size).sum:=Tm.size_sym hf;have bE:t.ps=t.l:=Tm.ps_of_sym (by omega);rw [bE] at ih;have:∀ L:List Tm,(∀ s∈L,(a8 σ s).size<=M*s.size)->((L.map (a8 σ)).map Tm.size).sum<=M*(L.map Tm.size).sum:=fun L=>by
    induction L with
    | nil=>intro _;simp
    | cons x L ihL =>
     intro g;rw [map_cons,map_cons,map_cons,List.sum_cons,List.sum_cons,Nat.mul_add];have a1:=g x (by simp);have a2:=ihL fun s hs=>g s (List.mem_cons_of_mem _ hs);omega
   have h3:=this t.l ih;rw [e1,e2,Nat.mul_add,Nat.mul_one];omega
noncomputable def mgS (a b:Tm):Int->Tm:=i7 (mgT a b).1
def a2p (c:List Lt) (n:Nat):List Lt:=c.take n++c.drop (n+1)
theorem a4T {c:List Lt} {n:Nat} {l:Lt} (h:l∈a2p c n):l∈c:=by
 rcases mem_append.1 h with h | h
 ·exact List.mem_of_mem_take h
 ·exact List.mem_of_mem_drop h
theorem N6 {c:List Lt} {n:Nat} (h:n<c.length):(a2p c n).length+1=c.length:=by
 unfold a2p;rw [length_append,length_take,List.length_drop];omega
noncomputable def C9 (a b:Tm):Bool:=decide (kb a b=1\/kb a b=2)
section
open Go.RowKit Go.MapKept Go.Shelf
attribute [local go_sem] Oper.semAt_some
end
theorem a9m:(Tryz.prog.info? 43).map (fun i=>(i.zero,i.size,i.bytes))=some (some (.agg #[.bool false,.int .i64 0,.slice none 0 0,.int .i64 0,.slice none 0 0]),5,72):=by kernel_rfl
set_option maxRecDepth 100000 in
set_option maxHeartbeats 400000 in
theorem b3T (n:Nat) (hn:n<=2199023255552) (w:World) :
  Calls Tryz.prog 132 #[.slice none 0 0,.int .i64 (n:Int)] w fun e w'=>∃ v,e = .returned v/\w'.ownsRow w.heap.size 43 5 v 0 []/\Below w.heap.size w w':=by
 obtain ⟨i,bT,cO,cN,fD⟩:=info_parts a9m;rcases Nat.eq_zero_or_pos n with rfl | h0
 ·go_enter Tryz.func132,Tryz.ntmps132
  go_wp2
  go_ret
  exact ⟨_,rfl,World.ownsRow_nil _ _ _ _,bW _⟩
 ·have hr:=Lib.run_append_nil_zeros (P:=Tryz.prog) w 26 3 26 43 i (.agg #[.bool false,.int .i64 0,.slice none 0 0,.int .i64 0,.slice none 0 0]) .i64 .i64 Tryz.underlying26 Tryz.underlying3 bT cO n h0 (by rw [cN];omega) (by omega) (by rw [fD];omega)
  go_enter Tryz.func132,Tryz.ntmps132
  go_wp2_with (at_builtin;refine Lib.wpList_append_run _ rfl _ _ _ _ rfl _ _ rfl rfl _ _ hr ?_)
  go_wp2
  go_ret
  refine ⟨_,rfl,World.ownsRow_made w.drew _ _ (Nat.le_refl _) (grownCap_le_maxLen _ _ _ _ (by unfold maxLen;omega)) ?_,(Below.refl _ _).drew.alloc (Nat.le_refl _) _⟩;have:=grownCap_ge w n 0 43;simp [size_zeroCells]
  try omega
set_option maxRecDepth 100000 in
set_option maxHeartbeats 800000 in
theorem a8E (a:Option Addr) (m c:Nat) (A:Nat->Option Addr) (L C:Nat->Nat) (R:Nat->List Value) (w:World) (hr:Rw 5 w a m A L C R) (hm:m<=1000) (hs:a3D L m<=1099511627776) :
  Calls Tryz.prog 95 #[.slice a m c] w fun e w'=>∃ v,e = .returned v/\w'.ownsRow w.heap.size 43 5 v (a3D L m) (a2K R m)/\Below w.heap.size w w':=by
 obtain ⟨J,hJ⟩:∃ J:Nat->List Value,J=a2K R:=⟨_,rfl⟩
 obtain ⟨N,hN⟩:∃ N:Nat->Nat,N=a3D L:=⟨_,rfl⟩
 have HS:Hid (∀ k,J (k+1)=J k++R k):=fun k=>by rw [hJ];rfl
 have HSN:Hid (∀ k,N (k+1)=N k+L k):=fun k=>by rw [hN];rfl
 have HJ0:Hid (J 0=[]/\N 0=0):=by rw [hJ,hN];exact ⟨rfl,rfl⟩
 have HL:Hid (∀ k,k<=m->N k<=1099511627776):=fun k hk=>by rw [hN];exact Nat.le_trans (b2p L hk) hs
 have HR:Hid (∀ B w',Below B w w'->w.heap.size<=B->Rw 5 w' a m A L C R):=fun B w' hb hB=>hr.below hb hB;have HR0:Hid (Rw 5 w a m A L C R):=hr;rw [<-hJ,<-hN];clear hJ hs hr hN
 go_enter Tryz.func95,Tryz.ntmps95
 go_wp2
 go_loop [3,11] (fun s i=>∃ k x:Nat,i = .int .i64 (k:Int)/\k<=m/\s = .int .i64 (x:Int)/\x=N k) (fun s i=>m-(intOf i).toNat)
 case atStart=>exact ⟨0,0,rfl,by omega,rfl,by rw [HJ0.out.2]⟩
 case round =>
  obtain ⟨k,x,rfl,hk,rfl,hx⟩:=hrel;have HX:Hid (x=N k):=hx;have iK:x<=1099511627776:=by rw [hx];exact HL.out k hk
  clear hx;by_cases kA:k<m
  ·rcases HR0.out.2 with h0 | ⟨b,off,rfl,hb,hc⟩
   ·omega
   have dO:=hc k kA;have HXX:Hid (x+L k=N (k+1)):=by show x+L k=_;rw [HSN.out k,<-HX.out]
   have jA:x+L k<=1099511627776:=by rw [HXX.out];exact HL.out (k+1) kA
   obtain ⟨Lk,eY⟩:∃ y,L k=y:=⟨_,rfl⟩
   obtain ⟨Ak,jL⟩:∃ y,A k=y:=⟨_,rfl⟩
   obtain ⟨Ck,lU⟩:∃ y,C k=y:=⟨_,rfl⟩
   rw [eY] at HXX jA;rw [eY,jL,lU] at dO;clear eY jL lU hc
   go_wp2
   refine ⟨⟨k+1,x+Lk,by go_num,by omega,by go_num,HXX.out⟩,?_⟩;simp [intOf];omega
  ·obtain rfl:k=m:=by omega
   go_wp2_with fail
   refine (b3T x (by omega) w).mono ?_;rintro e w1 ⟨v1,rfl,lD,kW⟩
   go_wp2
   go_loopw [6,27] (fun u i wr=>∃ j:Nat,i = .int .i64 (j:Int)/\j<=k/\wr.ownsRow w.heap.size 43 5 u (N j) (J j)/\Below w.heap.size w wr) (fun _ i _=>k-(intOf i).toNat)
   case atStart=>exact ⟨0,rfl,by omega,by rw [HJ0.out.1,HJ0.out.2];exact lD,kW⟩
   case round =>
    obtain ⟨j,rfl,hj,pR,nJ⟩:=hrel;by_cases kA:j<k
    ·obtain ⟨bS,eR,oW,dP⟩:=(HR.out _ _ nJ (Nat.le_refl _)).1 j kA;rcases (HR.out _ _ nJ (Nat.le_refl _)).2 with h0 | ⟨b,off,rfl,hb,hc⟩
     ·omega
     have dO:=hc j kA;have hJl:N j+L j<=1099511627776:=by have:=HL.out (j+1) kA;rw [HSN.out j] at this;exact this
     have HSj':Hid (J (j+1)=J j++R j/\N (j+1)=N j+L j):=⟨HS.out j,HSN.out j⟩
     obtain ⟨Lk,eY⟩:∃ y,L j=y:=⟨_,rfl⟩
     obtain ⟨Ak,jL⟩:∃ y,A j=y:=⟨_,rfl⟩
     obtain ⟨Ck,lU⟩:∃ y,C j=y:=⟨_,rfl⟩
     obtain ⟨Rk,iL⟩:∃ y,R j=y:=⟨_,rfl⟩
     obtain ⟨Jk,rX⟩:∃ y,J j=y:=⟨_,rfl⟩
     obtain ⟨Nk,pS⟩:∃ y,N j=y:=⟨_,rfl⟩
     rw [jL,iL] at eR;rw [iL] at dP;rw [eY,iL] at oW;rw [eY,jL,lU] at dO;rw [eY,jL,lU] at bS;rw [rX,iL,pS,eY] at HSj';rw [rX,pS] at pR;rw [pS,eY] at hJl;have kC:=nJ.size;have HRl:=hid oW;clear eY jL lU iL rX pS hc oW
     go_wp2_with (at_builtin;refine J7 _ rfl _ _ 26 rfl w.heap.size 43 (.agg #[.bool false,.int .i64 0,.slice none 0 0,.int .i64 0,.slice none 0 0]) 5 72 Tryz.underlying26 a9m rfl (by decide) _ Nk Jk rfl pR Ak Lk Ck Rk rfl bS eR HRl.out dP ?d1 ?d2 kC ?_)
     case d1=>unfold maxLen;omega
     case d2=>omega
     intro v2 w2 iZ oX;have gV:=nJ.trans (a2y pR oX kC);clear oX
     go_wp2
     go_roundw
     case rel=>exact ⟨j+1,by go_num,kA,by rw [HSj'.out.1,HSj'.out.2];exact iZ,gV⟩
     case measure=>simp [intOf];omega
    ·obtain rfl:j=k:=by omega
     go_wp2
     go_ret
     exact ⟨_,rfl,pR,nJ⟩
theorem b0l {U:Nat->Nat->Prop} {w:World}:∀ {l:List (List Lt)} {ys:List Value},Sq ((l.map fun x=>CV.lst (x.map Lt.cv)).map fun c=>Rep U w c) ys ->
  ∃ (A:Nat->Option Addr) (L C:Nat->Nat) (R:Nat->List Value),∀ r x,l[r]?=some x->ys[r]?=some (.slice (A r) (L r) (C r))/\L r=x.length/\(A r=none->L r=0/\C r=0)/\At U w (A r) (R r)/\Sq ((x.map Lt.cv).map fun c=>Rep U w c) (R r)
 | [],ys,h=>⟨fun _=>none,fun _=>0,fun _=>0,fun _=>[],fun r x hx=>by simp at hx⟩
 | x::l,ys,h=>by
  obtain ⟨y1,y2,rfl,h1,h2⟩:=h;obtain ⟨a,n,c,rfl,g1,g2,g3,g4,zs,g5,g6⟩:=N1.1 h1;obtain ⟨A,L,C,R,hR⟩:=b0l (l:=l) h2;refine ⟨fun r=>match r with | 0=>a | r+1=>A r,fun r=>match r with | 0=>n | r+1=>L r,fun r=>match r with | 0=>c | r+1=>C r,fun r=>match r with | 0=>zs | r+1=>R r,fun r y hy=>?_⟩;cases r with
  | zero =>
   simp at hy;subst hy;exact ⟨rfl,by rw [g1,length_map],g4,g5,g6⟩
  | succ r =>
   simp at hy;exact hR r y hy
theorem b1u {U:Nat->Nat->Prop} {w:World} {l:List (List Lt)} {L:Nat->Nat} {R:Nat->List Value} (h:∀ r x,l[r]?=some x->L r=x.length/\Sq ((x.map Lt.cv).map fun c=>Rep U w c) (R r)) :
  ∀ k,k<=l.length->Sq (((l.take k).flatten.map Lt.cv).map fun c=>Rep U w c) (a2K R k)/\a3D L k=(l.take k).flatten.length:=by
 intro k
 induction k with
 | zero=>intro _;exact ⟨rfl,rfl⟩
 | succ k ih =>
  intro hk;obtain ⟨h1,h2⟩:=ih (by omega);obtain ⟨x,hx⟩:∃ x,l[k]?=some x:=⟨l[k],getElem?_eq_getElem (by omega)⟩
  obtain ⟨h3,h4⟩:=h k x hx;rw [take_add_one,hx,List.flatten_append,a2K,a3D,map_append,map_append,length_append,h2,h3];simp only [Option.toList_some,List.flatten_cons,List.flatten_nil,append_nil];exact ⟨x8 h1 h4,trivial⟩
theorem a2z (W:World) (l:List (List Lt)) (hl:l.length<=1000) (hs:l.flatten.length<=1099511627776):AFun Tryz.prog W 95 [.lst (l.map fun x=>CV.lst (x.map Lt.cv))] (.val (.lst (l.flatten.map Lt.cv))):=by
 refine ⟨x9 Tryz.func95 rfl rfl,.inl rfl,rfl,?_⟩;rintro U w vs hW ⟨u1,us1,rfl,h1,h3⟩;have h3:us1=[]:=h3;subst h3;obtain ⟨a,n,c,rfl,g1,g2,g3,g4,ys,g5,g6⟩:=l5.1 h1;rw [length_map] at g1;subst g1;obtain ⟨A,L,C,R,hR⟩:=b0l g6;obtain ⟨hj,hn⟩:=b1u (fun r x hx=>⟨(hR r x hx).2.1,(hR r x hx).2.2.2.2⟩) l.length (Nat.le_refl _);rw [take_length] at hj hn;have hrw:Rw 5 w a l.length A L C R:=by
  refine ⟨fun r hr=>?_,?_⟩
  ·obtain ⟨k1,k2,k3,k4,k5⟩:=hR r _ (getElem?_eq_getElem hr);refine ⟨k3,a0Y k4,?_,F5 k5⟩;rw [A5 (n:=fun _=>5) (fun c hc xs hx=>by obtain ⟨t,ht,rfl⟩:=mem_map.1 hc;rw [hx.len];exact Lt.size_all [t] _ (by simp)) k5,k2]
   rw [List.map_const',List.sum_replicate_nat];simp
  ·by_cases hz:l.length=0
   ·exact .inl hz
   ·refine .inr ?_;have hc:=a0Y g5;have nL:=(hR 0 _ (getElem?_eq_getElem (by omega:0<l.length))).1;rcases hc with hc | ⟨b,off,ha,hb,hc⟩
    ·rw [hc] at nL;simp at nL
    ·refine ⟨b,off,ha,hb,fun r hr=>?_⟩;have hy:=(hR r _ (getElem?_eq_getElem hr)).1;have kA:r<ys.length:=by
      rcases Nat.lt_or_ge r ys.length with h | h
      ·exact h
      ·rw [List.getElem?_eq_none h] at hy;cases hy
     rw [hc r kA,hy]
 refine (a8E a l.length c A L C R w hrw hl (by rw [hn];exact hs)).mono ?_;rintro e w' ⟨v,rfl,ho,hb⟩;obtain ⟨a',c',rfl,k1,k2,k3,k4⟩:=a3C ho;refine ⟨_,rfl,l5.2 ⟨a',_,c',rfl,by rw [hn,length_map],k1,k2,k3,_,k4.keep fun b o v h1 h2=>⟨.inr h1,h2⟩,hj.keep fun b o v h1 h2=>⟨.inl h1,?_⟩⟩,hb⟩;rw [hb.cell (World.block_lt_of_cell? w _ h2)];exact h2
def b3j:List (Option (List Value))->Option (List Value)
 | []=>some []
 | none::_=>none
 | some x::r=>match b3j r with | some y=>some (x++y) | none=>none
def plS (k:Nat) (v:Value) (l:List CV) (r:Option (List Value)):Option (List Value):=match k,v,l with
 | 0,v,[]=>match O8 v,H6 v with | true,false=>some [v] | _,_=>none
 | 1,.nilFunc,[]=>some [.slice none 0 0]
 | 2,.nilFunc,_=>r
 | _,_,_=>none
def plC:Nat->CV->Option (List Value)
 | 0,_=>none
 | n+1,⟨k,v,l⟩=>plS k v l (b3j (l.map (plC n)))
theorem a1S {U:Nat->Nat->Prop} {w:World} {n:Nat} (ih:∀ c vs,plC n c=some vs->Rep U w c vs/\vs.length=c.size):∀ {zs:List CV} {vs:List Value},b3j (zs.map (plC n))=some vs->∃ segs:List (List Value),segs.flatten=vs/\segs.map List.length=zs.map CV.size/\zs.length=segs.length/\∀ (i:Nat) (c:CV),zs[i]?=some c->∃ seg,segs[i]?=some seg/\Rep U w c seg
 | [],vs,h=>by
  simp [b3j] at h;subst h;exact ⟨[],rfl,rfl,rfl,fun i c hi=>by simp at hi⟩
 | z::zs,vs,h=>by
  rw [map_cons] at h;cases hz:plC n z with
  | none=>rw [hz] at h;simp [b3j] at h
  | some x =>
   rw [hz] at h;unfold b3j at h;split at h
   ·rename_i y hy;cases h;obtain ⟨segs,a1,a2,a3,a4⟩:=a1S ih hy;obtain ⟨b1,b2⟩:=ih z x hz;refine ⟨x::segs,by simp [a1],by simp [a2,b2],by simp [a3],fun i c hi=>?_⟩;cases i with
    | zero=>simp at hi;subst hi;exact ⟨x,rfl,b1⟩
    | succ i=>obtain ⟨seg,c1,c2⟩:=a4 i c (by simpa using hi);exact ⟨seg,by simpa using c1,c2⟩
   ·cases h
theorem a4M {U:Nat->Nat->Prop} {w:World}:∀ (n:Nat) (c:CV) (vs:List Value),plC n c=some vs->Rep U w c vs/\vs.length=c.size
 | 0,c,vs,h=>by cases h
 | n+1,⟨k,v,l⟩,vs,h=>by
  rw [plC] at h;unfold plS at h;split at h
  ·split at h
   ·rename_i h1 h2;cases h;exact ⟨(X5 h1).2 h2,rfl⟩
   ·cases h
  ·cases h;exact ⟨a7m U w,rfl⟩
  ·obtain ⟨segs,a1,a2,a3,a4⟩:=a1S (fun c vs h=>a4M (U:=U) (w:=w) n c vs h) h;refine ⟨?_,?_⟩
   ·show Rep U w (.row l) vs;rw [I4,<-a1];exact I5 a3 a4
   ·rw [CV.size_mk,if_pos rfl,<-a1,List.length_flatten,a2]
  ·cases h
section
variable {P:Program} {w0:World} {U0:UX} {nt:Nat} {ops:Array Oper} {o:Oper} {S:Nat->Option AV} {gs:List Nat} {d:Nat}
theorem b5R (zs:List CV) (hg:Gd w0 U0 nt ops o gs S) (hd:o.dst=some d) (hn:Nat.blt d nt=true) (h5:Nat.blt d 100000=true) {ty:TypeId} {it:TypeInfo} {cs:Array Value} (ho:o.op = .alloc ty) (hi:P.info? ty=some it) (hz:it.zero=some (.agg cs)) (h0:plC 6 (.row zs)=some cs.toList):AOp P w0 U0 nt ops o gs [(d,[])] S [(d,.bp d 0 []),(100000+d,.bx (.row zs))]:=by
 intro s hs hN a w ⟨D,hv,h⟩ Q K hK;rw [if_pos (hg s hs a w D hv h)];have gG:Rep (Us w0 U0 D) w (.row zs) cs.toList:=(a4M 6 _ _ h0).1;have he:(execOp a.eval o).run P w = .ok (.value (.pointer (some ⟨w.heap.size,0,none⟩))) (w.alloc (.cells cs ty)):=by simp [execOp,ho,Instr.alloc,zeroValue,typeInfo,hi,hz,B8,Value.cells]
 unfold Oper.wp;rw [he,Oper.upon_value,hd];have:=h.newbox (d:=d) (av := .bx (.row zs)) (hN (d,[]) (by simp)).nr (bL hn) (bL h5) (.inl rfl) ty (fun _=>gG) (fun _ hl=>absurd hl A3);rw [Array.toArray_toList] at this;exact hK _ _ ⟨_,_,this⟩
theorem zbO {P:Program} {w0:World} {U0:UX} {nt:Nat} {ops:Array Oper} {o:Oper} {S:Nat->Option AV} {gs:List Nat} {d:Nat} {ty:TypeId} {it:TypeInfo} {cs:Array Value} (zs:List CV) (p:Gd w0 U0 nt ops o gs S:=by exact gN rfl) (q:o.dst=some d:=by exact rfl) (r:Nat.blt d nt=true:=by exact rfl) (t:Nat.blt d 100000=true:=by exact rfl) (u:o.op = .alloc ty:=by exact rfl) (v:P.info? ty=some it:=by exact rfl) (x:it.zero=some (.agg cs):=by exact rfl) (y:plC 6 (.row zs)=some cs.toList:=by exact rfl):AOp P w0 U0 nt ops o gs [(d,[])] S [(d,.bp d 0 []),(100000+d,.bx (.row zs))]:=b5R zs p q r t u v x y
theorem a4Y (zs:List CV) (hg:Gd w0 U0 nt ops o gs S) (hd:o.dst=some d) (hn:Nat.blt d nt=true) (h5:Nat.blt d 100000=true) {t:TypeId} {parts:Array (Nat×Operand)} {fs:Array Field} {it:TypeInfo} {cs:Array Value} {sz:List Nat} {r:List CV} (ho:o.op = .build t parts) (hu:P.underlying t=some (.struct fs)) (hi:P.info? t=some it) (hz:it.zero=some (.agg cs)) (kC:szO P fs.toList 0=some sz) (rZ:zs.map CV.size=sz) (h0:b3j (zs.map (plC 6))=some cs.toList) (hr:V5 S parts.toList zs=some r) :
  AOp P w0 U0 nt ops o (gs++rds parts.toList) [] S [(d,.val (.row r))]:=
 j9 hg hd hn h5 (fun k hk=>List.mem_append_left _ hk) fun s hs a w D hv hm=>by
  obtain ⟨segs,e1,e2,e4,e5⟩:=a1S (U:=Us w0 U0 D) (w:=w) (a4M 6) h0;obtain ⟨g1,g2⟩:=T5 (U:=Us w0 U0 D) (w:=w) (ρ:=a.eval) (segs:=segs) hr (fun x hx c n q p rC=>y7 hm (fun k hk=>hs k (List.mem_append_right _ (a3V hx k hk))) rC) e4 e2 e5;obtain ⟨pl,h1,h2⟩:=a4Z kC;have iH:=Y5 (place:=fun i=>pl.toArray[i]?) sz (fun i z hz=>by rw [List.getElem?_toArray,h2 i z hz,Nat.zero_add]) (parts.toList.map fun x=>(x.1,a.eval x.2)) segs cs e1.symm (by rw [e2,rZ]) (fun x hx=>by rw [<-rZ];exact g1 x hx);refine ⟨.agg (F9 segs (parts.toList.map fun x=>(x.1,a.eval x.2))).flatten.toArray,?_,n4 (E8.2 ⟨_,rfl,g2⟩)⟩;have hb:P.built t (parts.map fun x=>(x.1,a.eval x.2)).toList=some (F9 segs (parts.toList.map fun x=>(x.1,a.eval x.2))).flatten.toArray:=by unfold Program.built;rw [hi,hu];simp only [hz,h1];rw [Array.toList_map];exact iH
  have:=run_build w t _ _ hb;generalize a.eval=ρ at this |-;simp [execOp,ho,this]
theorem zbN {P:Program} {w0:World} {U0:UX} {nt:Nat} {ops:Array Oper} {o:Oper} {S:Nat->Option AV} {gs:List Nat} {d:Nat} {t:TypeId} {parts:Array (Nat×Operand)} {fs:Array Field} {it:TypeInfo} {cs:Array Value} {sz:List Nat} {r:List CV} (zs:List CV) (u:Gd w0 U0 nt ops o gs S:=by exact gN rfl) (v:o.dst=some d:=by exact rfl) (y:Nat.blt d nt=true:=by exact rfl) (A:Nat.blt d 100000=true:=by exact rfl) (B:o.op = .build t parts:=by exact rfl) (C:P.underlying t=some (.struct fs):=by exact rfl) (E:P.info? t=some it:=by exact rfl) (F:it.zero=some (.agg cs):=by exact rfl) (G:szO P fs.toList 0=some sz:=by exact rfl) (H:zs.map CV.size=sz:=by exact rfl) (h0:b3j (zs.map (plC 6))=some cs.toList:=by exact rfl) (hr:V5 S parts.toList zs=some r:=by exact rfl):AOp P w0 U0 nt ops o (gs++rds parts.toList) [] S [(d,.val (.row r))]:=a4Y zs u v y A B C E F G H h0 hr
end
theorem b6V {c:List Lt} {s:Tm}:s∈G2 c↔∃ l∈c,s=l.a\/s=l.b:=by
 unfold G2;rw [mem_flatMap];constructor
 ·rintro ⟨l,hl,h⟩;exact ⟨l,hl,by simpa using h⟩
 ·rintro ⟨l,hl,h⟩;exact ⟨l,hl,by simpa using h⟩
section
variable {P:Program} {w0:World} {U0:UX} {nt:Nat} {s:AS}
theorem b9K (k n e0 z:Nat) (hk:Nat.ble 500000 k=true) (hn:(Nat.ble 200000 n&&Nat.blt n 400000)=true) (hz:Nat.blt 0 z=true) (hs:look s k=some ⟨0,.lst [],1,0,[]⟩) (hr:y8 s [(n,[])]=true) (nR:S5 s n=true):Wk w0 U0 nt s ((k,.sl n 0 0 z)::(n,.mrow e0 z [])::s):=by
 rintro a w ⟨D,hv,h⟩;have hk5:=Nat.le_of_ble_eq_true hk;have kN:=rnB hn;have fU:RN n:=RW.rn kN;unfold RW at kN;have sF:look s n=none:=by
  cases e:look s n with
  | none=>rfl
  | some av =>
   unfold S5 at nR;rw [all_eq_true] at nR;have:=nR _ (C7 e);simp [Nat.beq_refl] at this
 have jJ:S3 s n:=(q6 hr (n,[]) (by simp)).nr;obtain ⟨kG,gK⟩:∃ kG:Nat->Value,kG=fun x=>if x=n then .slice none 0 0 else hv x:=⟨_,rfl⟩
 have kR:∀ x,x≠n->kG x=hv x:=fun x hx=>by rw [gK];simp only [if_neg hx]
 have bK:kG n = .slice none 0 0:=by rw [gK];simp
 obtain ⟨s',gD⟩:∃ s',s'=(k,AV.sl n 0 0 z)::(n,AV.mrow e0 z [])::s:=⟨_,rfl⟩
 rw [<-gD];have kB:∀ x,x≠k->x≠n->look s' x=look s x:=fun x h1 h2=>by rw [gD,lN (Ne.symm h1),lN (Ne.symm h2)]
 have nY:look s' k=some (.sl n 0 0 z):=by rw [gD,lS]
 have nZ:look s' n=some (.mrow e0 z []):=by rw [gD,lN (by omega),lS]
 have hl:∀ q e,t7 s' q e↔t7 s q e:=fun q e=>by
  unfold t7;by_cases e1:q=k
  ·omega
  ·by_cases e2:q=n
   ·subst e2;rw [nZ,sF];constructor<;>(rintro ⟨h1,_⟩;cases h1)
   ·rw [kB q e1 e2]
 have kL:a9 s'=a9 s:=by funext q;simp only [a9,hl]
 have jZ:∀ {k' av v},look s k'=some av->AVRep (Us w0 U0 D) w hv (a9 s) av v->AVRep (Us w0 U0 D) w kG (a9 s) av v:=fun {k' av v} h1 h2 =>
  h2.move (fun _ _ _ h1 h2=>⟨h1,h2⟩) (fun _ h=>h) fun h3=>kR _ (a1R fU (jJ k' av h1).1 h3)
 refine ⟨D,kG,h.below,h.dfr,h.size,fun d av g1 g2=>?_,fun m o av g1 g2 g3 g4=>?_,fun m o o' av av' g1 g2 g3 g4 g5=>?_,fun k' av g1 g2=>?_,fun k' av g g1 g2 g3 g4=>?_,fun k' k2 av av' g g1 g2 g3 g4 g5 g6 g7 g8=>?_,fun k' v g1=>?_,h.dlt⟩
 ·rw [kB d (by omega) (by omega)] at g1;rw [kL];obtain ⟨v,h1,h2⟩:=h.slot d av g1 g2;exact ⟨v,h1,jZ g1 h2⟩
 ·have fI:=G3 g4;unfold l8 at fI;unfold BN at g4;rw [kB (100000+m) (by omega) (by omega)] at g3;rw [kL,kR (100000+m) (by omega)];by_cases e:f0 m o=k
  ·rw [e,nY] at g1;cases g1;obtain ⟨v,h1,h2,h3⟩:=h.fld m o _ (by rw [e];exact hs) g2 g3 g4;have hv0:v = .slice none 0 0:=by obtain ⟨q1,q2⟩:VRep (Us w0 U0 D) w (.lst []) v/\Tk hv (a9 s) ⟨0,.lst [],1,0,[]⟩ v.cells.toList:=h1;obtain ⟨mm,c,f1,f2⟩:=q2 (.inl rfl);simp only at f1;rw [R6] at f1;cases f1;obtain ⟨ao,k,c,e1,_⟩:=l5.1 q1;rw [e1] at f2 |-;simpa [Value.cells,I2] using f2
   subst hv0;refine ⟨.slice none 0 0,⟨fU,?_⟩,rfl,h3⟩;show SlV (kG n) 0 0 z (.slice none 0 0);rw [bK];exact I3 rfl (Nat.le_refl _) (.inl rfl)
  ·rw [kB _ e (by unfold f0;omega)] at g1;obtain ⟨v,h1,h2,h3⟩:=h.fld m o av g1 g2 g3 g4;exact ⟨v,jZ g1 h1,h2,h3⟩
 ·have conv:∀ o (av:AV),look s' (f0 m o)=some av->∃ av',look s (f0 m o)=some av'/\av'.sz=av.sz:=fun o av f1=>by
   by_cases e:f0 m o=k
   ·rw [e,nY] at f1;cases f1;exact ⟨⟨0,.lst [],1,0,[]⟩,by rw [e];exact hs,rfl⟩
   ·rw [kB _ e (by unfold f0;omega)] at f1;exact ⟨av,f1,rfl⟩
  obtain ⟨a1,b1,c1⟩:=conv o av g1
  obtain ⟨a2,b2,c2⟩:=conv o' av' g2
  rw [<-c1];exact h.fdis m o o' a1 a2 b1 b2 g3 g4 g5
 ·unfold l8 at g2;rw [kL];by_cases e:k'=n
  ·subst e;rw [nZ] at g1;cases g1;rw [bK];exact ⟨[],World.ownsRow_nil _ _ _ _,bL hz,(fun c hc=>by cases hc),rfl⟩
  ·rw [kB k' (by omega) e] at g1;rw [kR k' e];exact (h.obj k' av g1 g2).move (fun _ _ _ h1 h2=>⟨h1,h2⟩) (fun ht hl=>⟨hl,by
    unfold I2;rw [kR _ (jJ k' av g1).1]⟩) (fun _ _=>rfl)
 ·unfold l8 at g2;by_cases e:k'=n
  ·subst e;rw [bK] at g4;cases g4
  ·rw [kB k' (by omega) e] at g1;rw [kR k' e] at g4 |-;exact h.blk k' av g g1 g2 g3 g4
 ·unfold l8 at g3 g4;by_cases e:k'=n
  ·subst e;rw [bK] at g8;cases g8
  ·by_cases e2:k2=n
   ·subst e2;rw [bK];intro h9;cases h9
   ·rw [kB k' (by omega) e] at g1;rw [kB k2 (by omega) e2] at g2;rw [kR k' e] at g8;rw [kR k2 e2];exact h.disj k' k2 av av' g g1 g2 g3 g4 g5 g6 g7 g8
 ·have:=U0.hf k' v g1;rw [kR k' (by omega)];exact h.fix k' v g1
end
theorem b2i {k:Nat}:∀ (l:List Nat) {ns:List Nd} {o:List Nat} {q},V4 k l ns o=some q->pw q.1=pw ns
 | [],ns,o,q,e=>by cases e;rfl
 | p::l,ns,o,q,e=>by
  rw [V4] at e;cases h:n9 k ns p with
  | none=>rw [h] at e;cases e
  | some q1 =>
   rw [h] at e;rw [b2i l e,b7T,U6 k h]
theorem b7D {k:Nat}:∀ (j i:Nat) {c:Cl} {o:List Nat} {q},a2n k j i c o=some q->pw q.1.ns=pw c.ns
 | 0,_,_,_,_,e=>by cases e
 | j+1,i,c,o,q,e=>by
  rw [a2n] at e;split at e
  ·cases e;rfl
  ·rename_i g hg;split at e
   ·cases e
   ·rename_i q1 h1;rw [b7D j _ e];show pw q1.1=_;rw [b2i _ h1,J6]
theorem c0P {c:Cl} {H r:Nat->Nat} {a b:Tm} (h:ClsC c H r [(a,b)]) (hv:Q3 c.vr) (ha:a.ten) (hb:b.ten) (hn:c.ns.length<=a.size+b.size):c.vr.length<20:=by
 have hnd:(c.vr.map Prod.snd).Nodup:=by have h1:c.vr.Pairwise (fun a b=>a.1≠b.1):=List.pairwise_map.1 hv.1;refine List.pairwise_map.2 (List.Pairwise.imp_of_mem (fun {a b} ha hb oI e=>oI ?_) h1);have e1:=(h.vrt a.1 a.2 (G5 hv.1 ha)).2;have e2:=(h.vrt b.1 b.2 (G5 hv.1 hb)).2;rw [e] at e1;omega
 have kA:∀ x∈c.vr.map Prod.snd,x<c.ns.length/\(nT c.ns x).f<0:=fun x hx=>by obtain ⟨p,hp,rfl⟩:=mem_map.1 hx;have h1:=h.vrt p.1 p.2 (G5 hv.1 hp);have h2:=hv.2 p hp;refine ⟨h1.1,?_⟩;rw [h1.2];omega
 obtain ⟨n,m,h1,h2,e1,e2,_⟩:=h.pair (a,b) (by simp);have e1:nT c.ns n=a:=e1;have e2:nT c.ns m=b:=e2;have more:∀ x,x<c.ns.length->¬ (nT c.ns x).f<0->c.vr.length+1<=c.ns.length:=fun x hx hf=>by
  have:=a1t c.ns.length (l:=x::c.vr.map Prod.snd) (List.nodup_cons.2 ⟨fun hm=>hf (kA x hm).2,hnd⟩) (fun y hy=>by
   rcases List.mem_cons.1 hy with rfl | hy
   ·exact hx
   ·exact (kA y hy).1)
  simpa using this
 have cY:=c1q h hv;have dT:=ha.2;have nN:=hb.2;by_cases f1:a.f<0
 ·by_cases f2:b.f<0
  ·have s1:=Tm.size_var f1;have s2:=Tm.size_var f2;omega
  ·have:=more m h2 (by rw [e2];exact f2);omega
 ·have:=more n h1 (by rw [e1];exact f1);omega
theorem a8H (W:World) (x y:List Lt) (hl:x.length+y.length<=1000000):AFun Tryz.prog W 95 [.lst [.lst (x.map Lt.cv),.lst (y.map Lt.cv)]] (.val (.lst ((x++y).map Lt.cv))):=by
 have h:=a2z W [x,y] (by simp) (by simp;omega);have e:[x,y].flatten=x++y:=by simp
 rw [e] at h;exact h
theorem a8W (W:World) (c:List Lt) (n:Nat) (hn:n<c.length) (hl:c.length<=100000):AFun Tryz.prog W 133 [.lst (c.map Lt.cv),.i (n:Int)] (.val (.lst ((a2p c n).map Lt.cv))):=by
 have kC:=Lt.size_all c;have gY:=fun w=>a8H w (c.take n) (c.drop (n+1)) (by rw [length_take,List.length_drop];omega);rw [List.map_take,List.map_drop] at gY;have kD:(c.map Lt.cv).length=c.length:=length_map ..;refine c9 (rs:=[.lst ((a2p c n).map Lt.cv)]) Tryz.func133 Tryz.ntmps133 rfl rfl rfl rfl ?_;intro w U hW;refine aS (aR ?_);refine nc ze ?_;refine aS (aD (by kernel_rfl) (by kernel_rfl) ?_);refine nc zl (nc zl (nc zbI (nc zl (nc zl (nc zA (nc (zbv (lo:=n+1)) (nc zy (nc (zk (z:=gY w)) (nc ze ?_)))))))));refine ⟨by kernel_rfl,?_⟩;exact aT (And.intro (.inr rfl) rfl)
theorem a7j {c:List Lt} (hl:c.length<=100000) (h:∀ l∈c,(l.a.rng/\l.a.ok)/\l.b.rng/\l.b.ok):(⟨0,G2 c⟩:Tm).rng/\(⟨0,G2 c⟩:Tm).ok:=by
 have hm:∀ s∈G2 c,s.rng/\s.ok:=fun s hs=>by
  obtain ⟨l,hl,e⟩:=b6V.1 hs;rcases e with rfl | rfl
  ·exact (h l hl).1
  ·exact (h l hl).2
 have kD:=b0e c;exact ⟨(Tm.rng_iff _).2 ⟨by show _<=(0:Int)/\(0:Int)<=_;omega,fun s hs=>(hm s hs).1⟩,(Tm.ok_iff _).2 ⟨by show (G2 c).length<=_;omega,fun s hs=>(hm s hs).2⟩⟩
theorem b0d:∀ t:Tm,a8 (i7 []) t=t.strip:=fun t=>a2R t
theorem b9w (c:List Lt):c.map (Lt.rep (i7 []))=c.map Lt.strip:=by
 refine List.map_congr_left fun l _=>?_;unfold Lt.rep Lt.strip;rw [b0d,b0d]
theorem K3 (W:World) (c:List Lt) (i:Int) (hl:c.length<=100000) (hc:∀ l∈c,(l.a.rng/\l.a.ok)/\l.b.rng/\l.b.ok):AFun Tryz.prog W 96 [.lst (c.map Lt.cv),.i i] (.val (.lst (((if 0<=i/\i<c.length then a2p c i.toNat else c).map Lt.strip).map Lt.cv))):=by
 have fW:∀ (d:List Lt) (w:World),d.length<=100000->(∀ l∈d,(l.a.rng/\l.a.ok)/\l.b.rng/\l.b.ok)->AFun Tryz.prog w 67 [.lst [],.lst (d.map Lt.cv)] (.val (.lst ((d.map Lt.strip).map Lt.cv))):=fun d w h1 h2=>by obtain ⟨g1,g2⟩:=a7j h1 h2;have:=a4g w [] d (by omega) (by simp) (fun b hb=>by cases hb) g1 g2;rw [b9w] at this;exact this
 have kC:=Lt.size_all c;refine c9 (rs:=[.lst (((if 0<=i/\i<c.length then a2p c i.toNat else c).map Lt.strip).map Lt.cv)]) Tryz.func96 Tryz.ntmps96 rfl rfl rfl rfl ?_;intro w U hW;refine aS (aR ?_);refine nc ze ?_;by_cases h0:i>=0
 ·have g0:decide (i>=0)=true:=decide_eq_true h0;by_cases h1:i<c.length
  ·have g1:decide (i<((c.map Lt.cv).length:Int))=true:=decide_eq_true (by rw [length_map];exact h1);obtain ⟨n,rfl⟩:∃ n:Nat,i=(n:Int):=⟨i.toNat,by omega⟩
   rw [if_pos ⟨h0,h1⟩,Int.toNat_natCast];have hn:n<c.length:=by omega
   have sV:=N6 hn;refine aS (aS (aR ?_));refine nc zl (nc zn (nc zl (nc (zl (p:=gb)) (nc (zl (p:=gb)) (nc (zo (r:=gb)) (nc (zi (r:=gb)) (nc zp ?_)))))));refine aC rfl (fun _=>?_) (fun h=>by rw [g1] at h;cases h);refine aR ?_;refine nc zl (nc zl (nc (zk (z:=a8W w c n hn hl)) (nc ze ?_)));refine aS (aR ?_);refine nc zl ?_;refine nc (zk (z:=fW (a2p c n) w (by omega) (fun l h=>hc l (a4T h)))) ?_;refine nc ze ?_;exact aT (And.intro (.inr rfl) rfl)
  ·have g1:decide (i<((c.map Lt.cv).length:Int))=false:=decide_eq_false (by rw [length_map];exact h1);rw [if_neg (by omega)];refine aS (aS (aR ?_));refine nc zl (nc zn (nc zl (nc (zl (p:=gb)) (nc (zl (p:=gb)) (nc (zo (r:=gb)) (nc (zi (r:=gb)) (nc zp ?_)))))));refine aC rfl (fun h=>by rw [g1] at h;cases h) (fun _=>aK ?_);refine aS (aR ?_);refine nc zl (nc (zk (z:=fW c w hl hc)) (nc ze ?_));exact aT (And.intro (.inr rfl) rfl)
 ·have g0:decide (i>=0)=false:=decide_eq_false h0;rw [if_neg (by omega)];refine aS (aS (aR ?_));refine nc zl (nc zn (nc zl (nc zq (nc zq (nc zq (nc zq (nc zr ?_)))))));refine aC rfl (fun h=>by cases h) (fun _=>aK ?_);refine aS (aR ?_);refine nc zl (nc (zk (z:=fW c w hl hc)) (nc ze ?_));exact aT (And.intro (.inr rfl) rfl)
noncomputable def clC (c:List Lt):CV := .lst (c.map Lt.cv)
theorem a9A (L:List (List Lt)):∀ x∈L.map clC,x.size=1:=by
 intro x hx;obtain ⟨c,_,rfl⟩:=mem_map.1 hx;rfl
noncomputable abbrev obE (L:List (List Lt)):AS:=[(450001,.obj),(35500100,.sl 300005 0 L.length 1),(300005,.mrow 26 1 (L.map clC))]
noncomputable abbrev b0J:List CV:=[.b false,.row [.i 0,.lst []],.row [.i 0,.lst []]]
noncomputable def sy (t:Tm):List Int->List (List Int×Tm):=
 Tm.rec (motive_1:=fun _=>List Int->List (List Int×Tm)) (motive_2:=fun _=>Nat->List Int->List (List Int×Tm))
  (fun f l ih pl=>if f<0 then [] else (pl,⟨f,l⟩)::ih 0 pl)
  (fun _ _=>[])
  (fun _ _ ih1 ih2 i pl=>ih1 (pl++[(i:Int)])++ih2 (i+1) pl) t
noncomputable def syL (l:List Tm):Nat->List Int->List (List Int×Tm):=
 Tm.rec_1 (motive_1:=fun _=>List Int->List (List Int×Tm)) (motive_2:=fun _=>Nat->List Int->List (List Int×Tm))
  (fun f l ih pl=>if f<0 then [] else (pl,⟨f,l⟩)::ih 0 pl)
  (fun _ _=>[])
  (fun _ _ ih1 ih2 i pl=>ih1 (pl++[(i:Int)])++ih2 (i+1) pl) l
theorem Z0 (t:Tm) (pl:List Int):sy t pl=if t.f<0 then [] else (pl,t)::syL t.l 0 pl:=by cases t;rfl
theorem M0 (i:Nat) (pl:List Int):syL [] i pl=[]:=rfl
theorem H3 (t:Tm) (l:List Tm) (i:Nat) (pl:List Int):syL (t::l) i pl=sy t (pl++[(i:Int)])++syL l (i+1) pl:=rfl
theorem a7F:∀ (a b:List Tm) (i:Nat) (pl:List Int),syL (a++b) i pl=syL a i pl++syL b (i+a.length) pl
 | [],b,i,pl=>by rw [nil_append,M0,nil_append];rfl
 | t::a,b,i,pl=>by rw [cons_append,H3,H3,a7F a b (i+1) pl,append_assoc,length_cons];congr 3;omega
theorem a4W {l:List Tm} {k:Nat} {x:Tm} (i:Nat) (pl:List Int) (hx:l[k]?=some x):syL (l.take (k+1)) i pl=syL (l.take k) i pl++sy x (pl++[((i+k:Nat):Int)]):=by
 have hk:k<l.length:=by
  rcases Nat.lt_or_ge k l.length with h | h
  ·exact h
  ·rw [List.getElem?_eq_none h] at hx;cases hx
 rw [take_add_one,hx,a7F];rw [show (some x).toList=[x] from rfl,H3,M0,append_nil,length_take,Nat.min_eq_left (by omega)]
theorem b7M {f:Int} {l:List Tm} {k:Nat} {x:Tm} (hx:l[k]?=some x) (pl:List Int) {i:Nat} {y:List Int×Tm} (hy:(sy x (pl++[(k:Int)]))[i]?=some y):((pl,(⟨f,l⟩:Tm))::syL l 0 pl)[1+(syL (l.take k) 0 pl).length+i]?=some y:=by
 rw [show 1+(syL (l.take k) 0 pl).length+i=((syL (l.take k) 0 pl).length+i)+1 by omega,List.getElem?_cons_succ];have h1:syL l 0 pl=syL (l.take (k+1)) 0 pl++syL (l.drop (k+1)) (0+(l.take (k+1)).length) pl:=by rw [<-a7F,take_append_drop]
 have hi:i<(sy x (pl++[(k:Int)])).length:=by
  rcases Nat.lt_or_ge i (sy x (pl++[(k:Int)])).length with h | h
  ·exact h
  ·rw [List.getElem?_eq_none h] at hy;cases hy
 rw [h1,a4W 0 pl hx,Nat.zero_add,append_assoc,List.getElem?_append_right (by omega),Nat.add_sub_cancel_left,List.getElem?_append_left hi,hy]
theorem a4E {f:Int} {l:List Tm} (hf:¬ f<0) {k:Nat} {x:Tm} (hx:l[k]?=some x):1+((l.take k).flatMap Tm.flat).length+x.size<=(Tm.mk f l).size:=by
 have h1:(Tm.mk f l).size=1+(l.flatMap Tm.flat).length:=by rw [Tm.size_eq,Tm.ps_of_sym (by show 0<=f;omega)]
 have h2:(l.flatMap Tm.flat).length=((l.take k).flatMap Tm.flat).length+((l.drop k).flatMap Tm.flat).length:=by
  conv=>lhs;rw [<-take_append_drop k l]
  rw [List.flatMap_append,length_append]
 have h3:x.flat.length<=((l.drop k).flatMap Tm.flat).length:=t8 Tm.flat (mem_of_getElem? (i:=0) (by rw [List.getElem?_drop];simpa using hx));have h4:x.flat.length=x.size:=rfl;omega
theorem b8T {f:Int} {l:List Tm} (hf:¬ f<0):l.length<(Tm.mk f l).size:=by
 rw [Tm.size_eq,Tm.ps_of_sym (by show 0<=f;omega)];have:∀ l:List Tm,l.length<=(l.flatMap Tm.flat).length:=by
  intro l
  induction l with
  | nil=>exact Nat.le_refl _
  | cons x l ih =>
   rw [List.flatMap_cons,length_append,length_cons];have:0<x.flat.length:=by rw [Tm.flat_eq];simp
   omega
 have:=this l;show l.length<1+(l.flatMap Tm.flat).length;omega
theorem c0l {U:UX} {pre:List Nat} (hU:∀ k v,U.f k=some v->l7 pre k=true) {n:Nat} (h:l7 pre n=false):U.f n=none:=by
 cases e:U.f n with
 | none=>rfl
 | some v=>rw [hU n v e] at h;cases h
noncomputable abbrev c0t (X:Nat) (pl:List Int):AS:=[(X,.mrow 3 1 (pl.map CV.i))]
noncomputable abbrev obX (L:List (List Lt)) (X:Nat) (pl:List Int):AS:=[(450001,.obj),(35500100,.sl 300005 0 L.length 1),(300005,.mrow 26 1 (L.map clC)),(X,.mrow 3 1 (pl.map CV.i))]
set_option maxHeartbeats 8000000 in
theorem b1j (Wb:World) (Ub:UX) (l0:Nat) (Ls:Nat->List (List Lt)):∀ t:Tm,∀ (j:Nat) (pl:List Int),pl.length+t.size<=1000000->(∀ i x,(sy t pl)[i]?=some x->∀ X∈[400002,400003],b7j Tryz.prog Wb Ub l0 X (obX (Ls (j+i)) X x.1) (fun _=>[.sl X 0 x.1.length 1,.val x.2.cw]) (obX (Ls (j+i+1)) X x.1))->a1f Tryz.prog Wb Ub 120 (obX (Ls (j)) 400002 (pl)) [.sl 400002 0 (pl).length 1,.val (t).cw,.val (F7 l0)] (.val (.b true)) (obX (Ls (j+(sy t pl).length)) 400002 (pl))/\a1f Tryz.prog Wb Ub 120 (obX (Ls (j)) 400003 (pl)) [.sl 400003 0 (pl).length 1,.val (t).cw,.val (F7 l0)] (.val (.b true)) (obX (Ls (j+(sy t pl).length)) 400003 (pl)):=by
 intro t
 induction t using Tm.ind with
 | h f l ih =>
 intro j pl gV hY;have kC:=Tm.size_all l;have dI:f<0\/l.length<1000000:=by
  by_cases hf:f<0
  ·exact .inl hf
  ·exact .inr (by have:=b8T hf (l:=l);omega)
 constructor
 ·refine a1q Tryz.func120 Tryz.ntmps120 rfl rfl rfl rfl (by kernel_rfl) (by kernel_rfl) ?_;intro w U bG hU;have xC:U.f 400003=none:=c0l hU (by kernel_rfl);refine aS (aR ?_);refine ne zd (nc ze ?_);refine aS (aS (aR ?_));refine nc zg (nc zh (nc zi ?_));refine aC rfl (fun hc=>?_) (fun hc=>?_)
  ·have hf:f<0:=by simpa using hc
   have e:(sy ⟨f,l⟩ pl).length=0:=by rw [Z0,if_pos hf];rfl
   rw [e,Nat.add_zero];refine aS (aR ?_);refine nc ze ?_;exact aT ⟨.inr rfl,_,Wk.refl _,rfl,rfl,rfl,rfl,rfl,trivial⟩
  have hf:¬ f<0:=by simpa using hc
  have tF:=Z0 ⟨f,l⟩ pl;rw [if_neg hf] at tF;rw [tF] at hY |-;refine aK ?_;refine AWp.wk (a7 (s':=(0,AV.sl 400002 0 pl.length 1)::(2,.val (F7 l0))::(4,.bp 4 0 [])::(100004,.bx (Tm.cw ⟨f,l⟩))::(obX (Ls (j)) 400002 pl)) ⟨rfl,rfl,rfl,rfl,rfl,rfl,rfl,rfl,trivial⟩) ?_;have pH:=hY 0 (pl,⟨f,l⟩) rfl 400002 (by simp);refine aS (aS (J4 ?_))
  (refine nxY (AOp.y (aM (gN rfl) rfl rfl rfl rfl rfl)) rfl ?_)
  (refine nxY (AOp.y (aM (gN rfl) rfl rfl rfl rfl rfl)) rfl ?_)
  (refine nxY (AOp.y (aL (gN rfl) rfl rfl rfl rfl rfl rfl rfl rfl rfl rfl rfl rfl)) rfl ?_)
  (refine nxY (a1A (u := .slice none 0 0) 0 (pH) bG (gN rfl) rfl rfl rfl rfl rfl rfl (.inr fun _ _=>rfl) (by repeat (first | exact trivial | refine ⟨rfl,?_⟩)) (by first | rfl | kernel_rfl) (by first | rfl | kernel_rfl) (by first | rfl | kernel_rfl) (i0 (by first | rfl | kernel_rfl)) rfl) rfl ?_)
  (refine nxY (AOp.y (a8u (gN rfl) rfl rfl rfl rfl rfl)) rfl ?_)
  refine aC rfl (fun hc=>by cases hc) (fun hc=>aK ?_);refine AWp.wk (a7 (s':=(0,AV.sl 400002 0 pl.length 1)::(2,.val (F7 l0))::(4,.bp 4 0 [])::(100004,.bx (Tm.cw ⟨f,l⟩))::(obX (Ls (j+1)) 400002 pl)) ⟨rfl,rfl,rfl,rfl,rfl,rfl,rfl,rfl,trivial⟩) ?_;refine aS (aS (aR ?_));refine nc zg (nc zh (nc zo (nc zl ?_)));refine aB (n5 l.length (fun k=>(0,AV.sl 400002 0 pl.length 1)::(2,.val (F7 l0))::(18,.val (.lst (l.map Tm.cv)))::(19,.val (.i (l.map Tm.cv).length))::(20,.val (.i (k)))::(obX (Ls (j+1+(syL (l.take k) 0 pl).length)) 400002 pl)) (a7 ⟨rfl,rfl,rfl,rfl,rfl,?_,?_,?_,rfl,trivial⟩) ?_)
  ·rfl
  ·rfl
  ·rfl
  intro k hk;obtain ⟨J,hJ⟩:∃ J,J=j+1+(syL (l.take k) 0 pl).length:=⟨_,rfl⟩
  refine aS (aR ?_);refine nc zi ?_;refine aS (aC rfl (fun kA=>?_) (fun kA=>?_))
  ·have kF:k<l.length:=by simpa using kA
   obtain ⟨x,hx⟩:∃ x,l[k]?=some x:=⟨l[k],getElem?_eq_getElem kF⟩
   have kS:=Tm.map_at hx;have cH:=mem_of_getElem? hx;have hszs:=a4E hf hx;have kP:syL (l.take (k+1)) 0 pl=syL (l.take k) 0 pl++sy x (pl++[(k:Int)]):=by rw [a4W 0 pl hx,Nat.zero_add]
   have jI:j+1+(syL (l.take (k+1)) 0 pl).length=J+(sy x (pl++[(k:Int)])).length:=by rw [kP,length_append,hJ];omega
   have kK:=(ih x cH J (pl++[(k:Int)]) (by rw [length_append];simp only [length_cons,length_nil];omega) (fun i y hy X hX=>by
    have h2:=hY (1+(syL (l.take k) 0 pl).length+i) y (b7M hx pl hy) X hX;have e1:j+(1+(syL (l.take k) 0 pl).length+i)=J+i:=by omega
    rw [e1] at h2;exact h2)).2
   have hpe:(pl++[(k:Int)]).length=(pl.map CV.i).length+[CV.i (k:Int)].length:=by simp
   unfold obX at kK;rw [hpe,map_append] at kK;have fZ:(pl.map CV.i).length=pl.length:=length_map ..;rw [<-hJ];refine aK ?_;refine aS (aB (aS (aR ?_)));refine nc zl (nc (zt (j:=k) (H:=kS) (hz:=kC)) (nc zu (ne zw (nc ze (nc zx ?_)))));refine AWp.wk (a7 (s':=(7,AV.val (.i (k:Int)))::(8,.bp 8 0 [])::(100008,.bx x.cw)::((0,AV.sl 400002 0 pl.length 1)::(2,.val (F7 l0))::(18,.val (.lst (l.map Tm.cv)))::(19,.val (.i (l.map Tm.cv).length))::(20,.val (.i (k)))::(obX (Ls (J)) 400002 pl))) ⟨rfl,rfl,rfl,rfl,rfl,rfl,rfl,rfl,rfl,rfl,rfl,rfl,trivial⟩) ?_;refine AWp.handle 3 400002 rfl rfl rfl rfl fun ao cap pW hao=>?_;rcases Nat.lt_or_ge (pl.map CV.i).length cap with hroom | hroom
   ·refine aS (aD (by kernel_rfl) (by kernel_rfl) ?_);refine nc zl (nc zl (nc zy (ne (zbJ 400003 3 5 (hf:=xC) (hroom:=hroom)) (nc zj (nc zl (nc (zbK bG (z:=kK) (G:=i0 (by first | rfl | kernel_rfl))) (nc zZ ?_)))))));refine ⟨by kernel_rfl,?_⟩;refine aC rfl (fun hc=>by cases hc) (fun hc=>aK ?_);refine AWp.wk (a9P 400002 400003 3 5 (pl.map CV.i).length rfl rfl rfl rfl rfl rfl rfl (by simp)) ?_;refine aR ?_;refine nc zA (nc zl ?_);refine ⟨kF,?_⟩;show Wk _ _ _ _ ((0,AV.sl 400002 0 pl.length 1)::(2,.val (F7 l0))::(18,.val (.lst (l.map Tm.cv)))::(19,.val (.i (l.map Tm.cv).length))::(20,.val (.i (((k+1:Nat):Int))))::(obX (Ls (j+1+(syL (l.take (k+1)) 0 pl).length)) 400002 pl));rw [jI];refine a7 ⟨rfl,rfl,rfl,rfl,rfl,rfl,rfl,rfl,?_,trivial⟩;show some (AV.mrow 3 1 ((pl.map CV.i++[CV.i (k:Int)]).take (pl.map CV.i).length))=_;rw [List.take_left' rfl]
   ·have wR:cap=(pl.map CV.i).length:=by omega
    subst wR;refine aS (aD (by kernel_rfl) (by kernel_rfl) ?_);refine nc zl (nc zl (nc zy (ne (zbL 400003 3 (hf:=xC)) (nc zj (nc zl (nc (zbK bG (z:=kK) (G:=i0 (by first | rfl | kernel_rfl))) (nc zZ ?_)))))));refine ⟨by kernel_rfl,?_⟩;refine aC rfl (fun hc=>by cases hc) (fun hc=>aK ?_);refine aR ?_;refine nc zA (nc zl ?_);refine ⟨kF,?_⟩;show Wk _ _ _ _ ((0,AV.sl 400002 0 pl.length 1)::(2,.val (F7 l0))::(18,.val (.lst (l.map Tm.cv)))::(19,.val (.i (l.map Tm.cv).length))::(20,.val (.i (((k+1:Nat):Int))))::(obX (Ls (j+1+(syL (l.take (k+1)) 0 pl).length)) 400002 pl));rw [jI];exact a7 ⟨rfl,rfl,rfl,rfl,rfl,rfl,rfl,rfl,rfl,trivial⟩
  ·have kF:k=l.length:=by
    have:¬ k<l.length:=by simpa using kA
    omega
   subst kF;have pO:j+((pl,(⟨f,l⟩:Tm))::syL l 0 pl).length=J:=by rw [take_length] at hJ;rw [hJ,length_cons];omega
   rw [pO,<-hJ];refine aE ?_;refine aS (aR ?_);refine nc ze ?_;exact aT ⟨.inr rfl,_,Wk.refl _,rfl,rfl,rfl,rfl,rfl,trivial⟩
 ·refine a1q Tryz.func120 Tryz.ntmps120 rfl rfl rfl rfl (by kernel_rfl) (by kernel_rfl) ?_;intro w U bG hU;have xC:U.f 400002=none:=c0l hU (by kernel_rfl);refine aS (aR ?_);refine ne zd (nc ze ?_);refine aS (aS (aR ?_));refine nc zg (nc zh (nc zi ?_));refine aC rfl (fun hc=>?_) (fun hc=>?_)
  ·have hf:f<0:=by simpa using hc
   have e:(sy ⟨f,l⟩ pl).length=0:=by rw [Z0,if_pos hf];rfl
   rw [e,Nat.add_zero];refine aS (aR ?_);refine nc ze ?_;exact aT ⟨.inr rfl,_,Wk.refl _,rfl,rfl,rfl,rfl,rfl,trivial⟩
  have hf:¬ f<0:=by simpa using hc
  have tF:=Z0 ⟨f,l⟩ pl;rw [if_neg hf] at tF;rw [tF] at hY |-;refine aK ?_;refine AWp.wk (a7 (s':=(0,AV.sl 400003 0 pl.length 1)::(2,.val (F7 l0))::(4,.bp 4 0 [])::(100004,.bx (Tm.cw ⟨f,l⟩))::(obX (Ls (j)) 400003 pl)) ⟨rfl,rfl,rfl,rfl,rfl,rfl,rfl,rfl,trivial⟩) ?_;have pH:=hY 0 (pl,⟨f,l⟩) rfl 400003 (by simp);refine aS (aS (J4 ?_))
  (refine nxY (AOp.y (aM (gN rfl) rfl rfl rfl rfl rfl)) rfl ?_)
  (refine nxY (AOp.y (aM (gN rfl) rfl rfl rfl rfl rfl)) rfl ?_)
  (refine nxY (AOp.y (aL (gN rfl) rfl rfl rfl rfl rfl rfl rfl rfl rfl rfl rfl rfl)) rfl ?_)
  (refine nxY (a1A (u := .slice none 0 0) 0 (pH) bG (gN rfl) rfl rfl rfl rfl rfl rfl (.inr fun _ _=>rfl) (by repeat (first | exact trivial | refine ⟨rfl,?_⟩)) (by first | rfl | kernel_rfl) (by first | rfl | kernel_rfl) (by first | rfl | kernel_rfl) (i0 (by first | rfl | kernel_rfl)) rfl) rfl ?_)
  (refine nxY (AOp.y (a8u (gN rfl) rfl rfl rfl rfl rfl)) rfl ?_)
  refine aC rfl (fun hc=>by cases hc) (fun hc=>aK ?_);refine AWp.wk (a7 (s':=(0,AV.sl 400003 0 pl.length 1)::(2,.val (F7 l0))::(4,.bp 4 0 [])::(100004,.bx (Tm.cw ⟨f,l⟩))::(obX (Ls (j+1)) 400003 pl)) ⟨rfl,rfl,rfl,rfl,rfl,rfl,rfl,rfl,trivial⟩) ?_;refine aS (aS (aR ?_));refine nc zg (nc zh (nc zo (nc zl ?_)));refine aB (n5 l.length (fun k=>(0,AV.sl 400003 0 pl.length 1)::(2,.val (F7 l0))::(18,.val (.lst (l.map Tm.cv)))::(19,.val (.i (l.map Tm.cv).length))::(20,.val (.i (k)))::(obX (Ls (j+1+(syL (l.take k) 0 pl).length)) 400003 pl)) (a7 ⟨rfl,rfl,rfl,rfl,rfl,?_,?_,?_,rfl,trivial⟩) ?_)
  ·rfl
  ·rfl
  ·rfl
  intro k hk;obtain ⟨J,hJ⟩:∃ J,J=j+1+(syL (l.take k) 0 pl).length:=⟨_,rfl⟩
  refine aS (aR ?_);refine nc zi ?_;refine aS (aC rfl (fun kA=>?_) (fun kA=>?_))
  ·have kF:k<l.length:=by simpa using kA
   obtain ⟨x,hx⟩:∃ x,l[k]?=some x:=⟨l[k],getElem?_eq_getElem kF⟩
   have kS:=Tm.map_at hx;have cH:=mem_of_getElem? hx;have hszs:=a4E hf hx;have kP:syL (l.take (k+1)) 0 pl=syL (l.take k) 0 pl++sy x (pl++[(k:Int)]):=by rw [a4W 0 pl hx,Nat.zero_add]
   have jI:j+1+(syL (l.take (k+1)) 0 pl).length=J+(sy x (pl++[(k:Int)])).length:=by rw [kP,length_append,hJ];omega
   have kK:=(ih x cH J (pl++[(k:Int)]) (by rw [length_append];simp only [length_cons,length_nil];omega) (fun i y hy X hX=>by
    have h2:=hY (1+(syL (l.take k) 0 pl).length+i) y (b7M hx pl hy) X hX;have e1:j+(1+(syL (l.take k) 0 pl).length+i)=J+i:=by omega
    rw [e1] at h2;exact h2)).1
   have hpe:(pl++[(k:Int)]).length=(pl.map CV.i).length+[CV.i (k:Int)].length:=by simp
   unfold obX at kK;rw [hpe,map_append] at kK;have fZ:(pl.map CV.i).length=pl.length:=length_map ..;rw [<-hJ];refine aK ?_;refine aS (aB (aS (aR ?_)));refine nc zl (nc (zt (j:=k) (H:=kS) (hz:=kC)) (nc zu (ne zw (nc ze (nc zx ?_)))));refine AWp.wk (a7 (s':=(7,AV.val (.i (k:Int)))::(8,.bp 8 0 [])::(100008,.bx x.cw)::((0,AV.sl 400003 0 pl.length 1)::(2,.val (F7 l0))::(18,.val (.lst (l.map Tm.cv)))::(19,.val (.i (l.map Tm.cv).length))::(20,.val (.i (k)))::(obX (Ls (J)) 400003 pl))) ⟨rfl,rfl,rfl,rfl,rfl,rfl,rfl,rfl,rfl,rfl,rfl,rfl,trivial⟩) ?_;refine AWp.handle 3 400003 rfl rfl rfl rfl fun ao cap pW hao=>?_;rcases Nat.lt_or_ge (pl.map CV.i).length cap with hroom | hroom
   ·refine aS (aD (by kernel_rfl) (by kernel_rfl) ?_);refine nc zl (nc zl (nc zy (ne (zbJ 400002 3 5 (hf:=xC) (hroom:=hroom)) (nc zj (nc zl (nc (zbK bG (z:=kK) (G:=i0 (by first | rfl | kernel_rfl))) (nc zZ ?_)))))));refine ⟨by kernel_rfl,?_⟩;refine aC rfl (fun hc=>by cases hc) (fun hc=>aK ?_);refine AWp.wk (a9P 400003 400002 3 5 (pl.map CV.i).length rfl rfl rfl rfl rfl rfl rfl (by simp)) ?_;refine aR ?_;refine nc zA (nc zl ?_);refine ⟨kF,?_⟩;show Wk _ _ _ _ ((0,AV.sl 400003 0 pl.length 1)::(2,.val (F7 l0))::(18,.val (.lst (l.map Tm.cv)))::(19,.val (.i (l.map Tm.cv).length))::(20,.val (.i (((k+1:Nat):Int))))::(obX (Ls (j+1+(syL (l.take (k+1)) 0 pl).length)) 400003 pl));rw [jI];refine a7 ⟨rfl,rfl,rfl,rfl,rfl,rfl,rfl,rfl,?_,trivial⟩;show some (AV.mrow 3 1 ((pl.map CV.i++[CV.i (k:Int)]).take (pl.map CV.i).length))=_;rw [List.take_left' rfl]
   ·have wR:cap=(pl.map CV.i).length:=by omega
    subst wR;refine aS (aD (by kernel_rfl) (by kernel_rfl) ?_);refine nc zl (nc zl (nc zy (ne (zbL 400002 3 (hf:=xC)) (nc zj (nc zl (nc (zbK bG (z:=kK) (G:=i0 (by first | rfl | kernel_rfl))) (nc zZ ?_)))))));refine ⟨by kernel_rfl,?_⟩;refine aC rfl (fun hc=>by cases hc) (fun hc=>aK ?_);refine aR ?_;refine nc zA (nc zl ?_);refine ⟨kF,?_⟩;show Wk _ _ _ _ ((0,AV.sl 400003 0 pl.length 1)::(2,.val (F7 l0))::(18,.val (.lst (l.map Tm.cv)))::(19,.val (.i (l.map Tm.cv).length))::(20,.val (.i (((k+1:Nat):Int))))::(obX (Ls (j+1+(syL (l.take (k+1)) 0 pl).length)) 400003 pl));rw [jI];exact a7 ⟨rfl,rfl,rfl,rfl,rfl,rfl,rfl,rfl,rfl,trivial⟩
  ·have kF:k=l.length:=by
    have:¬ k<l.length:=by simpa using kA
    omega
   subst kF;have pO:j+((pl,(⟨f,l⟩:Tm))::syL l 0 pl).length=J:=by rw [take_length] at hJ;rw [hJ,length_cons];omega
   rw [pO,<-hJ];refine aE ?_;refine aS (aR ?_);refine nc ze ?_;exact aT ⟨.inr rfl,_,Wk.refl _,rfl,rfl,rfl,rfl,rfl,trivial⟩
theorem a5n (W:World) (t:Tm):AFun Tryz.prog W 91 [t.cw] (.val (.fn 119 0 [.ptr t.cw])):=by
 refine c9 (rs:=[.fn 119 0 [.ptr t.cw]]) Tryz.func91 Tryz.ntmps91 rfl rfl rfl rfl ?_;intro w U hW;refine aS (aR ?_);refine nc zd (nc ze ?_);refine AWp.wk (p9 1 rfl rfl rfl (s':=[]) trivial rfl rfl rfl) ?_;refine aS (aR ?_);refine nc zG (nc ze ?_);exact aT ⟨.inr rfl,rfl⟩
set_option maxHeartbeats 2000000 in
theorem a8K (t:Tm) (kC:t.size<=1000000) (Ls:Nat->List (List Lt)):a0V Tryz.prog 119 [.ptr t.cw] [400002,400003] (fun X x=>c0t X x.1) (fun X x _=>[.sl X 0 x.1.length 1,.val x.2.cw]) (sy t []) (fun k=>obE (Ls k)):=by
 intro Wb Ub l0 hY;have hw:=(b1j Wb Ub l0 Ls t 0 [] (by simpa using kC) (fun i x hx X hX=>by have:=hY i x hx X hX;rw [show 0+i=i by omega];exact this)).1
 rw [Nat.zero_add] at hw;have kK:a1f Tryz.prog Wb Ub 120 (obE (Ls 0)) [.own (.lst []) 1,.val t.cw,.val (F7 l0)] (.val (.b true)) (obE (Ls (sy t []).length)):=b4l 400002 3 1 (cs:=[t.cw,F7 l0]) rfl rfl (by kernel_rfl) rfl hw;refine a1q Tryz.func119 Tryz.ntmps119 rfl rfl rfl rfl (by kernel_rfl) (by kernel_rfl) ?_;intro w U bG hU;show AWp _ _ _ _ _ _ ((0,AV.val (F7 l0))::(1,.val (.ptr t.cw))::obE (Ls 0));refine aR ?_;refine nc zI (nc zl (nc (zbK bG (z:=kK) (G:=i0 (by first | rfl | kernel_rfl))) ?_));exact ⟨.inl rfl,_,Wk.refl _,rfl,rfl,rfl,rfl,trivial⟩
theorem a8C (W:World) (a b:Tm) (ha:a.rng/\a.ok/\a.size<=1000000) (hb:b.rng/\b.ok/\b.size<=1000000):AFun Tryz.prog W 38 [a.cw,b.cw] (.val (.b (C9 a b))):=by
 have hk:=fun w=>a9E w a b ha.1 ha.2.1 (by omega) hb.1 hb.2.1 (by omega);obtain ⟨k,gF⟩:∃ k,k=kb a b:=⟨_,rfl⟩
 have he:C9 a b=decide (k=1\/k=2):=by rw [gF];rfl
 rw [<-gF] at hk;rw [he];refine c9 (rs:=[.b (decide (k=1\/k=2))]) Tryz.func38 Tryz.ntmps38 rfl rfl rfl rfl ?_;intro w U hW;refine aS (aR ?_);refine nc zd (nc zd (nc ze ?_));refine aS (aR ?_);refine nc zj (nc zj (nc (zk (z:=hk w)) (nc ze ?_)));by_cases h1:k=1
 ·have g:decide (k=1)=true:=decide_eq_true h1;rw [decide_eq_true (Or.inl h1)];refine aS (aR ?_);refine nc zl (nc zD (nc zl (nc zq (nc zq (nc zp (nc ze ?_))))));exact aT (And.intro (.inr rfl) rfl)
 ·have g:decide (k=1)=false:=decide_eq_false h1;have e:decide (k=1\/k=2)=decide (k=2):=by simp [h1]
  rw [e];refine aS (aR ?_);refine nc zl (nc zD (nc zl (nc (zl (p:=gb)) (nc (zD (r:=gb)) (nc zr (nc ze ?_))))));exact aT (And.intro (.inr rfl) rfl)
def upL (n:Nat):List Int:=(List.range n).map fun (k:Nat)=>(k:Int)
theorem b8i (n:Nat):(upL n).length=n:=by unfold upL;simp
structure Wy where
 n:Int
 a:Tm
 b:Tm
noncomputable def Wy.cv (w:Wy):CV := .row [.i w.n,.row [.i w.a.f,.lst (w.a.l.map Tm.cv)],.row [.i w.b.f,.lst (w.b.l.map Tm.cv)]]
def wy2 (n:Int) (l:Lt):List Wy:=[⟨n,l.a,l.b⟩,⟨n,l.b,l.a⟩]
noncomputable def a4j (ld:Tm->Tm->Bool) (c:List Lt) (n:Int):List Wy:=match c[n.toNat]? with
 | some l=>(wy2 n l).filter fun w=>ld w.a w.b
 | none=>[]
noncomputable def B7 (ld:Tm->Tm->Bool) (c:List Lt) (L:List Int):List Wy:=L.flatMap (a4j ld c)
theorem a6E {ld:Tm->Tm->Bool} {c:List Lt} {L:List Int} {k:Nat} {n:Int} (h:L[k]?=some n):B7 ld c (L.take (k+1))=B7 ld c (L.take k)++a4j ld c n:=by
 unfold B7;rw [take_add_one,h,List.flatMap_append];simp
theorem b6Y (n:Int) (l:Lt):∀ x∈(wy2 n l).map Wy.cv,x.size=5:=by
 intro x hx;obtain ⟨w,_,rfl⟩:=mem_map.1 hx;rfl
theorem c0J {ld:Tm->Tm->Bool} {c:List Lt} {L:List Int} {k:Nat} {n:Int} {l:Lt} (h:L[k]?=some n) (hl:c[n.toNat]?=some l) {j:Nat} {w:Wy} (hj:(wy2 n l)[j]?=some w) (uB:ld w.a w.b=true):(B7 ld c L)[(B7 ld c (L.take k)).length+(((wy2 n l).take j).filter fun w=>ld w.a w.b).length]?=some w:=by
 have h1:B7 ld c L=B7 ld c (L.take (k+1))++B7 ld c (L.drop (k+1)):=by
  conv=>lhs;rw [<-take_append_drop (k+1) L]
  unfold B7;rw [List.flatMap_append]
 have h2:a4j ld c n=(wy2 n l).filter fun w=>ld w.a w.b:=by unfold a4j;rw [hl]
 have h3:(wy2 n l).filter (fun w=>ld w.a w.b)=((wy2 n l).take j).filter (fun w=>ld w.a w.b)++(w::((wy2 n l).drop (j+1)).filter fun w=>ld w.a w.b):=by
  conv=>lhs;rw [<-take_append_drop j (wy2 n l),U3 hj]
  rw [List.filter_append,List.filter_cons,if_pos uB]
 rw [h1,a6E h,h2,h3,append_assoc,List.getElem?_append_right (by omega),Nat.add_sub_cancel_left,append_assoc,List.getElem?_append_right (by omega),Nat.sub_self];rfl
section
variable {P:Program} {w0:World} {U0:UX} {nt:Nat} {s:AS}
variable {ops:Array Oper} {o:Oper} {S:Nat->Option AV} {gs:List Nat} {d:Nat}
theorem b4g (hg:Gd w0 U0 nt ops o gs S) (hd:o.dst=some d) (hn:Nat.blt d nt=true) (h5:Nat.blt d 100000=true) {ty:TypeId} {v:Value} {c:CV} (ho:o.op = .alloc ty) (hi:(P.info? ty).map (·.zero)=some (some v)) (hc:(v = .slice none 0 0/\c = .lst [])\/(v.oneCell'=true/\c = .sc v)):AOp P w0 U0 nt ops o gs [(d,[])] S [(d,.bp d 0 []),(100000+d,.bx c)]:=by
 intro s hs hN a w ⟨D,hv,h⟩ Q K hK;rw [if_pos (hg s hs a w D hv h)];obtain ⟨it,bT,cO⟩:∃ it,P.info? ty=some it/\it.zero=some v:=by
  cases e:P.info? ty with
  | none=>rw [e] at hi;cases hi
  | some it=>rw [e] at hi;exact ⟨it,rfl,by simpa using hi⟩
 have gG:Rep (Us w0 U0 D) w c [v]/\v.cells = #[v]:=by
  rcases hc with ⟨rfl,rfl⟩ | ⟨h1,rfl⟩
  ·exact ⟨N1.2 ⟨none,0,0,rfl,rfl,by omega,(by unfold maxLen;omega),(fun _=>⟨rfl,rfl⟩),[],.inl rfl,rfl⟩,rfl⟩
  ·exact ⟨K0.2 ⟨rfl,h1⟩,by cases v<;>first | rfl | simp [Value.oneCell'] at h1⟩
 have he:(execOp a.eval o).run P w = .ok (.value (.pointer (some ⟨w.heap.size,0,none⟩))) (w.alloc (.cells #[v] ty)):=by simp [execOp,ho,Instr.alloc,zeroValue,typeInfo,bT,cO,B8,gG.2]
 unfold Oper.wp;rw [he,Oper.upon_value,hd];exact hK _ _ ⟨_,_,h.newbox (d:=d) (av := .bx c) (xs:=[v]) (hN (d,[]) (by simp)).nr (bL hn) (bL h5) (.inl rfl) ty (fun _=>gG.1) (fun _ hl=>absurd hl A3)⟩
theorem zbM {P:Program} {w0:World} {U0:UX} {nt:Nat} {ops:Array Oper} {o:Oper} {S:Nat->Option AV} {gs:List Nat} {d:Nat} {ty:TypeId} {v:Value} {c:CV} (p:Gd w0 U0 nt ops o gs S:=by exact gN rfl) (q:o.dst=some d:=by exact rfl) (r:Nat.blt d nt=true:=by exact rfl) (t:Nat.blt d 100000=true:=by exact rfl) (u:o.op = .alloc ty:=by exact rfl) (x:(P.info? ty).map (·.zero)=some (some v):=by exact rfl) (y:(v = .slice none 0 0/\c = .lst [])\/(v.oneCell'=true/\c = .sc v):=by first | exact .inl ⟨rfl,rfl⟩ | exact .inr ⟨rfl,rfl⟩):AOp P w0 U0 nt ops o gs [(d,[])] S [(d,.bp d 0 []),(100000+d,.bx c)]:=b4g p q r t u x y
theorem a4G (d:Nat) {c:CV} (h1:look s d=some (.val (.ptr c))) (hd:Nat.blt d 100000=true):Wk w0 U0 nt s ((d,.ad c)::s):=by
 rintro a w ⟨D,hv,h⟩;obtain ⟨v,g1,g2⟩:=h.slot d _ h1 (bL hd);obtain ⟨b,off,xs,e1,e2,e3⟩:=X8.1 g2.1;exact ⟨D,hv,h.know (bL hd) g1 ⟨b,off,xs,e1,e2,e3⟩⟩
end
noncomputable abbrev ruC (fl fd:Nat):CV := .row [.fn fl 0 [],.fn fd 0 []]
theorem a3K (W:World) (fl fd:Nat) (c:List Lt) (L:List Int) (kB:∀ w,AFun Tryz.prog w fl [.lst (c.map Lt.cv)] (.val (.lst (L.map CV.i)))):AFun Tryz.prog W 89 [ruC fl fd,.lst (c.map Lt.cv)] (.val (.fn 118 0 [.ptr (.lst (L.map CV.i)),.ptr (.lst (c.map Lt.cv)),.ptr (ruC fl fd)])):=by
 refine c9 (rs:=[.fn 118 0 [.ptr (.lst (L.map CV.i)),.ptr (.lst (c.map Lt.cv)),.ptr (ruC fl fd)]]) Tryz.func89 Tryz.ntmps89 rfl rfl rfl rfl ?_;intro w U hW;have hv:AFunV Tryz.prog w (.fn fl 0 []) [.lst (c.map Lt.cv)] (.val (.lst (L.map CV.i))):=⟨fl,0,[],rfl,by simpa using kB w⟩
 refine aS (aR ?_);refine nc zd (nc zd (nc ze ?_));refine aS (aR ?_);refine nc zg (nc zh (nc zj (nc (zH (E:=hv)) (nc zbM (nc zx ?_)))));refine AWp.wk ((p9 5 rfl rfl rfl (s':=[(2,AV.bp 2 0 []),(100002,.bx (ruC fl fd)),(3,.bp 3 0 []),(100003,.bx (.lst (c.map Lt.cv)))]) ⟨rfl,rfl,rfl,rfl,trivial⟩ rfl rfl rfl).trans ((p9 3 rfl rfl rfl (s':=[(5,AV.val (.ptr (.lst (L.map CV.i)))),(2,AV.bp 2 0 []),(100002,.bx (ruC fl fd))]) ⟨rfl,rfl,rfl,trivial⟩ rfl rfl rfl).trans (p9 2 rfl rfl rfl (s':=[(5,AV.val (.ptr (.lst (L.map CV.i)))),(3,.val (.ptr (.lst (c.map Lt.cv))))]) ⟨rfl,rfl,trivial⟩ rfl rfl rfl))) ?_;refine aS (aR ?_);refine nc zG (nc ze ?_);exact aT ⟨.inr rfl,rfl⟩
set_option maxHeartbeats 8000000 in
theorem a0N (fl fd:Nat) (ld:Tm->Tm->Bool) (c:List Lt) (hc:c.length<=1000000) (L:List Int) (hL:∀ n∈L,0<=n/\n<c.length) (mP:L.length<=1000000) (hd:∀ w,∀ l∈c,AFun Tryz.prog w fd [l.a.cw,l.b.cw] (.val (.b (ld l.a l.b)))/\AFun Tryz.prog w fd [l.b.cw,l.a.cw] (.val (.b (ld l.b l.a)))) (Ls:Nat->List (List Lt)):a0V Tryz.prog 118 [.ptr (.lst (L.map CV.i)),.ptr (.lst (c.map Lt.cv)),.ptr (ruC fl fd)] [0] (fun _ _=>[]) (fun _ x _=>[.val x.cv]) (B7 ld c L) (fun k=>obE (Ls k)):=by
 intro Wb Ub l0 hY;refine a1q Tryz.func118 Tryz.ntmps118 rfl rfl rfl rfl (by kernel_rfl) (by kernel_rfl) ?_;intro w U bG hU;show AWp _ _ _ _ _ _ ((0,AV.val (F7 l0))::(1,.val (.ptr (.lst (L.map CV.i))))::(2,.val (.ptr (.lst (c.map Lt.cv))))::(3,.val (.ptr (ruC fl fd)))::obE (Ls 0));have lF:=Lt.size_all c;refine aS (aR ?_);refine nc zI (nc zo (nc zl ?_));refine AWp.wk (a4G 3 rfl rfl) ?_;refine aB (n5 L.length (fun k=>(0,AV.val (F7 l0))::(2,.val (.ptr (.lst (c.map Lt.cv))))::(3,.ad (ruC fl fd))::(9,.val (.lst (L.map CV.i)))::(10,.val (.i (L.map CV.i).length))::(11,.val (.i (k:Int)))::obE (Ls (B7 ld c (L.take k)).length)) (a7 ⟨rfl,rfl,rfl,rfl,rfl,rfl,rfl,rfl,rfl,trivial⟩) ?_);intro k hk;obtain ⟨J,hJ⟩:∃ J,J=(B7 ld c (L.take k)).length:=⟨_,rfl⟩
 refine aS (aR ?_);refine nc zi ?_;refine aS (aC rfl (fun kA=>?_) (fun kA=>?_))
 ·have kF:k<L.length:=by simpa using kA
  obtain ⟨n,hn⟩:∃ n,L[k]?=some n:=⟨L[k],getElem?_eq_getElem kF⟩
  obtain ⟨m,hm⟩:∃ m:Nat,n=(m:Int):=⟨n.toNat,by have:=(hL n (mem_of_getElem? hn)).1;omega⟩
  subst hm;have hmc:m<c.length:=by have:=(hL _ (mem_of_getElem? hn)).2;omega
  obtain ⟨l,hl⟩:∃ l,c[m]?=some l:=⟨c[m],getElem?_eq_getElem hmc⟩
  have fZ:=mem_of_getElem? hl;have cA:=Lt.map_at hl;have gP:(L.map CV.i)[k]?=some (.i (m:Int)):=by rw [List.getElem?_map,hn];rfl
  have hsi:=p8 L;have hwN:a4j ld c (m:Int)=(wy2 m l).filter fun w=>ld w.a w.b:=by unfold a4j;rw [Int.toNat_natCast,hl]
  have kP:=a6E (ld:=ld) (c:=c) hn;rw [<-hJ];refine aK ?_;refine aS (aB (aS (aR ?_)));refine nc (zt (j:=k) (H:=gP) (hz:=hsi)) (nc zu (nc ze ?_));refine aS (aD (by kernel_rfl) (by kernel_rfl) ?_);refine nc zl (nc zI (nc zl (nc (zt (j:=m) (H:=cA) (hz:=lF)) (nc zbH (nc zu (nc zI (nc zl (nc (zt (j:=m) (H:=cA) (hz:=lF)) (nc zbH (nc zu (nc zC (nc zl (nc zI (nc zl (nc (zt (j:=m) (H:=cA) (hz:=lF)) (nc zbH (nc zu (nc zI (nc zl (nc (zt (j:=m) (H:=cA) (hz:=lF)) (nc zbH (nc zu (nc zC ?_)))))))))))))))))))))));refine nc zy (nc zo (nc zl ?_));refine ⟨by kernel_rfl,?_⟩;have hws:=b6Y m l;refine aB (n5 2 (fun j=>(0,AV.val (F7 l0))::(3,.ad (ruC fl fd))::(2,.val (.ptr (.lst (c.map Lt.cv))))::(9,.val (.lst (L.map CV.i)))::(10,.val (.i (L.map CV.i).length))::(11,.val (.i (k:Int)))::(39,.val (.lst ((wy2 m l).map Wy.cv)))::(40,.val (.i 2))::(41,.val (.i (j:Int)))::obE (Ls (J+(((wy2 m l).take j).filter fun w=>ld w.a w.b).length))) (a7 ⟨rfl,rfl,rfl,rfl,rfl,rfl,rfl,rfl,rfl,rfl,rfl,rfl,trivial⟩) ?_);intro j hj;obtain ⟨J2,jI⟩:∃ J2,J2=J+(((wy2 m l).take j).filter fun w=>ld w.a w.b).length:=⟨_,rfl⟩
  refine aS (aR ?_);refine nc zi ?_;refine aS (aC rfl (fun kA=>?_) (fun kA=>?_))
  ·have iF:j<2:=by have:=of_decide_eq_true kA;omega
   obtain ⟨x,hx⟩:∃ x,(wy2 m l)[j]?=some x:=⟨_,getElem?_eq_getElem iF⟩
   have kS:((wy2 m l).map Wy.cv)[j]?=some x.cv:=by rw [List.getElem?_map,hx];rfl
   have lE:x.cv = .row [.i x.n,x.a.cw,x.b.cw]:=rfl;rw [lE] at kS;have dG:∀ w,AFunV Tryz.prog w (.fn fd 0 []) [x.a.cw,x.b.cw] (.val (.b (ld x.a x.b))):=fun w=>⟨fd,0,[],rfl,by
    have h1:=hd w l fZ;show AFun _ _ _ ([]++([x.a.cw,x.b.cw]++[])) _
    match j,iF,hx with
    | 0,_,hx=>cases hx;exact h1.1
    | 1,_,hx=>cases hx;exact h1.2⟩
   have iX:((wy2 m l).take (j+1)).filter (fun w=>ld w.a w.b)=((wy2 m l).take j).filter (fun w=>ld w.a w.b)++(if ld x.a x.b=true then [x] else []):=by rw [take_add_one,hx,Option.toList_some,List.filter_append,List.filter_cons,List.filter_nil]
   rw [<-jI];refine aK ?_;refine aS (aB (aS (aR ?_)));refine nc (zt (j:=j) (H:=kS) (hz:=hws)) (nc zu (ne zw (nc zx ?_)));obtain ⟨b,hb⟩:∃ b,b=ld x.a x.b:=⟨_,rfl⟩
   have bZ:=dG w;rw [<-hb] at bZ iX;cases b with
   | false =>
    refine aS (aR ?_);refine nc zbH (nc zu (nc zg (nc zh (nc zg (nc zh (nc (zH (E:=bZ)) (nc zl (nc zq (nc zq (nc zq (nc zq (nc zr ?_))))))))))));refine aC rfl (fun hc=>by cases hc) (fun hc=>aK ?_);refine aR ?_;refine nc zA (nc zl ?_);refine ⟨iF,?_⟩;have e:J+(((wy2 m l).take (j+1)).filter fun w=>ld w.a w.b).length=J2:=by rw [iX,if_neg (by simp),append_nil,jI]
    show Wk _ _ _ _ ((0,AV.val (F7 l0))::(3,.ad (ruC fl fd))::(2,.val (.ptr (.lst (c.map Lt.cv))))::(9,.val (.lst (L.map CV.i)))::(10,.val (.i (L.map CV.i).length))::(11,.val (.i (k:Int)))::(39,.val (.lst ((wy2 m l).map Wy.cv)))::(40,.val (.i 2))::(41,.val (.i ((j+1:Nat):Int)))::obE (Ls (J+(((wy2 m l).take (j+1)).filter fun w=>ld w.a w.b).length)));rw [e];exact a7 ⟨rfl,rfl,rfl,rfl,rfl,rfl,rfl,rfl,rfl,rfl,rfl,rfl,trivial⟩
   | true =>
    have pH:=hY J2 x (by rw [jI,hJ];exact c0J hn (by rw [Int.toNat_natCast];exact hl) hx hb.symm) 0 (by simp);have pH:b7j Tryz.prog Wb Ub l0 0 (obE (Ls J2)) (fun _=>[.val (.row [.i x.n,x.a.cw,x.b.cw])]) (obE (Ls (J2+1))):=pH;refine aS (J4 ?_)
    (refine nxY (AOp.y (a3y (gN rfl) rfl rfl rfl rfl rfl rfl rfl rfl rfl rfl rfl)) rfl ?_)
    (refine nxY (AOp.y (a6K (gN rfl) rfl rfl rfl rfl rfl rfl rfl rfl rfl)) rfl ?_)
    (refine nxY (AOp.y (aF (gN rfl) rfl rfl rfl rfl rfl rfl rfl rfl rfl)) rfl ?_)
    (refine nxY (AOp.y (aLb (gN rfl) rfl rfl rfl rfl rfl rfl rfl rfl rfl rfl rfl rfl)) rfl ?_)
    (refine nxY (AOp.y (aF (gN rfl) rfl rfl rfl rfl rfl rfl rfl rfl rfl)) rfl ?_)
    (refine nxY (AOp.y (aLb (gN rfl) rfl rfl rfl rfl rfl rfl rfl rfl rfl rfl rfl rfl)) rfl ?_)
    (refine nxY (AOp.y (a7s (gN rfl) rfl rfl rfl rfl rfl rfl (bZ))) rfl ?_)
    (refine nxY (AOp.y (aM (gN rfl) rfl rfl rfl rfl rfl)) rfl ?_)
    (refine nxY (AOp.y (aM gb rfl rfl rfl rfl rfl)) rfl ?_)
    (refine nxY (AOp.y (aL gb rfl rfl rfl rfl rfl rfl rfl rfl rfl rfl rfl rfl)) rfl ?_)
    (refine nxY (a1A (u := .slice none 0 0) 0 (pH) bG gb rfl rfl rfl rfl rfl rfl (.inr fun _ _=>rfl) (by repeat (first | exact trivial | refine ⟨rfl,?_⟩)) (by first | rfl | kernel_rfl) (by first | rfl | kernel_rfl) (by first | rfl | kernel_rfl) (i0 (by first | rfl | kernel_rfl)) rfl) rfl ?_)
    (refine nxY (AOp.y (a8u gb rfl rfl rfl rfl rfl)) rfl ?_)
    (refine ⟨_,_,_,AOp.y (aPt (gN rfl) rfl rfl rfl rfl rfl ?hb rfl),rfl,?_⟩;case hb=>(first | rfl | assumption | (simp;done)))
    refine aC rfl (fun hc=>by cases hc) (fun hc=>aK ?_);refine aR ?_;refine nc zA (nc zl ?_);refine ⟨iF,?_⟩;have e:J+(((wy2 m l).take (j+1)).filter fun w=>ld w.a w.b).length=J2+1:=by rw [iX,if_pos rfl,length_append,jI];rfl
    show Wk _ _ _ _ ((0,AV.val (F7 l0))::(3,.ad (ruC fl fd))::(2,.val (.ptr (.lst (c.map Lt.cv))))::(9,.val (.lst (L.map CV.i)))::(10,.val (.i (L.map CV.i).length))::(11,.val (.i (k:Int)))::(39,.val (.lst ((wy2 m l).map Wy.cv)))::(40,.val (.i 2))::(41,.val (.i ((j+1:Nat):Int)))::obE (Ls (J+(((wy2 m l).take (j+1)).filter fun w=>ld w.a w.b).length)));rw [e];exact a7 ⟨rfl,rfl,rfl,rfl,rfl,rfl,rfl,rfl,rfl,rfl,rfl,rfl,trivial⟩
  ·have iF:j=2:=by
    have:¬ j<2:=by have:=of_decide_eq_false kA;omega
    omega
   subst iF;rw [<-jI];refine aE ?_;refine aR ?_;refine nc zA (nc zl ?_);refine ⟨kF,?_⟩;have e:(B7 ld c (L.take (k+1))).length=J2:=by rw [kP,hwN,length_append,jI,hJ];rfl
   show Wk _ _ _ _ ((0,AV.val (F7 l0))::(2,.val (.ptr (.lst (c.map Lt.cv))))::(3,.ad (ruC fl fd))::(9,.val (.lst (L.map CV.i)))::(10,.val (.i (L.map CV.i).length))::(11,.val (.i ((k+1:Nat):Int)))::obE (Ls (B7 ld c (L.take (k+1))).length));rw [e];exact a7 ⟨rfl,rfl,rfl,rfl,rfl,rfl,rfl,rfl,rfl,trivial⟩
 ·have kF:k=L.length:=by
   have:¬ k<L.length:=by simpa using kA
   omega
  subst kF;rw [take_length];refine aE ?_;exact ⟨.inl rfl,_,Wk.refl _,rfl,rfl,rfl,rfl,trivial⟩
end Go.Proofs.YteegmcfobgpemaaGreat
