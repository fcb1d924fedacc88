/-
 AbMark AbNest AbNest2 AbNest3 AbNest4 AbDel AbRowO AbHdl AbYield AbYield2 AbYield3 SbFns SbApply SbVars SbSmall TmOrd RfSame RfLess RfFlat RfVars AbOf SbVnt SbRen SbSort
-/
import Derived.Test.YteegmcfobgpemaaGreatMg3
import Derived.RangeFuncNested
import Derived.Test.YteegmcfobgpemaaGreatMg2
namespace Go.Proofs.YteegmcfobgpemaaGreat
open List (all_cons all_eq_true flatMap_cons flatMap_def foldl_cons getElem?_eq_getElem getElem?_eq_none length_append length_cons length_map length_nil length_set length_take map_append map_congr_left map_cons map_map map_nil mem_append mem_append_left mem_append_right mem_cons mem_flatMap mem_map mem_of_mem_drop mem_of_mem_take sum_cons take_append_drop)
open Go.RowKit
set_option linter.unusedVariables false
set_option linter.unusedSimpArgs false
set_option maxRecDepth 100000
section
open Go.RowKit Go.MapKept
section
variable{P:Program}{w0:World}{U0:UX}{nt:Nat}{ops:Array Oper}{o:Oper}{S:Nat->Option AV}{gs:List Nat}{d:Nat}{s:AS}{a:Act}{w:World}{D:Nat->Nat->Prop}{hv:Nat->Value}
theorem a2P{c:Code}{Q Q':Exit->AS->Nat->Prop}(h:a2l P w0 U0 nt c Q s)(hq:∀e s g,Q e s g->Q' e s g):a2l P w0 U0 nt c Q' s:=λa w hs =>
 wpIn_mono (h a w hs) λe a' w' ⟨s',a'',g,h1,h2⟩=>⟨s',a'',g,hq _ _ _ h1,h2⟩
theorem a2k{c:Code}{Q:Exit->AS->Nat->Prop}{s':AS}(h:Wk w0 U0 nt s s')(h2:a2l P w0 U0 nt c Q s'):a2l P w0 U0 nt c Q s:=λa w hs=>h2 a w (h a w hs)
theorem b6d {f : FuncId} {fn : Func} {c : Code} {pre post : AS} {args : List AV} {r : AV} (hf : P.funcs[f]? = some fn) (hn : fn.ntmps = nt) (gM : (fn.name == "runtime.NumGoroutine") = false) (hb : fn.body = some c) (hl : Nat.ble args.length nt = true) (cG : Nat.blt nt 100000 = true) (gB : (kO pre).all (Nat.ble 100000) = true) (kS : (kO post).all (Nat.ble 100000) = true)
  (h:∀(w:World) (U:UX),(∀k v,U.f k=some v->l7 (kO pre) k=true)->a2l P w U nt c (λe s' g=>(e=.normal\/e=.ret)/\∃s2,Wk w U nt s' ((299999,.ob g 0)::s2)/\b6L P s2 fn.results.toList=some r/\SubL s2 post/\look s2 299999=none) (D7 args 0++pre)):r8 P f pre args r post:=by
 refine⟨x0 hf gM (by rw[hb];rfl),λU w hv a0 vs hU gE hargs=>?_⟩;have kD:=hargs.len;refine callsIn_wide.1 (callsIn_of_wp_marks (F:=Fence.wide) (n:=1) hf hb trivial ?_ rfl);have cS:=Nat.le_of_ble_eq_true hl;have cG:=bL cG;have kV:∀{k av},look pre k=some av->100000<=k:=fun{k av} h1=>by rw[all_eq_true]at gB;exact Nat.le_of_ble_eq_true (gB k (j5 h1))
 have kB:∀{k},100000<=k->look (D7 args 0++pre) k=look pre k:=fun{k} h1=>by
  rw[d8];cases h2:look (D7 args 0) k with
  | none=>rfl
  | some av =>
   obtain⟨_,h3⟩:=x9 h2;rw[Nat.sub_zero,getElem?_eq_none (by omega)]at h3;cases h3
 have kI:a9 (D7 args 0++pre)=a9 pre:=by
  funext n;unfold a9 v8;apply propext;constructor
  ·rintro(h1 | ⟨e,h1,h2,h3⟩)
   ·exact .inl h1
   ·rw[kB (by omega)]at h1;exact .inr ⟨e,h1,h2,h3⟩
  ·rintro(h1 | ⟨e,h1,h2,h3⟩)
   ·exact .inl h1
   ·exact .inr ⟨e,by rw[kB (by omega)];exact h1,h2,h3⟩
 have hs:Sim w U nt (D7 args 0++pre) { tmps:=vs.toArray++Array.replicate (fn.ntmps-vs.toArray.size) undef,defers:=[] } w:=by
  refine⟨λ_ _=>False,hv,gE.below,rfl,by simp[hn];omega,λd av h1 h2=>?_,λn o av h1 h2 h3 h4=>?_,λn o o' av av' h1 h2=>?_,λk av h1 h2=>?_,λk av g h1 h2=>?_,λk k' av av' g h1 h2 h3 h4=>?_,gE.fix,λb o hd=>hd.elim⟩
  ·rw[d8]at h1;cases h3:look (D7 args 0) d with
   | none =>
    rw[h3]at h1;have:=kV h1;omega
   | some av' =>
    rw[h3]at h1;cases h1;obtain⟨_,h4⟩:=x9 h3;rw[Nat.sub_zero]at h4;obtain⟨v,h6,h7⟩:=hargs.at h4;have hdl:d<vs.length:=by
     rcases Nat.lt_or_ge d vs.length with h | h
     ·exact h
     ·rw[getElem?_eq_none h]at h6;cases h6
    rw[kI];refine⟨v,?_,h7⟩;rw[Array.getElem?_append_left (by simpa using hdl)];simpa using h6
  ·rw[kB (by unfold i7;omega)]at h1;rw[kB (by omega)]at h3;rw[kI];exact gE.fld n o av h1 h2 h3 h4
  ·rw[kB (by unfold i7;omega)]at h1 h2;exact gE.fdis n o o' av av' h1 h2
  ·rw[kB h2.1]at h1;rw[kI];exact gE.obj k av h1 h2
  ·rw[kB h2.1]at h1;exact gE.blk k av g h1 h2
  ·rw[kB h3.1]at h1;rw[kB h4.1]at h2;exact gE.disj k k' av av' g h1 h2 h3 h4
 refine wpIn_mono (h w U hU _ w hs) ?_;rintro e a' w' ⟨s',a'',g,⟨h1,s2,g1,g2,g3,g4⟩,h3,rfl,g5⟩;obtain⟨D',kG,h4⟩:=g1 a'' w' h3;obtain⟨h5,h6,h7,y,h8,h9⟩:=h4.putob (n:=299999) (o:=0) (o':=1) (by unfold RW;omega) (lS _ _ _) (x:=.deferred none) (λ_ _ _ e=>by cases e) (λe=>by cases e);have h9:=h9 rfl;subst h9;have hS:=h5.sub (s':=s2) λk av hk=>by
  have kF:(299999:Nat)≠k:=λe=>by rw[<-e,g4]at hk;cases hk
  rw[lN kF,lN kF];exact hk
 obtain⟨v,i1,i2⟩:=S3 hS g2;have gW:∀{k av},look post k=some av->100000<=k:=fun{k av} h1=>by rw[all_eq_true]at kS;exact Nat.le_of_ble_eq_true (kS k (j5 h1))
 have iU:=hS.sub g3.sub;have jS:SimG w U 0 post ⟨#[],[]⟩ (w'.putObj g (.deferred none)) D' kG:=⟨iU.below,rfl,rfl,λd av h7 h8=>by have:=gW h7;omega,iU.fld,iU.fdis,iU.obj,iU.blk,iU.disj,iU.fix,iU.dlt⟩
 have cO:LeavesInM Fence.wide 1 P fn a''.tmps (λe w'=>∃v D' kG a',e=.returned v/\SimG w U 0 post a' w' D' kG/\AVRep (Us w U D') w' kG (a9 post) r v) [⟨.collected g,#[]⟩] .returning w':=
  ⟨(λe=>by cases e),.inl ⟨g,_,rfl,run_takeDeferred h8,v,i1,v,D',kG,_,rfl,jS,i2.move (λ_ _ _ h1 h2=>⟨h1,h2⟩) (λ_ h7=>h7.imp id λ⟨e,he⟩=>⟨e,g3.sub _ _ he.1,he.2⟩) λ_=>rfl⟩⟩
 rcases h1 with rfl | rfl
 ·exact cO
 ·exact cO
theorem c3g(nn:Nat)(hg:Gd w0 U0 nt ops o gs S)(hd:o.dst=some d)(hn:Nat.blt d nt=true)(h5:Nat.blt d 100000=true){x:Operand}{ty:TypeId}{av:AV}(ho:o.op=.box ty x)(hx:ev S x=some av)(kC:Nat.beq av.sz 1=true)(dT:((Nat.beq av.t 0&&!Nat.beq av.c.k 2)||Nat.beq av.t 2||Nat.beq av.t 12||Nat.beq av.t 15)=true)(sR:(Nat.blt nn 100000||(Nat.ble 350000 nn&&Nat.blt nn 400000))=true)(iM:Nat.beq av.n nn=false)(hnf:∀v,U0.f (100000+nn)=some v->False):AOp P w0 U0 nt ops o (gs++rd x) [(nn,[])] S [(i7 nn 0,av),(d,.bp nn 0 []),(100000+nn,.obj)]:=by
 intro s hs hN a w ⟨D,hv,h⟩ Q K hK;rw[if_pos (hg s (λk hk=>hs k (mem_append_left _ hk)) a w D hv h)];have mS:=bL h5;have bK:BN nn:=by
  rcases Bool.or_eq_true_iff.1 sR with h1 | h1
  ·exact .inl (bL h1)
  ·rw[Bool.and_eq_true]at h1;exact .inr ⟨Nat.le_of_ble_eq_true h1.1,bL h1.2⟩
 have jU:=bK;unfold BN at jU;have gG:=n5 h (λk hk=>hs k (mem_append_right _ hk)) hx;have kW:(a.eval x).cells = #[a.eval x]:=by
  have vY:(av.t=0/\av.c.k≠2)\/(av.t≠0/\b3G av=true):=by
   simp only[Bool.or_eq_true,Bool.and_eq_true,Bool.not_eq_true']at dT;rcases dT with((⟨h1,h2⟩ | h1) | h1) | h1
   ·exact .inl ⟨Nat.eq_of_beq_eq_true h1,λe=>by rw[e]at h2;cases h2⟩
   all_goals (refine .inr ⟨λe=>(by rw[e]at h1;cases h1),?_⟩;unfold b3G;rw[h1];simp)
  rcases vY with⟨h1,h2⟩ | ⟨h1,h2⟩
  ·unfold AVRep at gG;rw[if_pos h1]at gG;exact(b0R gG.1 h2).1
  ·exact(a8t gG h2 h1).1
 have he:(execOp a.eval o).run P w=.ok (.value (.pointer (some ⟨w.heap.size,0,none⟩))) (w.alloc (.cells #[a.eval x] ty)):=by generalize a.eval=ρ at kW |-;simp[execOp,ho,Instr.box,D5,kW]
 unfold Oper.wp;rw[he,Oper.upon_value,hd];have hr:=(hN (nn,[]) (by simp)).nr;have hG:=h.newboxN (d:=d) (av:=.obj) bK hnf hr (bL hn) mS (.inr rfl) (xs:=[a.eval x]) ty (λe=>by cases e) (λe=>by cases e);have hb':Below w.heap.size w (w.alloc (.cells #[a.eval x] ty)):=(Below.refl _ _).alloc (Nat.le_refl _) _;have kM:a9 ((d,AV.bp nn 0 [])::(100000+nn,AV.obj)::s)=a9 s:=by funext n;simp only[a9,a7f (show d<200000 by omega) (show 100000+nn<200000\/400000<=100000+nn by omega)]
 refine hK _ _ ⟨D,_,hG.addF bK (by rw[lN (by omega),lS]) (by omega) (av:=av) (v:=a.eval x) ?_ ?_ ?_ ?_⟩
 ·rw[kM];refine gG.move (Q6 h.dlt hb' λ_ _ h=>h) (λ_ h=>h) λh3=>?_;have oK:hk av≠100000+nn:=by refine a4D bK (λn=>F7) ?_ h3;exact λe=>by rw[e,Nat.beq_refl]at iM;cases iM
  simp only[if_neg oK]
 ·rw[kW,Nat.eq_of_beq_eq_true kC];rfl
 ·intro i hi;rw[kW]at hi |-;have hi:i=0:=by simp at hi;omega
  subst hi;simp only[if_true];show(w.alloc (.cells #[a.eval x] ty)).cell? ⟨w.heap.size,0+0,none⟩=_;have:=x8 w (.cells #[a.eval x] ty);simp only[World.cell?,this];simp
 ·intro o' av' h1 h2;exfalso;rw[lN (by unfold i7;omega),lN (by unfold i7;omega)]at h1;have:=(hr _ _ h1).2.1;rw[Q8 h2]at this;exact this rfl
theorem zbh{P:Program}{w0:World}{U0:UX}{nt:Nat}{ops:Array Oper}{o:Oper}{S:Nat->Option AV}{gs:List Nat}{d:Nat}{x:Operand}{ty:TypeId}{av:AV}(nn:Nat)(p:Gd w0 U0 nt ops o gs S:=by exact gN rfl)(q:o.dst=some d:=by exact rfl)(r:Nat.blt d nt=true:=by exact rfl)(u:Nat.blt d 100000=true:=by exact rfl)(y:o.op=.box ty x:=by exact rfl)(z:ev S x=some av:=by exact rfl)(A:Nat.beq av.sz 1=true:=by exact rfl)(B:((Nat.beq av.t 0&&!Nat.beq av.c.k 2)||Nat.beq av.t 2||Nat.beq av.t 12||Nat.beq av.t 15)=true:=by exact rfl)(C:(Nat.blt nn 100000||(Nat.ble 350000 nn&&Nat.blt nn 400000))=true:=by exact rfl)(E:Nat.beq av.n nn=false:=by exact rfl)(F:∀v,U0.f (100000+nn)=some v->False):AOp P w0 U0 nt ops o (gs++rd x) [(nn,[])] S [(i7 nn 0,av),(d,.bp nn 0 []),(100000+nn,.obj)]:=c3g nn p q r u y z A B C E F
theorem b5F(nn:Nat)(hg:Gd w0 U0 nt ops o gs S)(hd:o.dst=some d)(hn:Nat.blt d nt=true)(h5:Nat.blt d 100000=true){ty:TypeId}{v:Value}{av:AV}(ho:o.op=.alloc ty)(hi:(P.info? ty).map (·.zero)=some (some v))(bJ:(v=.slice none 0 0/\av=⟨0,.lst [],1,0,[]⟩)\/(v.oneCell'=true/\av=.val (.sc v)))(sR:(Nat.blt nn 100000||(Nat.ble 350000 nn&&Nat.blt nn 400000))=true)(iM:Nat.beq 1 nn=false)(uE:Nat.beq 0 nn=false)(hnf:∀v,U0.f (100000+nn)=some v->False):AOp P w0 U0 nt ops o gs [(nn,[])] S [(i7 nn 0,av),(d,.bp nn 0 []),(100000+nn,.obj)]:=by
 intro s hs hN a w ⟨D,hv,h⟩ Q K hK;rw[if_pos (hg s hs a w D hv h)];have mS:=bL h5;have bK:BN nn:=by
  rcases Bool.or_eq_true_iff.1 sR with h1 | h1
  ·exact .inl (bL h1)
  ·rw[Bool.and_eq_true]at h1;exact .inr ⟨Nat.le_of_ble_eq_true h1.1,bL h1.2⟩
 have jU:=bK;unfold BN at jU;have gA:v.oneCell'=true:=by
  rcases bJ with⟨rfl,_⟩ | ⟨h1,_⟩
  ·rfl
  ·exact h1
 have kW:=a2v gA;obtain⟨it,i1,i2⟩:∃it,P.info? ty=some it/\it.zero=some v:=by
  cases e:P.info? ty with
  | none=>rw[e]at hi;cases hi
  | some it=>rw[e,Option.map_some]at hi;exact⟨it,rfl,by injection hi⟩
 have he:(execOp a.eval o).run P w=.ok (.value (.pointer (some ⟨w.heap.size,0,none⟩))) (w.alloc (.cells #[v] ty)):=by simp[execOp,ho,Instr.alloc,zeroValue,typeInfo,i1,i2,D5,kW]
 unfold Oper.wp;rw[he,Oper.upon_value,hd];have hr:=(hN (nn,[]) (by simp)).nr;have hG:=h.newboxN (d:=d) (av:=.obj) bK hnf hr (bL hn) mS (.inr rfl) (xs:=[v]) ty (λe=>by cases e) (λe=>by cases e);refine hK _ _ ⟨D,_,hG.addF bK (by rw[lN (by omega),lS]) (by omega) (av:=av) (v:=v) ?_ ?_ ?_ ?_⟩
 ·rcases bJ with⟨rfl,rfl⟩ | ⟨h1,rfl⟩
  ·exact⟨l5.2 ⟨none,0,0,rfl,rfl,Nat.le_refl _,by decide,λ_=>⟨rfl,rfl⟩,[],.inl rfl,rfl⟩,λ_=>⟨0,.lst [],rfl,rfl⟩⟩
  ·exact o9 h1
 ·rw[kW];rcases bJ with⟨rfl,rfl⟩ | ⟨h1,rfl⟩<;>rfl
 ·intro i hi;rw[kW]at hi |-;have hi:i=0:=by simp at hi;omega
  subst hi;simp only[if_true];show(w.alloc (.cells #[v] ty)).cell? ⟨w.heap.size,0+0,none⟩=_;have:=x8 w (.cells #[v] ty);simp only[World.cell?,this];simp
 ·intro o' av' h1 h2;exfalso;rw[lN (by unfold i7;omega),lN (by unfold i7;omega)]at h1;have:=(hr _ _ h1).2.1;rw[Q8 h2]at this;exact this rfl
theorem zbj{P:Program}{w0:World}{U0:UX}{nt:Nat}{ops:Array Oper}{o:Oper}{S:Nat->Option AV}{gs:List Nat}{d:Nat}{ty:TypeId}{v:Value}{av:AV}(nn:Nat)(p:Gd w0 U0 nt ops o gs S:=by exact gN rfl)(q:o.dst=some d:=by exact rfl)(r:Nat.blt d nt=true:=by exact rfl)(t:Nat.blt d 100000=true:=by exact rfl)(u:o.op=.alloc ty:=by exact rfl)(x:(P.info? ty).map (·.zero)=some (some v):=by exact rfl)(y:(v=.slice none 0 0/\av=⟨0,.lst [],1,0,[]⟩)\/(v.oneCell'=true/\av=.val (.sc v)):=by first | exact .inl ⟨rfl,rfl⟩ | exact .inr ⟨rfl,rfl⟩)(z:(Nat.blt nn 100000||(Nat.ble 350000 nn&&Nat.blt nn 400000))=true:=by exact rfl)(A:Nat.beq 1 nn=false:=by exact rfl)(B:Nat.beq 0 nn=false:=by exact rfl)(C:∀v,U0.f (100000+nn)=some v->False):AOp P w0 U0 nt ops o gs [(nn,[])] S [(i7 nn 0,av),(d,.bp nn 0 []),(100000+nn,.obj)]:=b5F nn p q r t u x y z A B C
theorem c5c(nn:Nat)(hg:Gd w0 U0 nt ops o gs S)(hd:o.dst=some d)(hn:Nat.blt d nt=true)(h5:Nat.blt d 100000=true){x y:Operand}{t e size bytes k:Nat}{z:Value}{i1 i2:Int}{k1 k2:IntKind}{n1 q1 p1 n2 q2 p2}(ho:o.op=.makeSlice t x y)(ht:P.underlying t=some (.slice e))(hi:(P.info? e).map (λi=>(i.zero,i.size,i.bytes))=some (some z,size,bytes))(kC:Nat.blt 0 size=true)(dP:Nat.ble bytes 1000=true)
  (hx:ev S x=some ⟨0,.sc (.int k1 i1),n1,q1,p1⟩) (hy:ev S y=some ⟨0,.sc (.int k2 i2),n2,q2,p2⟩) (bH:(Nat.ble 200000 nn&&Nat.blt nn 400000)=true) (h1:i1=0) (h2:i2=(k:Int)) (bR:k<=1000000000) :
  AOp P w0 U0 nt ops o (gs++(rd x++rd y)) [(nn,[])] S [(d,.sl nn 0 0 size),(nn,.mrow e size [])]:=by
 intro s hs hN a w ⟨D,hv,h⟩ Q K hK;rw[if_pos (hg s (λk hk=>hs k (mem_append_left _ hk)) a w D hv h)];have e1:=v9 h (λk hk=>hs k (mem_append_right _ (mem_append_left _ hk))) hx;have e2:=v9 h (λk hk=>hs k (mem_append_right _ (mem_append_right _ hk))) hy;subst h1;subst h2;obtain⟨i,bF,bZ,cA,eN⟩:=info_parts hi;have kC:=bL kC;have dP:=Nat.le_of_ble_eq_true dP;have nE:bytes*k<=1000*1000000000:=Nat.mul_le_mul dP bR;obtain⟨w',r1,r2,r3⟩:=run_make_own (P:=P) (w:=w) w.heap.size t e i z size ht bF bZ cA k1 k2 k (by rw[eN];omega) (by unfold maxLen;omega) (Nat.le_refl _);have dV:=rnB bH;have bC:∀b o u,Us w0 U0 D b o->w.cell? ⟨b,o,none⟩=some u->Us w0 U0 D b o/\w'.cell? ⟨b,o,none⟩=some u:=λb o u hu hc=>by refine⟨hu,?_⟩;have kA:b<w.heap.size:=World.block_lt_of_cell? w _ hc;rw[World.cell?_of_block (w:=w) (r3.block b kA (by simp))];exact hc
 have hG:=h.newrow (avn:=.mrow e size []) (v':=.slice (some ⟨w.heap.size,0,none⟩) 0 k) (D':=D) (X:=λ_=>False) (n:=nn) dV (hN (nn,[]) (by simp)).nr (by simp) ⟨r3.os,r3.tape,r3.output,r3.size,λb hb hx=>r3.block b hb (by simp)⟩ (λb hb=>hb.elim) (λg hg=>by have hg:(Value.slice (some ⟨w.heap.size,0,none⟩) 0 k).ownBlock=some g:=hg;refine⟨.inr (r2.lt g hg).1,(r2.lt g hg).2,λo _ hd=>?_⟩;have:=(r2.lt g hg).1;have:=h.dlt _ _ hd;omega) (λb o hd => .inl hd) (λb o hd=>Nat.lt_of_lt_of_le (h.dlt _ _ hd) r3.size) bC (λhv lv=>⟨[],r5 r2 (Nat.zero_le _),kC,(λc hc=>by cases hc),rfl⟩)
 have he:(execOp a.eval o).run P w=.ok (.value (.slice (some ⟨w.heap.size,0,none⟩) 0 k)) w':=by generalize a.eval=ρ at e1 e2 |-;simp[execOp,ho,e1,e2,r1]
 unfold Oper.wp;rw[he,Oper.upon_value,hd];refine hK _ _ ⟨_,_,hG.put (bL hn) (bL h5) ⟨RW.rn dV,?_⟩⟩;show SlV ((λx=>if x=nn then Value.slice (some ⟨w.heap.size,0,none⟩) 0 k else hv x) nn) 0 0 size _;simp only[if_true];exact J4 rfl (Nat.zero_le _) (.inr ⟨_,rfl⟩)
theorem zbk{P:Program}{w0:World}{U0:UX}{nt:Nat}{ops:Array Oper}{o:Oper}{S:Nat->Option AV}{gs:List Nat}{d:Nat}{x:Operand}{y:Operand}{t:Nat}{e:Nat}{size:Nat}{bytes:Nat}{k:Nat}{z:Value}{i1:Int}{i2:Int}{k1:IntKind}{k2:IntKind}{n1}{q1}{p1}{n2}{q2}{p2}(nn:Nat)(p:Gd w0 U0 nt ops o gs S:=by exact gN rfl)(q:o.dst=some d:=by exact rfl)(r:Nat.blt d nt=true:=by exact rfl)(v:Nat.blt d 100000=true:=by exact rfl)(A:o.op=.makeSlice t x y:=by exact rfl)(B:P.underlying t=some (.slice e):=by exact rfl)(C:(P.info? e).map (λi=>(i.zero,i.size,i.bytes))=some (some z,size,bytes):=by exact rfl)(E:Nat.blt 0 size=true:=by exact rfl)(F:Nat.ble bytes 1000=true:=by exact rfl)(G:ev S x=some ⟨0,.sc (.int k1 i1),n1,q1,p1⟩:=by exact rfl)(H:ev S y=some ⟨0,.sc (.int k2 i2),n2,q2,p2⟩:=by exact rfl)(bH:(Nat.ble 200000 nn&&Nat.blt nn 400000)=true:=by exact rfl)(h1:i1=0:=by exact rfl)(h2:i2=(k:Int):=by first | rfl | omega | (simp only[length_set,length_map,length_append,length_cons,length_nil]<;>omega) | (simp<;>omega))(bR:k<=1000000000:=by first | rfl | omega | (simp only[length_set,length_map,length_append,length_cons,length_nil]<;>omega) | (simp<;>omega)):AOp P w0 U0 nt ops o (gs++(rd x++rd y)) [(nn,[])] S [(d,.sl nn 0 0 size),(nn,.mrow e size [])]:=c5c nn p q r v A B C E F G H bH h1 h2 bR
end
theorem b7r{w:World}{l:Nat}{y:Obj}(hy:w.heap[l]?=some y)(mP:∀xs ty fl,y ≠ .cells xs ty fl){b o:Nat}{v:Value}(h:w.cell? ⟨b,o,none⟩=some v):b≠l:=by
 rintro rfl;cases y with
 | cells xs ty fl=>exact mP _ _ _ rfl
 | _=>simp[World.cell?,hy]at h
theorem a9S{w:World}{l:Nat}{y x:Obj}(h:w.heap[l]?=some y):(w.putObj l x).putObj l y=w:=by
 obtain⟨kA,he⟩:=Array.getElem?_eq_some_iff.1 h;have:(w.heap.setIfInBounds l x).setIfInBounds l y=w.heap:=by
  refine Array.ext (by simp) λi h1 h2=>?_;rw[Array.getElem_setIfInBounds,Array.getElem_setIfInBounds]
  ·split
   ·rename_i e;subst e;exact he.symm
   ·rfl
  ·simpa using h2
 unfold World.putObj;rw[this]
section
variable{P:Program}{w0:World}{U0:UX}{nt:Nat}{s:AS}{a:Act}{w:World}{D:Nat->Nat->Prop}{hv:Nat->Value}
theorem SimG.rebase(h:SimG w0 U0 nt s a w D hv){l:Nat}{y:Obj}(hy:w0.heap[l]?=some y)(hx:¬ U0.x l)(mP:∀xs ty fl,y ≠ .cells xs ty fl)(x:Obj):SimG (w0.putObj l x) U0 nt s a (w.putObj l x) D hv:=by
 have hl:l<w0.heap.size:=(Array.getElem?_eq_some_iff.1 hy).1;have iG:w.heap[l]?=some y:=(h.below.block l hl hx).trans hy;have kM:l<w.heap.size:=(Array.getElem?_eq_some_iff.1 iG).1;have kW:∀b o v,w.cell? ⟨b,o,none⟩=some v->(w.putObj l x).cell? ⟨b,o,none⟩=some v:=λb o v hc=>by rw[World.cell?_of_block (w:=w) (World.putObj_heap_other (b7r iG mP hc))];exact hc
 have hUs:Us (w0.putObj l x) U0 D=Us w0 U0 D:=by funext b o;unfold Us;rw[World.putObj_size]
 have hMn:∀t g,Mn w0 U0 t g->Mn (w0.putObj l x) U0 t g:=λt g h=>by unfold Mn at h |-;rw[World.putObj_size];exact h
 have kF:∀k av g,look s k=some av->n4 k->av.t≠7->hb (hv k)=some g->g≠l:=λk av g h1 h2 h3 h4 e=>by
  obtain⟨g1,_,_⟩:=h.blk k av g h1 h2 h3 h4;subst e;rcases g1 with g1 | g1
  ·omega
  ·exact hx g1.2
 have hk:∀b o v,Us w0 U0 D b o->w.cell? ⟨b,o,none⟩=some v->Us w0 U0 D b o/\(w.putObj l x).cell? ⟨b,o,none⟩=some v:=λb o v h1 h2=>⟨h1,kW _ _ _ h2⟩
 refine⟨⟨h.below.os,h.below.tape,h.below.output,by rw[World.putObj_size,World.putObj_size];exact h.below.size,λk hk hxk=>?_⟩,h.dfr,h.size,λd av h1 h2=>?_,λn o av h1 h2 h3 h4=>?_,h.fdis,λk av h1 h2=>?_,λk av g h1 h2 h3 h4=>?_,h.disj,h.fix,λb o hd=>by rw[World.putObj_size];exact h.dlt b o hd⟩
 ·rw[World.putObj_size]at hk;by_cases e:k=l
  ·subst e;rw[World.putObj_heap_same kM,World.putObj_heap_same hl]
  ·rw[World.putObj_heap_other e,World.putObj_heap_other e];exact h.below.block k hk hxk
 ·rw[hUs];obtain⟨v,h3,h4⟩:=h.slot d av h1 h2;exact⟨v,h3,h4.keep hk⟩
 ·rw[hUs];obtain⟨v,h5,h6,h7⟩:=h.fld n o av h1 h2 h3 h4;refine⟨v,h5.keep hk,h6,λi hi=>?_⟩;have h8:=h7 i hi;rw[Array.getElem?_eq_getElem hi]at h8 |-;exact kW _ _ _ h8
 ·rw[hUs];by_cases h7:av.t=7
  ·exact a3A h7
  ·exact(h.obj k av h1 h2).move hk (λ_ h3=>⟨h3,rfl⟩) λg hg=>World.putObj_heap_other (kF k av g h1 h2 h7 hg)
 ·rw[World.putObj_size];obtain⟨g1,g2,g3⟩:=h.blk k av g h1 h2 h3 h4;exact⟨hMn _ _ g1,g2,g3⟩
def a6a(P:Program)(w0:World)(U0:UX)(nt:Nat)(c:Code)(Q:Exit->AS->Prop)(s:AS):Prop:=
 ∀M a w l₀ r₀,M.r=some l₀->w0.heap[l₀]?=some (.loop r₀)->¬ U0.x l₀->Sim w0 U0 nt s a w->WP P M c (λe a' w'=>∃s',Q e s'/\Sim w0 U0 nt s' a' w') a w
theorem a2b{c:Code}{Q:Exit->AS->Prop}(h:AWp P w0 U0 nt c Q s):a6a P w0 U0 nt c Q s:=λM a w _ _ _ _ _ hs=>h M a w hs
theorem a7M{c:Code}{Q Q':Exit->AS->Prop}(h:a6a P w0 U0 nt c Q s)(hq:∀e s,Q e s->Q' e s):a6a P w0 U0 nt c Q' s:=λM a w l r h1 h2 h3 hs =>
 L4 (h M a w l r h1 h2 h3 hs) λe a' w' ⟨s',g1,g2⟩=>⟨s',hq _ _ g1,g2⟩
theorem a8y{c:Code}{Q:Exit->AS->Prop}{s':AS}(h:Wk w0 U0 nt s s')(h2:a6a P w0 U0 nt c Q s'):a6a P w0 U0 nt c Q s:=λM a w l r g1 g2 g3 hs=>h2 M a w l r g1 g2 g3 (h a w hs)
theorem a5t{x y:Code}{Q:Exit->AS->Prop}(h:AWp P w0 U0 nt x (λe s'=>e=.normal/\a6a P w0 U0 nt y Q s') s):a6a P w0 U0 nt (.seq x y) Q s:=λM a w l r h1 h2 h3 hs =>
 b9L (L4 (h M a w hs) λe a' w' ⟨s',⟨he,hn⟩,gC⟩=>by subst he;exact hn M a' w' l r h1 h2 h3 gC)
theorem U4{id:Nat}{c:Code}{Q:Exit->AS->Prop}(h:a6a P w0 U0 nt c (λe s'=>e=.normal/\Q .normal s') s):a6a P w0 U0 nt (.block id c) Q s:=λM a w l r h1 h2 h3 hs =>
 b1x (L4 (h M a w l r h1 h2 h3 hs) λe a' w' ⟨s',⟨he,hn⟩,gC⟩=>by subst he;exact⟨s',hn,gC⟩)
end
section
variable{α:Type}{P:Program}
end
section
variable{P:Program}{w0:World}{U0:UX}{nt:Nat}{s:AS}{a:Act}{W:World}{D:Nat->Nat->Prop}{hv:Nat->Value}
theorem b9s{ob lp:AS}(hS:SimG w0 U0 nt (ob++lp) a W D hv)(fK:ob.all F5=true)(vW:((kO ob).all λk=>Nat.ble 300000 k)=true){V:UX}(v3:∀b,V.x b↔∃k av,look ob k=some av/\n4 k/\hb (hv k)=some b){b kk o:Nat}(gF:kk=299998\/kk=299999)(h9:look (ob++lp) kk=some (.ob b o)):¬ V.x b:=λhb=>by
 obtain⟨q,av,g1,g2,g3⟩:=(v3 b).1 hb;have hq:300000<=q:=Nat.le_of_ble_eq_true (all_eq_true.1 vW q (j5 g1));have bJ:av.t≠7:=by
  have h3:=I2 fK g1;unfold F5 at h3;unfold n4 at g2;have h4:Nat.ble 500000 q=false:=by
   cases e:Nat.ble 500000 q with
   | false=>rfl
   | true=>have:=Nat.le_of_ble_eq_true e;omega
  simp only[h4,Bool.and_eq_true,Bool.not_eq_true']at h3;intro e;rw[e]at h3;exact absurd h3.1.2 (by decide)
 have oJ:n4 kk:=by unfold n4;omega
 have hO:OX (Us w0 U0 D) W (.ob b o) (hv kk):=hS.obj kk (.ob b o) h9 oJ;have hval:hv kk=.pointer (some ⟨b,0,none⟩):=(hO.2.1 rfl).1;have kJ:look (ob++lp) q=some av:=by rw[d8,g1];rfl
 exact hS.disj q kk av _ b kJ h9 g2 oJ bJ (λe=>by cases e) (by omega) g3 (by rw[hval];rfl)
end
section
variable{P:Program}{w0:World}{U0:UX}{nt:Nat}{s:AS}
end
section
variable{P:Program}{nt:Nat}
theorem a7i{f:FuncId}{fn:Func}{c:Code}{pre post:AS}{args:List AV}{r:AV}(hf:P.funcs[f]?=some fn)(hn:fn.ntmps=nt)(hb:fn.body=some c)(hl:Nat.ble args.length nt=true)(cG:Nat.blt nt 100000=true)(gB:(kO pre).all (Nat.ble 100000)=true)(kS:(kO post).all (Nat.ble 100000)=true){w:World}{U:UX}
  (h:a2l P w U nt c (λe s' g=>(e=.normal\/e=.ret)/\∃s2,Wk w U nt s' ((299999,.ob g 0)::s2)/\b6L P s2 fn.results.toList=some r/\SubL s2 post/\look s2 299999=none) (D7 args 0++pre)) {hv:Nat->Value} {a0:Act} {vs:List Value} (gE:SimG w U 0 pre a0 w (λ_ _=>False) hv) (hargs:AVReps (Us w U (λ_ _=>False)) w hv (a9 pre) args vs) :
  Calls P f vs.toArray w λe w'=>∃v D' kG a',e=.returned v/\SimG w U 0 post a' w' D' kG/\AVRep (Us w U D') w' kG (a9 post) r v:=by
 have kD:=hargs.len;refine callsIn_wide.1 (callsIn_of_wp_marks (F:=Fence.wide) (n:=1) hf hb trivial ?_ rfl);have cS:=Nat.le_of_ble_eq_true hl;have cG:=bL cG;have kV:∀{k av},look pre k=some av->100000<=k:=fun{k av} h1=>by rw[all_eq_true]at gB;exact Nat.le_of_ble_eq_true (gB k (j5 h1))
 have kB:∀{k},100000<=k->look (D7 args 0++pre) k=look pre k:=fun{k} h1=>by
  rw[d8];cases h2:look (D7 args 0) k with
  | none=>rfl
  | some av =>
   obtain⟨_,h3⟩:=x9 h2;rw[Nat.sub_zero,getElem?_eq_none (by omega)]at h3;cases h3
 have kI:a9 (D7 args 0++pre)=a9 pre:=by
  funext n;unfold a9 v8;apply propext;constructor
  ·rintro(h1 | ⟨e,h1,h2,h3⟩)
   ·exact .inl h1
   ·rw[kB (by omega)]at h1;exact .inr ⟨e,h1,h2,h3⟩
  ·rintro(h1 | ⟨e,h1,h2,h3⟩)
   ·exact .inl h1
   ·exact .inr ⟨e,by rw[kB (by omega)];exact h1,h2,h3⟩
 have hs:Sim w U nt (D7 args 0++pre) { tmps:=vs.toArray++Array.replicate (fn.ntmps-vs.toArray.size) undef,defers:=[] } w:=by
  refine⟨λ_ _=>False,hv,gE.below,rfl,by simp[hn];omega,λd av h1 h2=>?_,λn o av h1 h2 h3 h4=>?_,λn o o' av av' h1 h2=>?_,λk av h1 h2=>?_,λk av g h1 h2=>?_,λk k' av av' g h1 h2 h3 h4=>?_,gE.fix,λb o hd=>hd.elim⟩
  ·rw[d8]at h1;cases h3:look (D7 args 0) d with
   | none =>
    rw[h3]at h1;have:=kV h1;omega
   | some av' =>
    rw[h3]at h1;cases h1;obtain⟨_,h4⟩:=x9 h3;rw[Nat.sub_zero]at h4;obtain⟨v,h6,h7⟩:=hargs.at h4;have hdl:d<vs.length:=by
     rcases Nat.lt_or_ge d vs.length with h | h
     ·exact h
     ·rw[getElem?_eq_none h]at h6;cases h6
    rw[kI];refine⟨v,?_,h7⟩;rw[Array.getElem?_append_left (by simpa using hdl)];simpa using h6
  ·rw[kB (by unfold i7;omega)]at h1;rw[kB (by omega)]at h3;rw[kI];exact gE.fld n o av h1 h2 h3 h4
  ·rw[kB (by unfold i7;omega)]at h1 h2;exact gE.fdis n o o' av av' h1 h2
  ·rw[kB h2.1]at h1;rw[kI];exact gE.obj k av h1 h2
  ·rw[kB h2.1]at h1;exact gE.blk k av g h1 h2
  ·rw[kB h3.1]at h1;rw[kB h4.1]at h2;exact gE.disj k k' av av' g h1 h2 h3 h4
 refine wpIn_mono (h _ w hs) ?_;rintro e a' w' ⟨s',a'',g,⟨h1,s2,g1,g2,g3,g4⟩,h3,rfl,g5⟩;obtain⟨D',kG,h4⟩:=g1 a'' w' h3;obtain⟨h5,h6,h7,y,h8,h9⟩:=h4.putob (n:=299999) (o:=0) (o':=1) (by unfold RW;omega) (lS _ _ _) (x:=.deferred none) (λ_ _ _ e=>by cases e) (λe=>by cases e);have h9:=h9 rfl;subst h9;have hS:=h5.sub (s':=s2) λk av hk=>by
  have kF:(299999:Nat)≠k:=λe=>by rw[<-e,g4]at hk;cases hk
  rw[lN kF,lN kF];exact hk
 obtain⟨v,i1,i2⟩:=S3 hS g2;have gW:∀{k av},look post k=some av->100000<=k:=fun{k av} h1=>by rw[all_eq_true]at kS;exact Nat.le_of_ble_eq_true (kS k (j5 h1))
 have iU:=hS.sub g3.sub;have jS:SimG w U 0 post ⟨#[],[]⟩ (w'.putObj g (.deferred none)) D' kG:=⟨iU.below,rfl,rfl,λd av h7 h8=>by have:=gW h7;omega,iU.fld,iU.fdis,iU.obj,iU.blk,iU.disj,iU.fix,iU.dlt⟩
 have cO:LeavesInM Fence.wide 1 P fn a''.tmps (λe w'=>∃v D' kG a',e=.returned v/\SimG w U 0 post a' w' D' kG/\AVRep (Us w U D') w' kG (a9 post) r v) [⟨.collected g,#[]⟩] .returning w':=
  ⟨(λe=>by cases e),.inl ⟨g,_,rfl,run_takeDeferred h8,v,i1,v,D',kG,_,rfl,jS,i2.move (λ_ _ _ h1 h2=>⟨h1,h2⟩) (λ_ h7=>h7.imp id λ⟨e,he⟩=>⟨e,g3.sub _ _ he.1,he.2⟩) λ_=>rfl⟩⟩
 rcases h1 with rfl | rfl
 ·exact cO
 ·exact cO
theorem b7K {W : World} {f : FuncId} {fn : Func} {c : Code} {args : List CV} {r : CV} (hf : P.funcs[f]? = some fn) (hn : fn.ntmps = nt) (gM : (fn.name == "runtime.NumGoroutine") = false) (hb : fn.body = some c) (hl : Nat.ble (args.map AV.val).length nt = true) (cG : Nat.blt nt 100000 = true)
  (h:∀(w:World) (U:UX),Hw w w U->a2l P w U nt c (λe s' g=>(e=.normal\/e=.ret)/\∃s2,Wk w U nt s' ((299999,.ob g 0)::s2)/\b6L P s2 fn.results.toList=some (.val r)/\SubL s2 []/\look s2 299999=none) (D7 (args.map AV.val) 0++[])):AFun P W f args (.val r):=by
 refine⟨x0 hf gM (by rw[hb];rfl),.inl rfl,rfl,λU w vs _ hv=>?_⟩;obtain⟨V,hV⟩:∃V:UX,V=⟨U,λ_=>False,λ_=>none,λk v e=>by cases e⟩:=⟨_,rfl⟩
 have fW:∀b o v,U b o->w.cell? ⟨b,o,none⟩=some v->Us w V (λ_ _=>False) b o/\w.cell? ⟨b,o,none⟩=some v:=λb o v h1 h2=>⟨.inl ⟨World.block_lt_of_cell? w _ h2,by rw[hV];exact h1,by rw[hV];exact λh=>h⟩,h2⟩
 have hS:SimG w V 0 [] ⟨#[],[]⟩ w (λ_ _=>False) (λ_ => .slice none 0 0):=⟨BelowX.refl _ _,rfl,rfl,(λd av h=>by cases h),(λn o av h=>by cases h),(λn o o' av av' h=>by cases h),(λk av h=>by cases h),(λk av g h=>by cases h),(λk k' av av' g h=>by cases h),(λk v h=>by rw[hV]at h;cases h),λb o h=>h.elim⟩
 have hargs:∀(cs:List CV) (vs:List Value),VReps U w cs vs->AVReps (Us w V (λ_ _=>False)) w (λ_ => .slice none 0 0) (a9 []) (cs.map AV.val) vs:=by
  intro cs
  induction cs with
  | nil=>intro vs h;exact h
  | cons a cs ih =>
   rintro vs ⟨u,us,rfl,h1,h2⟩;exact⟨u,us,rfl,n9 (h1.keep fW),ih us h2⟩
 refine(a7i (post:=[]) hf hn hb hl cG rfl rfl (h w V ⟨λ_=>by rw[hV],λb hb=>by rw[hV]at hb;exact hb⟩) hS (hargs args vs hv)).mono ?_;rintro e w' ⟨v,D',kG,a',rfl,h1,h2⟩;refine⟨v,rfl,?_,h1.below.below λk hk=>by rw[hV]at hk;exact hk⟩;have h3:VRep (Us w V D') w' r v:=by have:VRep (Us w V D') w' r v/\Tk kG (a9 []) (.val r) v.cells.toList:=h2;exact this.1
 show VRep _ w' r v;refine h3.keep λb o u hu hc=>⟨?_,hc⟩
 rcases hu with hu | hu
 ·left;have:=hu.2.1;rw[hV]at this;exact this
 ·exact .inr hu.1
end
end
section
variable{P:Program}{w0:World}{U0:UX}{nt:Nat}{ops:Array Oper}{o:Oper}{S:Nat->Option AV}{gs:List Nat}{d:Nat}{s:AS}{a:Act}{w:World}{D:Nat->Nat->Prop}{hv:Nat->Value}
theorem c3z(i1 i2 i3:Nat)(hg:Gd w0 U0 nt ops o gs S)(hd:o.dst=some d)(hn:Nat.blt d nt=true)(h5:Nat.blt d 100000=true){x y y2 y3:Operand}{t e:TypeId}{z:Nat}{k k2 k3:IntKind}{j1 j2 j3:Int}{n lo len n1 q1 p1 n2 q2 p2 n3 q3 p3}(ho:o.op=.slice t x (some y) (some y2) (some y3))(hu:P.underlying t=some (.slice e))(hi:(P.info? e).map (·.size)=some z)(hx:ev S x=some (.sl n lo len z))(hy:ev S y=some ⟨0,.sc (.int k j1),n1,q1,p1⟩)(iG:ev S y2=some ⟨0,.sc (.int k2 j2),n2,q2,p2⟩)(hy3:ev S y3=some ⟨0,.sc (.int k3 j3),n3,q3,p3⟩)(e1:j1=(i1:Int))(e2:j2=(i2:Int))(e3:j3=(i3:Int))(lM:i1<=i2)(vZ:i2<=i3)(h3:i3<=len) :
  AOp P w0 U0 nt ops o (gs++(rd x++(rd y++(rd y2++rd y3)))) [] S [(d,.no)]:=
 l4 hg hd hn h5 (λk hk=>mem_append_left _ hk) λs hs a w D hv hm=>by obtain⟨kN,ao,m,cap,ao',h1,h2,rR,h4,h6,h7⟩:RN n/\SlV (hv n) lo len z (a.eval x):=n5 hm (λk hk=>hs k (mem_append_right _ (mem_append_left _ hk))) hx;have f1:=v9 hm (λk hk=>hs k (mem_append_right _ (mem_append_right _ (mem_append_left _ hk)))) hy;have f2:=v9 hm (λk hk=>hs k (mem_append_right _ (mem_append_right _ (mem_append_right _ (mem_append_left _ hk))))) iG;have f3:=v9 hm (λk hk=>hs k (mem_append_right _ (mem_append_right _ (mem_append_right _ (mem_append_right _ hk))))) hy3;have kC:=D4 (P:=P) (w:=w) hi;have b3:=E6 (P:=P) (w:=w) (k:=k3) (j:=i3) (y:=cap-lo) (code:=.slice3Acap) (by omega);have b2:=E6 (P:=P) (w:=w) (k:=k2) (j:=i2) (y:=i3) (code:=.slice3B) vZ;have b1:=E6 (P:=P) (w:=w) (k:=k) (j:=i1) (y:=i2) (code:=.slice3C) lM;subst e1 e2 e3;refine⟨.slice (if i3=i1 then ao' else ao'.map (·.add (i1*z))) (i2-i1) (i3-i1),?_,trivial⟩;generalize a.eval=ρ at h2 f1 f2 f3 |-;simp[execOp,ho,Instr.sliceAt,Instr.slice,run_underlying hu,h2,f1,f2,f3,Instr.sliceBounds,b1,b2,b3,kC]
theorem zbw{P:Program}{w0:World}{U0:UX}{nt:Nat}{ops:Array Oper}{o:Oper}{S:Nat->Option AV}{gs:List Nat}{d:Nat}{x:Operand}{y:Operand}{y2:Operand}{y3:Operand}{t:TypeId}{e:TypeId}{z:Nat}{k:IntKind}{k2:IntKind}{k3:IntKind}{j1:Int}{j2:Int}{j3:Int}{n}{lo}{len}{n1}{q1}{p1}{n2}{q2}{p2}{n3}{q3}{p3}(i1:Nat)(i2:Nat)(i3:Nat)(p:Gd w0 U0 nt ops o gs S:=by exact gN rfl)(q:o.dst=some d:=by exact rfl)(r:Nat.blt d nt=true:=by exact rfl)(u:Nat.blt d 100000=true:=by exact rfl)(v:o.op=.slice t x (some y) (some y2) (some y3):=by exact rfl)(A:P.underlying t=some (.slice e):=by exact rfl)(B:(P.info? e).map (·.size)=some z:=by exact rfl)(C:ev S x=some (.sl n lo len z):=by exact rfl)(E:ev S y=some ⟨0,.sc (.int k j1),n1,q1,p1⟩:=by exact rfl)(F:ev S y2=some ⟨0,.sc (.int k2 j2),n2,q2,p2⟩:=by exact rfl)(G:ev S y3=some ⟨0,.sc (.int k3 j3),n3,q3,p3⟩:=by exact rfl)(H:j1=(i1:Int):=by first | rfl | omega | (simp only[length_set,length_map,length_append,length_cons,length_nil]<;>omega) | (simp<;>omega))(e2:j2=(i2:Int):=by first | rfl | omega | (simp only[length_set,length_map,length_append,length_cons,length_nil]<;>omega) | (simp<;>omega))(e3:j3=(i3:Int):=by first | rfl | omega | (simp only[length_set,length_map,length_append,length_cons,length_nil]<;>omega) | (simp<;>omega))(lM:i1<=i2:=by first | rfl | omega | (simp only[length_set,length_map,length_append,length_cons,length_nil]<;>omega) | (simp<;>omega))(vZ:i2<=i3:=by first | rfl | omega | (simp only[length_set,length_map,length_append,length_cons,length_nil]<;>omega) | (simp<;>omega))(h3:i3<=len:=by first | rfl | omega | (simp only[length_set,length_map,length_append,length_cons,length_nil]<;>omega) | (simp<;>omega)):AOp P w0 U0 nt ops o (gs++(rd x++(rd y++(rd y2++rd y3)))) [] S [(d,.no)]:=c3z i1 i2 i3 p q r u v A B C E F G H e2 e3 lM vZ h3
theorem c3p(i1 i2:Nat)(hg:Gd w0 U0 nt ops o gs S)(hd:o.dst=some d)(hn:Nat.blt d nt=true)(h5:Nat.blt d 100000=true){x y y2:Operand}{t e e':TypeId}{z:Nat}{l:List CV}{k k2:IntKind}{j1 j2:Int}{n len n1 q1 p1 n2 q2 p2}(ho:o.op=.slice t x (some y) (some y2) none)(hu:P.underlying t=some (.slice e))(hi:(P.info? e).map (·.size)=some z)(hx:ev S x=some (.sl n 0 len z))(hy:ev S y=some ⟨0,.sc (.int k j1),n1,q1,p1⟩)(iG:ev S y2=some ⟨0,.sc (.int k2 j2),n2,q2,p2⟩)(bS:S n=some (.mrow e' z l))(e1:j1=(i1:Int))(e2:j2=(i2:Int))(lM:i1<=i2)(h3:i2<=l.length) :
  AOp P w0 U0 nt ops o (gs++(rd x++(rd y++(rd y2++[n])))) [] S [(d,.sl n i1 (i2-i1) z)]:=
 l4 hg hd hn h5 (λk hk=>mem_append_left _ hk) λs hs a w D hv hm=>by
  obtain⟨kN,ao,m,cap,ao',h1,h2,rR,h4,h6,h7⟩:RN n/\SlV (hv n) 0 len z (a.eval x):=n5 hm (λk hk=>hs k (mem_append_right _ (mem_append_left _ hk))) hx;have f1:=v9 hm (λk hk=>hs k (mem_append_right _ (mem_append_right _ (mem_append_left _ hk)))) hy;have f2:=v9 hm (λk hk=>hs k (mem_append_right _ (mem_append_right _ (mem_append_right _ (mem_append_left _ hk))))) iG;obtain⟨xs,g1,g2,g3,g4⟩:=hm.mrow ((hs n (by simp)).trans bS) kN;obtain⟨ao2,cap2,c1,c2,_⟩:=M2 g1;have qH:l.length<=cap:=by rw[h1]at c1;injection c1 with _ _ c3;omega
  have kC:=D4 (P:=P) (w:=w) hi;have b2:=E6 (P:=P) (w:=w) (k:=k2) (j:=i2) (y:=cap) (code:=.sliceAcap) (by omega);have b1:=E6 (P:=P) (w:=w) (k:=k) (j:=i1) (y:=i2) (code:=.sliceB) lM;subst e1 e2;have h2:a.eval x=.slice ao len cap:=by rw[h2,h4 rfl];rfl
  refine⟨.slice (if cap=i1 then ao else ao.map (·.add (i1*z))) (i2-i1) (cap-i1),?_,kN,ao,m,cap,_,h1,rfl,by show i1+(i2-i1)<=cap;omega,λh8=>?_,λh8=>?_,?_⟩
  ·generalize a.eval=ρ at h2 f1 f2 |-;simp[execOp,ho,Instr.sliceAt,Instr.slice,run_underlying hu,h2,f1,f2,Instr.sliceBounds,b1,b2,kC]
  ·have h8:i1=0:=h8;subst h8;split
   ·rfl
   ·cases ao with
    | none=>rfl
    | some ad=>simp[Addr.add]
  ·have h8:i1<cap:=h8;intro g dI;rw[if_neg (by omega),dI];show some ((⟨g,0,none⟩:Addr).add (i1*z))=some ⟨g,i1*z,none⟩;rw[Y0,Nat.zero_add]
  ·split
   ·exact Iff.rfl
   ·rw[Option.map_eq_none_iff]
theorem zby{P:Program}{w0:World}{U0:UX}{nt:Nat}{ops:Array Oper}{o:Oper}{S:Nat->Option AV}{gs:List Nat}{d:Nat}{x:Operand}{y:Operand}{y2:Operand}{t:TypeId}{e:TypeId}{e':TypeId}{z:Nat}{l:List CV}{k:IntKind}{k2:IntKind}{j1:Int}{j2:Int}{n}{len}{n1}{q1}{p1}{n2}{q2}{p2}(i1:Nat)(i2:Nat)(p:Gd w0 U0 nt ops o gs S:=by exact gN rfl)(q:o.dst=some d:=by exact rfl)(r:Nat.blt d nt=true:=by exact rfl)(u:Nat.blt d 100000=true:=by exact rfl)(v:o.op=.slice t x (some y) (some y2) none:=by exact rfl)(A:P.underlying t=some (.slice e):=by exact rfl)(B:(P.info? e).map (·.size)=some z:=by exact rfl)(C:ev S x=some (.sl n 0 len z):=by exact rfl)(E:ev S y=some ⟨0,.sc (.int k j1),n1,q1,p1⟩:=by exact rfl)(F:ev S y2=some ⟨0,.sc (.int k2 j2),n2,q2,p2⟩:=by exact rfl)(G:S n=some (.mrow e' z l):=by exact rfl)(H:j1=(i1:Int):=by first | rfl | omega | (simp only[length_set,length_map,length_append,length_cons,length_nil]<;>omega) | (simp<;>omega))(e2:j2=(i2:Int):=by first | rfl | omega | (simp only[length_set,length_map,length_append,length_cons,length_nil]<;>omega) | (simp<;>omega))(lM:i1<=i2:=by first | rfl | omega | (simp only[length_set,length_map,length_append,length_cons,length_nil]<;>omega) | (simp<;>omega))(h3:i2<=l.length:=by first | rfl | omega | (simp only[length_set,length_map,length_append,length_cons,length_nil]<;>omega) | (simp<;>omega)):AOp P w0 U0 nt ops o (gs++(rd x++(rd y++(rd y2++[n])))) [] S [(d,.sl n i1 (i2-i1) z)]:=c3p i1 i2 p q r u v A B C E F G H e2 lM h3
theorem c3w(hg:Gd w0 U0 nt ops o gs S)(hd:o.dst=some d)(hn:Nat.blt d nt=true)(h5:Nat.blt d 100000=true){x y:Operand}{t e size bytes:Nat}{zv:Value}{l:List CV}{n len lo2 len2}(ho:o.op=.call { callee:=.builtin .append,args := #[x,y],argTypes := #[t,t] })(ht:P.underlying t=some (.slice e))(hi:(P.info? e).map (λi=>(i.zero,i.size,i.bytes))=some (some zv,size,bytes))
  (hx:ev S x=some (.sl n 0 len size)) (hy:ev S y=some (.sl n lo2 len2 size)) (bS:S n=some (.mrow e size l)) (hl:len+len2<=l.length) (kM:lo2+len2<=l.length) :
  AOp P w0 U0 nt ops o (gs++(rd x++(rd y++[n]))) [] S [(d,.sl n 0 (len+len2) size),(n,.mrow e size (l.take len++((l.drop lo2).take len2++l.drop (len+len2))))]:=by
 intro s hs hN a w ⟨D,hv,h⟩ Q K hK;rw[if_pos (hg s (λk hk=>hs k (mem_append_left _ hk)) a w D hv h)];obtain⟨kN,ao,m,cap,ao',h1,h2,h3,h4,h6,h7⟩:RN n/\SlV (hv n) 0 len size (a.eval x):=n5 h (λk hk=>hs k (mem_append_right _ (mem_append_left _ hk))) hx;obtain⟨_,ao2,m2,cap2,ao2',j1,j2,j3,j4,j6,j7⟩:RN n/\SlV (hv n) lo2 len2 size (a.eval y):=n5 h (λk hk=>hs k (mem_append_right _ (mem_append_right _ (mem_append_left _ hk)))) hy;have h2:a.eval x=.slice ao len cap:=by rw[h2,h4 rfl];rfl
 obtain⟨i,bF,bZ,cA,eN⟩:=info_parts hi;have kH:n4 n:=by unfold RN at kN;unfold n4;omega
 have hm:=(hs n (by simp)).trans bS;obtain⟨xs,g1,g2,g3,g4⟩:=h.mrow hm kN;obtain⟨ao3,cap3,c1,c2,_⟩:=M2 g1;have eF:l.length<=cap:=by rw[h1]at c1;injection c1 with _ _ c3;omega
 have gD:SlV (hv n) 0 (len+len2) size (.slice ao (len+len2) cap):=⟨ao,m,cap,ao,h1,rfl,by omega,λ_=>rfl,λ_ g dI=>by rw[dI,Nat.zero_mul],Iff.rfl⟩
 by_cases hz:len2=0
 ·subst hz;have he:(execOp a.eval o).run P w=.ok (.value (.slice ao len cap)) w:=by
   have cS:len<=cap:=by omega
   generalize a.eval=ρ at h2 j2 |-;cases ao<;>cases ao2'<;>simp[execOp,ho,resolve,invoke,builtin,h2,j2,Builtin.append_,run_underlying ht,sizeOf,typeInfo,bF,Builtin.lenOf,Builtin.firstCells,loadCells,loadCellsFrom,storeCells,cS,Result.andThen]
  unfold Oper.wp;rw[he,Oper.upon_value,hd];have cB:l.take len++((l.drop lo2).take 0++l.drop (len+0))=l:=by simp
  refine hK _ _ ⟨D,hv,?_⟩;rw[cB];have hP:=h.put (d:=d) (av:=.sl n 0 (len+0) size) (v:=.slice ao len cap) (bL hn) (bL h5) ⟨kN,by rw[Nat.add_zero]at gD |-;exact gD⟩;refine hP.congr λk=>?_;show look ((d,_)::(n,AV.mrow e size l)::s) k=look ((d,_)::s) k;rw[k9,k9,k9];split
  ·rfl
  ·split
   ·rename_i e;rw[<-e];exact hm.symm
   ·rfl
 obtain⟨g,cap',cur,f1,f2,f3,f4,f6,f7,f8,f9⟩:=Z8 g1 (by omega);obtain rfl:cap=cap':=by rw[f1]at h1;injection h1 with k1 k2 k3;exact k3.symm
 obtain rfl:ao=some ⟨g,0,none⟩:=by rw[f1]at h1;injection h1 with k1 k2 k3;exact k1.symm
 obtain rfl:cap=cap2:=by rw[f1]at j1;injection j1 with k1 k2 k3
 obtain rfl:ao2=some ⟨g,0,none⟩:=by rw[f1]at j1;injection j1 with k1 k2 k3;exact k1.symm
 have ha:ao2'=some ⟨g,lo2*size,none⟩:=j6 (by omega) g rfl;subst ha
 have qL:l=l.take lo2++((l.drop lo2).take len2++(l.drop lo2).drop len2):=by rw[take_append_drop,take_append_drop]
 have q4:=g4;rw[qL,map_append,map_append]at q4;obtain⟨x1,x4,ex1,t1,t2⟩:=y5 q4;obtain⟨zs,x3,ex2,t3,t4⟩:=y5 t2;have fE:x1.length=lo2*size:=by rw[B0 (n:=CV.size) (λc _ xs h=>h.len) t1,s5 (λc hc=>g3 c (mem_of_mem_take hc)),length_take,Nat.min_eq_left (by omega)]
 have cU:zs.length=len2*size:=by rw[B0 (n:=CV.size) (λc _ xs h=>h.len) t3,s5 (λc hc=>g3 c (mem_of_mem_drop (mem_of_mem_take hc))),length_take,List.length_drop,Nat.min_eq_left (by omega)]
 have dT:∀v∈zs,v.oneCell'=true:=G3 t3;have lO:xs.length=l.length*size:=g1.1;have hcl2:len*size+len2*size<=l.length*size:=by rw[<-Nat.add_mul];exact Nat.mul_le_mul_right _ hl
 have hcl3:lo2*size+len2*size<=l.length*size:=by rw[<-Nat.add_mul];exact Nat.mul_le_mul_right _ kM
 have qH:l.length*size<=cap*size:=Nat.mul_le_mul_right _ f3;have f7:cur.toList.take (l.length*size)=xs:=f7;have f6:cur.size=cap*size:=f6;have bX:∀j u,zs[j]?=some u->w.cell? ((⟨g,lo2*size,none⟩:Addr).add j)=some u:=λj u hj=>by
  have gI:j<zs.length:=by
   rcases Nat.lt_or_ge j zs.length with h | h
   ·exact h
   ·rw[getElem?_eq_none h]at hj;cases hj
  rw[Y0];have hc:xs[lo2*size+j]?=some u:=by rw[ex1,ex2,<-fE,List.getElem?_append_right (by omega),Nat.add_sub_cancel_left,List.getElem?_append_left gI];exact hj
  have kU:w.ownsRow 0 e size (.slice (some ⟨g,0,none⟩) l.length cap) l.length xs:=by rw[<-f1];exact g1
  rw[kU.cellAt _ (by omega)];exact hc
 have hr:=run_append_room (P:=P) w t o.type e i ht bF g len cap cur f2 ⟨g,lo2*size,none⟩ len2 (cap-lo2) zs (by rw[cA];exact cU) bX dT (by omega) (by rw[cA,cU,f6];omega);rw[cA]at hr;have he:(execOp a.eval o).run P w=.ok (.value (.slice (some ⟨g,0,none⟩) (len+len2) cap)) (w.setRow g (cur.toList.take (len*size)++zs++cur.toList.drop (len*size+zs.length)).toArray):=by generalize a.eval=ρ at h2 j2 |-;simp[execOp,ho,resolve,invoke,builtin,h2,j2,hr,Result.andThen]
 unfold Oper.wp;rw[he,Oper.upon_value,hd];obtain⟨l',cB⟩:∃l',l'=l.take len++((l.drop lo2).take len2++l.drop (len+len2)):=⟨_,rfl⟩
 have cZ:l'.length=l.length:=by rw[cB];simp;omega
 refine hK _ _ ?_;rw[<-cB]
 suffices hG:SimG w0 U0 nt ((n,.mrow e size l')::s) a (w.setRow g (cur.toList.take (len*size)++zs++cur.toList.drop (len*size+zs.length)).toArray) D hv from⟨_,_,hG.put (bL hn) (bL h5) ⟨kN,gD⟩⟩
 refine h.store (av:=.mrow e size l') kH hm (by simp) (by simp) rfl (λg' hn o _=>hn o (by simp)) (by simp) f9 f2 λw' hw bC=>?_;have gU:l=l.take len++((l.drop len).take len2++(l.drop len).drop len2):=by rw[take_append_drop,take_append_drop]
 have g4':=g4;rw[gU,map_append,map_append]at g4';obtain⟨y1,r1,e1,s1,s2⟩:=y5 g4';obtain⟨y2,y3,e2,s3,s4⟩:=y5 s2;have lT:y1.length=len*size:=by rw[B0 (n:=CV.size) (λc _ xs h=>h.len) s1,s5 (λc hc=>g3 c (mem_of_mem_take hc)),length_take,Nat.min_eq_left (by omega)]
 have iG:y2.length=len2*size:=by rw[B0 (n:=CV.size) (λc _ xs h=>h.len) s3,s5 (λc hc=>g3 c (mem_of_mem_drop (mem_of_mem_take hc))),length_take,List.length_drop,Nat.min_eq_left (by omega)]
 have hy3:y1.length+(y2.length+y3.length)=l.length*size:=by have:=lO;rw[e1,e2]at this;simpa using this
 have eX:cur.toList=y1++(y2++(y3++cur.toList.drop (l.length*size))):=by
  conv=>lhs;rw[<-take_append_drop (l.length*size) cur.toList,f7,e1,e2]
  simp
 have bT:cur.toList.take (len*size)++zs++cur.toList.drop (len*size+zs.length)=(y1++(zs++y3))++cur.toList.drop (l.length*size):=by
  have t1:cur.toList.take (len*size)=y1:=by rw[eX,<-lT];simp
  have t2:cur.toList.drop (len*size+zs.length)=y3++cur.toList.drop (l.length*size):=by
   rw[cU,<-lT,<-iG]
   conv=>lhs;rw[eX]
   rw[<-List.append_assoc,List.drop_append_of_le_length (by simp)];simp
  rw[t1,t2];simp
 rw[bT]at hw;refine⟨y1++(zs++y3),⟨?_,.inr ⟨g,cap,_,?_,Nat.zero_le _,hw,?_,f4,?_,?_⟩⟩,g2,λx hx=>?_,?_⟩
 ·show _=l'.length*size;rw[cZ];simp only[length_append,cU];omega
 ·show hv n=.slice _ l'.length cap;rw[cZ];exact f1
 ·show l'.length<=cap;rw[cZ];exact f3
 ·have:=congrArg List.length eX;rw[Array.length_toList,f6]at this;simp only[List.size_toArray,length_append,cU]at this |-;show _=cap*size;omega
 ·show List.take (l'.length*size) _=_;rw[cZ,List.take_append_of_le_length (by simp only[length_append,cU];omega),List.take_of_length_le (by simp only[length_append,cU];omega)]
 ·have hx:x∈l':=hx;rw[cB,mem_append,mem_append]at hx;rcases hx with hx | hx | hx
  ·exact g3 x (mem_of_mem_take hx)
  ·exact g3 x (mem_of_mem_drop (mem_of_mem_take hx))
  ·exact g3 x (mem_of_mem_drop hx)
 ·show Sq (l'.map λc=>Rep (Us w0 U0 D) w' c) _;rw[cB,map_append,map_append];refine y8 (Sq.keep bC s1) (y8 (Sq.keep bC t3) ?_);rw[<-List.drop_drop];exact Sq.keep bC s4
theorem zbx{P:Program}{w0:World}{U0:UX}{nt:Nat}{ops:Array Oper}{o:Oper}{S:Nat->Option AV}{gs:List Nat}{d:Nat}{x:Operand}{y:Operand}{t:Nat}{e:Nat}{size:Nat}{bytes:Nat}{zv:Value}{l:List CV}{n}{len}{lo2}{len2}(p:Gd w0 U0 nt ops o gs S:=by exact gN rfl)(q:o.dst=some d:=by exact rfl)(r:Nat.blt d nt=true:=by exact rfl)(z:Nat.blt d 100000=true:=by exact rfl)(A:o.op=.call { callee:=.builtin .append,args := #[x,y],argTypes := #[t,t] }:=by exact rfl)(B:P.underlying t=some (.slice e):=by exact rfl)(C:(P.info? e).map (λi=>(i.zero,i.size,i.bytes))=some (some zv,size,bytes):=by exact rfl)(E:ev S x=some (.sl n 0 len size):=by exact rfl)(F:ev S y=some (.sl n lo2 len2 size):=by exact rfl)(G:S n=some (.mrow e size l):=by exact rfl)(H:len+len2<=l.length:=by first | rfl | omega | (simp only[length_set,length_map,length_append,length_cons,length_nil]<;>omega) | (simp<;>omega))(kM:lo2+len2<=l.length:=by first | rfl | omega | (simp only[length_set,length_map,length_append,length_cons,length_nil]<;>omega) | (simp<;>omega)):AOp P w0 U0 nt ops o (gs++(rd x++(rd y++[n]))) [] S [(d,.sl n 0 (len+len2) size),(n,.mrow e size (l.take len++((l.drop lo2).take len2++l.drop (len+len2))))]:=c3w p q r z A B C E F G H kM
end
def O6:Value->Nat->Value
 | .slice ao _ cap,len => .slice ao len cap
 | v,_=>v
def a6z(P:Program)(f:FuncId)(pre:AS)(n1 n2:Nat)(args:Value->Value->List AV)(r:Value->Value->AV)(post:AS):Prop:=
 a3H P f/\∀(U:UX) (w:World) (hv:Nat->Value) (a0:Act) (vs:List Value),(∀k v,U.f k=some v->l7 (kO pre) k=true)->SimG w U 0 pre a0 w (λ_ _=>False) hv->AVReps (Us w U (λ_ _=>False)) w hv (a9 pre) (args (hv n1) (hv n2)) vs ->
  Calls P f vs.toArray w λe w'=>∃v D' kG a',e=.returned v/\SimG w U 0 post a' w' D' kG/\AVRep (Us w U D') w' kG (a9 post) (r (hv n1) (hv n2)) v
section
variable{P:Program}{w0:World}{U0:UX}{nt:Nat}{ops:Array Oper}{o:Oper}{S:Nat->Option AV}{gs:List Nat}{d:Nat}{s:AS}{a:Act}{w:World}{D:Nat->Nat->Prop}{hv:Nat->Value}
theorem a5v (d1 n1 d2 n2 : Nat) {f : FuncId} {fn : Func} {c : Code} {pre post : AS} {args : Value → Value → List AV} {r : Value → Value → AV} (hf : P.funcs[f]? = some fn) (hn : fn.ntmps = nt) (gM : (fn.name == "runtime.NumGoroutine") = false) (hb : fn.body = some c) (hl : ∀ v1 v2, Nat.ble (args v1 v2).length nt = true) (rC : (Nat.blt d1 nt && Nat.blt d2 nt) = true) (iM : (Nat.ble 200000 n1 && Nat.blt n1 450000 && (Nat.ble 200000 n2 && Nat.blt n2 450000)) = true) (cG : Nat.blt nt 100000 = true) (gB : (kO pre).all (Nat.ble 100000) = true) (kS : (kO post).all (Nat.ble 100000) = true)
  (h:∀(v1 v2:Value) (w:World) (U:UX),(∀k v,U.f k=some v->l7 (kO pre) k=true)->AWp P w U nt c (λe s'=>(e=.normal\/e=.ret)/\c1I P w U nt fn s' (r v1 v2) post) ((d1,.hdl v1 n1)::(d2,.hdl v2 n2)::(D7 (args v1 v2) 0++pre))):a6z P f pre n1 n2 args r post:=by
 refine⟨x0 hf gM (by rw[hb];rfl),λU w hv a0 vs hU gE hargs=>?_⟩;have kD:=hargs.len;refine calls_of_wp hf hb ?_;have cS:=Nat.le_of_ble_eq_true (hl (hv n1) (hv n2));have cG:=bL cG;have kV:∀{k av},look pre k=some av->100000<=k:=fun{k av} h1=>by rw[all_eq_true]at gB;exact Nat.le_of_ble_eq_true (gB k (j5 h1))
 have kB:∀{k},100000<=k->look (D7 (args (hv n1) (hv n2)) 0++pre) k=look pre k:=fun{k} h1=>by
  rw[d8];cases h2:look (D7 (args (hv n1) (hv n2)) 0) k with
  | none=>rfl
  | some av =>
   obtain⟨_,h3⟩:=x9 h2;rw[Nat.sub_zero,getElem?_eq_none (by omega)]at h3;cases h3
 have kI:a9 (D7 (args (hv n1) (hv n2)) 0++pre)=a9 pre:=by
  funext n;unfold a9 v8;apply propext;constructor
  ·rintro(h1 | ⟨e,h1,h2,h3⟩)
   ·exact .inl h1
   ·rw[kB (by omega)]at h1;exact .inr ⟨e,h1,h2,h3⟩
  ·rintro(h1 | ⟨e,h1,h2,h3⟩)
   ·exact .inl h1
   ·exact .inr ⟨e,by rw[kB (by omega)];exact h1,h2,h3⟩
 have eE:SimG w U nt (D7 (args (hv n1) (hv n2)) 0++pre) { tmps:=vs.toArray++Array.replicate (fn.ntmps-vs.toArray.size) undef,defers:=[] } w (λ_ _=>False) hv:=by
  refine⟨gE.below,rfl,by simp[hn];omega,λd av h1 h2=>?_,λn o av h1 h2 h3 h4=>?_,λn o o' av av' h1 h2=>?_,λk av h1 h2=>?_,λk av g h1 h2=>?_,λk k' av av' g h1 h2 h3 h4=>?_,gE.fix,λb o hd=>hd.elim⟩
  ·rw[d8]at h1;cases h3:look (D7 (args (hv n1) (hv n2)) 0) d with
   | none =>
    rw[h3]at h1;have:=kV h1;omega
   | some av' =>
    rw[h3]at h1;cases h1;obtain⟨_,h4⟩:=x9 h3;rw[Nat.sub_zero]at h4;obtain⟨v,h6,h7⟩:=hargs.at h4;have hdl:d<vs.length:=by
     rcases Nat.lt_or_ge d vs.length with h | h
     ·exact h
     ·rw[getElem?_eq_none h]at h6;cases h6
    rw[kI];refine⟨v,?_,h7⟩;rw[Array.getElem?_append_left (by simpa using hdl)];simpa using h6
  ·rw[kB (by unfold i7;omega)]at h1;rw[kB (by omega)]at h3;rw[kI];exact gE.fld n o av h1 h2 h3 h4
  ·rw[kB (by unfold i7;omega)]at h1 h2;exact gE.fdis n o o' av av' h1 h2
  ·rw[kB h2.1]at h1;rw[kI];exact gE.obj k av h1 h2
  ·rw[kB h2.1]at h1;exact gE.blk k av g h1 h2
  ·rw[kB h3.1]at h1;rw[kB h4.1]at h2;exact gE.disj k k' av av' g h1 h2 h3 h4
 simp only[Bool.and_eq_true]at rC iM;have fC:d1<nt:=bL rC.1;have gY:d2<nt:=bL rC.2;have iP:RN n1:=⟨Nat.le_of_ble_eq_true iM.1.1,bL iM.1.2⟩
 have jC:RN n2:=⟨Nat.le_of_ble_eq_true iM.2.1,bL iM.2.2⟩
 have dG:=eE.know (d:=d2) (av:=.hdl (hv n2) n2) (by omega) (Array.getElem?_eq_getElem (by rw[eE.size];exact gY)) ⟨jC,rfl⟩;have lX:=dG.know (d:=d1) (av:=.hdl (hv n1) n1) (by omega) (Array.getElem?_eq_getElem (by rw[eE.size];exact fC)) ⟨iP,rfl⟩;have hs:Sim w U nt ((d1,.hdl (hv n1) n1)::(d2,.hdl (hv n2) n2)::(D7 (args (hv n1) (hv n2)) 0++pre)) { tmps:=vs.toArray++Array.replicate (fn.ntmps-vs.toArray.size) undef,defers:=[] } w:=⟨_,_,lX⟩
 refine wp_mono ((h (hv n1) (hv n2) w U hU ⟨none,[]⟩ _ w hs).wp rfl (λe a w ⟨s,_,h⟩=>h.df)) ?_;rintro e a' w' ⟨s',⟨h1,s2,g1,g2,g3⟩,h3⟩;obtain⟨D',kG,h4⟩:=g1 a' w' h3;obtain⟨v,h5,h6⟩:=S3 h4 g2;have hS:=h4.sub g3.sub;have gW:∀{k av},look post k=some av->100000<=k:=fun{k av} h1=>by rw[all_eq_true]at kS;exact Nat.le_of_ble_eq_true (kS k (j5 h1))
 have jS:SimG w U 0 post ⟨#[],[]⟩ w' D' kG:=⟨hS.below,rfl,rfl,λd av h7 h8=>by have:=gW h7;omega,hS.fld,hS.fdis,hS.obj,hS.blk,hS.disj,hS.fix,hS.dlt⟩
 rcases h1 with rfl | rfl
 ·exact⟨h4.dfr,v,h5,v,D',kG,_,rfl,jS,h6.move (λ_ _ _ h1 h2=>⟨h1,h2⟩) (λ_ h7=>h7.imp id λ⟨e,he⟩=>⟨e,g3.sub _ _ he.1,he.2⟩) λ_=>rfl⟩
 ·exact⟨h4.dfr,v,h5,v,D',kG,_,rfl,jS,h6.move (λ_ _ _ h1 h2=>⟨h1,h2⟩) (λ_ h7=>h7.imp id λ⟨e,he⟩=>⟨e,g3.sub _ _ he.1,he.2⟩) λ_=>rfl⟩
theorem c1i(dh1 dh2:Nat){f:FuncId}{xs:Array Operand}{ts:Array TypeId}{ar:Value->Value->List AV}{rr:Value->Value->AV}{pre post:AS}{n1 n2:Nat}{u1 u2:Value}(hg:Gd w0 U0 nt ops o gs S)(hd:o.dst=some d)(hn:Nat.blt d nt=true)(h5:Nat.blt d 100000=true)
  (ho:o.op=.call { callee:=.value (.func f),args:=xs,argTypes:=ts }) (hc:a6z P f pre n1 n2 ar rr post) (qM:S dh1=some (.hdl u1 n1)) (hh2:S dh2=some (.hdl u2 n2)) (oD:(Nat.blt dh1 100000&&Nat.blt dh2 100000)=true) (hx:a4m S xs.toList=some (ar u1 u2)) (hp:SubS S pre) (hl:pre.all F5=true) (hq:post.all (G7 (kO post))=true) (jQ:(kO pre).all (l7 (kO post))=true) (hr:a3G (kO post) (rr u1 u2)=true) (hnb:∀k v,U0.f k=some v->l7 (kO post) k=true->l7 (kO pre) k=true) :
  AOp P w0 U0 nt ops o (gs++(rdl xs.toList++(kO pre++[dh1,dh2]))) (J6 (kO pre) (kO post) (kO post)) S ((d,rr u1 u2)::post):=by
 intro s hs hN a w ⟨D,hv,h⟩ Q K hK;rw[if_pos (hg s (λk hk=>hs k (mem_append_left _ hk)) a w D hv h)];have hargs:=S9 h (λk hk=>hs k (mem_append_right _ (mem_append_left _ hk))) hx;have kJ:Sub s pre:=λk av h1=>(hs k (mem_append_right _ (mem_append_right _ (mem_append_left _ (j5 h1))))).trans (hp.look h1);obtain⟨V,v1,v2,v3,v4,v5,v6⟩:=h.lend kJ hl;obtain⟨h1,h2⟩:=hc;rw[Bool.and_eq_true]at oD;obtain⟨_,_,fE⟩:∃v,a.tmps[dh1]?=some v/\RN n1/\hv n1=u1:=h.slot dh1 _ ((hs dh1 (by simp)).trans qM) (bL oD.1);obtain⟨_,_,jN⟩:∃v,a.tmps[dh2]?=some v/\RN n2/\hv n2=u2:=h.slot dh2 _ ((hs dh2 (by simp)).trans hh2) (bL oD.2);have h2:=λV a0 vs q1 q2 q3=>h2 V w hv a0 vs q1 q2 q3;rw[fE.2,jN.2]at h2;have kK:=h2 V ⟨#[],[]⟩ _ v1 v2 (hargs.imp λc _ v fU=>fU.move v6 (λ_ h3=>h3.imp id λ⟨e,he⟩=>⟨e,kJ _ _ he.1,he.2⟩) λ_=>rfl);have he:(execOp a.eval o).run P w=.ok (.enter f (xs.toList.map a.eval).toArray) w:=by
  have hf:a.eval (.func f)=.func (.func f) #[] #[]:=rfl;have cW:=h1 (xs.map a.eval) w;have gT:(xs.toList.map a.eval).toArray=xs.map a.eval:=by apply Array.ext';simp
  rw[gT];generalize a.eval=ρ at hf cW |-;simp[execOp,ho,resolve,invoke,Deferred.ofValue,hf,cW]
 unfold Oper.wp;rw[he,Oper.upon_enter];refine kK.mono ?_;rintro e w' ⟨v,D',kG,a',rfl,h6,h7⟩;rw[hd];obtain⟨D2,gD,h8,h9⟩:=h.back kJ hl hq jQ hN hnb v3 v4 v5 v2 h6;exact hK _ _ ⟨D2,gD,h8.put (bL hn) (bL h5) (h9.1 (rr u1 u2) v hr h7)⟩
theorem zbz{P:Program}{w0:World}{U0:UX}{nt:Nat}{ops:Array Oper}{o:Oper}{S:Nat->Option AV}{gs:List Nat}{d:Nat}{f:FuncId}{xs:Array Operand}{ts:Array TypeId}{ar:Value->Value->List AV}{rr:Value->Value->AV}{pre:AS}{post:AS}{n1:Nat}{n2:Nat}{u1:Value}{u2:Value}(dh1:Nat)(dh2:Nat)(p:Gd w0 U0 nt ops o gs S:=by exact gN rfl)(q:o.dst=some d:=by exact rfl)(r:Nat.blt d nt=true:=by exact rfl)(t:Nat.blt d 100000=true:=by exact rfl)(u:o.op=.call { callee:=.value (.func f),args:=xs,argTypes:=ts }:=by exact rfl)(x:a6z P f pre n1 n2 ar rr post)(y:S dh1=some (.hdl u1 n1):=by exact rfl)(z:S dh2=some (.hdl u2 n2):=by exact rfl)(A:(Nat.blt dh1 100000&&Nat.blt dh2 100000)=true:=by exact rfl)(B:a4m S xs.toList=some (ar u1 u2):=by exact rfl)(C:SubS S pre:=by repeat (first | exact trivial | refine⟨rfl,?_⟩))(E:pre.all F5=true:=by first | rfl | kernel_rfl)(F:post.all (G7 (kO post))=true:=by first | rfl | kernel_rfl)(G:(kO pre).all (l7 (kO post))=true:=by first | rfl | kernel_rfl)(H:a3G (kO post) (rr u1 u2)=true:=by first | rfl | kernel_rfl)(hnb:∀k v,U0.f k=some v->l7 (kO post) k=true->l7 (kO pre) k=true):AOp P w0 U0 nt ops o (gs++(rdl xs.toList++(kO pre++[dh1,dh2]))) (J6 (kO pre) (kO post) (kO post)) S ((d,rr u1 u2)::post):=c1i dh1 dh2 p q r t u x y z A B C E F G H hnb
theorem b6s(nn:Nat)(hg:Gd w0 U0 nt ops o gs S)(hd:o.dst=some d)(hn:Nat.blt d nt=true)(h5:Nat.blt d 100000=true){t e:TypeId}{len:Nat}{parts:Array (Nat×Operand)}{ie:TypeInfo}{z:Value}{cs:List CV}{sz:Nat}(ho:o.op=.buildSlice t len parts)(hu:P.underlying t=some (.slice e))(hi:P.info? e=some ie)(sJ:ie.size=sz)(hz:ie.zero=some z)(eD:a6w parts.toList 0=true)(hx:a0K S (parts.toList.map (·.2))=some cs)(hl:Nat.beq cs.length len=true)(kC:a6x cs sz=true)(hp:Nat.blt 0 (len*sz)=true)(pT:Nat.ble (len*sz) 16777216=true)(bH:(Nat.ble 200000 nn&&Nat.blt nn 400000)=true) :
  AOp P w0 U0 nt ops o (gs++rdl (parts.toList.map (·.2))) [(nn,[])] S [(d,.sl nn 0 len sz),(nn,.mrow e sz cs)]:=by
 subst sJ;intro s hs hN a w ⟨D,hv,h⟩ Q K hK;rw[if_pos (hg s (λk hk=>hs k (mem_append_left _ hk)) a w D hv h)];have pJ:=I8 h (λk hk=>hs k (mem_append_right _ hk)) hx;rw[map_map]at pJ;have kD:cs.length=len:=Nat.eq_of_beq_eq_true hl;have dK:=pJ.len;have gO:=bL hp;have eE:0<ie.size:=Nat.pos_of_ne_zero λe=>by rw[e]at gO;simp at gO
 have cL:=a0Q pJ (sZ kC);obtain⟨vs,cR⟩:∃vs,vs=parts.toList.map (a.eval∘(·.2)):=⟨_,rfl⟩
 rw[<-cR]at pJ dK cL;obtain⟨r,hf,iB,hrk⟩:=Great.fill_dense eE vs 0 ((Array.range (len*ie.size)).map (z.cells[·% z.cells.size]!)) cL (by simp;rw[dK,kD];exact Nat.le_refl _);have hr:r.toList=(vs.map λv=>v.cells.toList).flatten:=by
  apply List.ext_getElem?;intro k;rw[O5 eE _ (by intro v kG;rw[mem_map]at kG;obtain⟨u,hu,rfl⟩:=kG;simpa using cL u hu)];have:=hrk k;rw[<-Array.getElem?_toList]at this;simp only[Nat.zero_mul,Nat.zero_le,true_and,Nat.zero_add]at this;rw[this];by_cases hk:k<vs.length*ie.size
  ·rw[if_pos hk];simp only[Nat.sub_zero,List.getElem?_map];cases vs[k / ie.size]?<;>simp
  ·rw[if_neg hk,Array.getElem?_eq_none (by simp;rw[<-kD,<-dK];omega)];rw[List.getElem?_map,getElem?_eq_none (by rw[Nat.le_div_iff_mul_le eE];omega)];rfl
 have he:(execOp a.eval o).run P w=.ok (.value (.slice (some ⟨w.heap.size,0,none⟩) len len)) (w.alloc (.cells r e)):=by
  have h24':=Nat.le_of_ble_eq_true pT;have kX:(parts.map λx=>(x.1,a.eval x.2)).toList=(vs.zipIdx 0).map λx=>(x.2,x.1):=by rw[Array.toList_map,a1b eD a.eval,cR];rfl
  have:=run_buildSlice (P:=P) w t e len (parts.map λx=>(x.1,a.eval x.2)) r ie z hu hi hz (by omega) (by omega) (by rw[kX];exact hf);generalize a.eval=ρ at this |-;simp[execOp,ho,this]
 unfold Oper.wp;rw[he,Oper.upon_value,hd];have hrs':r.size=len*ie.size:=by rw[iB];simp
 have fZ:len<=maxLen:=by have:=Nat.le_of_ble_eq_true pT;have:len<=len*ie.size:=Nat.le_mul_of_pos_right _ eE;unfold maxLen;omega
 have dV:=rnB bH;have kU:=World.ownsRow_lit (e:=e) (size:=ie.size) (base:=w.heap.size) w r len (Nat.le_refl _) fZ hrs';have bC:∀b o u,Us w0 U0 D b o->w.cell? ⟨b,o,none⟩=some u->Us w0 U0 D b o/\(w.alloc (.cells r e)).cell? ⟨b,o,none⟩=some u:=λb o u hu hc=>by refine⟨hu,?_⟩;have kA:b<w.heap.size:=World.block_lt_of_cell? w _ hc;rw[World.cell?_of_block (w:=w) ((bA (Below.refl w.heap.size w) (.cells r e)).block b kA)];exact hc
 have hG:=h.newrow (avn:=.mrow e ie.size cs) (v':=.slice (some ⟨w.heap.size,0,none⟩) len len) (D':=D) (X:=λ_=>False) (n:=nn) dV (hN (nn,[]) (by simp)).nr (by simp) ⟨(bA (Below.refl w.heap.size w) (.cells r e)).os,(bA (Below.refl w.heap.size w) (.cells r e)).tape,(bA (Below.refl w.heap.size w) (.cells r e)).output,(bA (Below.refl w.heap.size w) (.cells r e)).size,λb hb hx=>(bA (Below.refl w.heap.size w) (.cells r e)).block b hb⟩ (λb hb=>hb.elim) (λg hg=>by
   have hg:(Value.slice (some ⟨w.heap.size,0,none⟩) len len).ownBlock=some g:=hg;refine⟨.inr (kU.lt g hg).1,(kU.lt g hg).2,λo _ hd=>?_⟩;have:=(kU.lt g hg).1;have:=h.dlt _ _ hd;omega) (λb o hd => .inl hd) (λb o hd=>Nat.lt_of_lt_of_le (h.dlt _ _ hd) (bA (Below.refl w.heap.size w) (.cells r e)).size) bC (λhv lv=>by
   refine⟨r.toList,?_,eE,sZ kC,?_⟩
   ·show(w.alloc (.cells r e)).ownsRow 0 e ie.size _ cs.length _;rw[kD];exact r5 kU (Nat.zero_le _)
   ·rw[hr];exact Sq.keep bC (Y9 pJ))
 refine hK _ _ ⟨_,_,hG.put (bL hn) (bL h5) ⟨RW.rn dV,?_⟩⟩;show SlV ((λx=>if x=nn then Value.slice (some ⟨w.heap.size,0,none⟩) len len else hv x) nn) 0 len ie.size _;simp only[if_true];exact J4 rfl (Nat.le_refl _) (.inr ⟨_,rfl⟩)
theorem zbA{P:Program}{w0:World}{U0:UX}{nt:Nat}{ops:Array Oper}{o:Oper}{S:Nat->Option AV}{gs:List Nat}{d:Nat}{t:TypeId}{e:TypeId}{len:Nat}{parts:Array (Nat×Operand)}{ie:TypeInfo}{z:Value}{cs:List CV}{sz:Nat}(nn:Nat)(p:Gd w0 U0 nt ops o gs S:=by exact gN rfl)(q:o.dst=some d:=by exact rfl)(y:Nat.blt d nt=true:=by exact rfl)(A:Nat.blt d 100000=true:=by exact rfl)(B:o.op=.buildSlice t len parts:=by exact rfl)(C:P.underlying t=some (.slice e):=by exact rfl)(E:P.info? e=some ie:=by exact rfl)(F:ie.size=sz:=by exact rfl)(G:ie.zero=some z:=by exact rfl)(H:a6w parts.toList 0=true:=by exact rfl)(hx:a0K S (parts.toList.map (·.2))=some cs:=by exact rfl)(hl:Nat.beq cs.length len=true:=by exact rfl)(kC:a6x cs sz=true:=by exact rfl)(hp:Nat.blt 0 (len*sz)=true:=by exact rfl)(pT:Nat.ble (len*sz) 16777216=true:=by exact rfl)(bH:(Nat.ble 200000 nn&&Nat.blt nn 400000)=true:=by exact rfl):AOp P w0 U0 nt ops o (gs++rdl (parts.toList.map (·.2))) [(nn,[])] S [(d,.sl nn 0 len sz),(nn,.mrow e sz cs)]:=b6s nn p q y A B C E F G H hx hl kC hp pT bH
theorem AWp.hdl{c:Code}{Q:Exit->AS->Prop}(d n:Nat)(hd:Nat.blt d nt=true)(h5:Nat.blt d 100000=true)(hn:(Nat.ble 200000 n&&Nat.blt n 450000)=true)(h:∀v,AWp P w0 U0 nt c Q ((d,.hdl v n)::s)):AWp P w0 U0 nt c Q s:=by
 intro M a w ⟨D,hv,hs⟩;have eD:d<a.tmps.size:=by rw[hs.size];exact bL hd
 exact h (hv n) M a w ⟨D,hv,hs.know (bL h5) (Array.getElem?_eq_getElem eD) ⟨rnF hn,rfl⟩⟩
theorem a0J(d n dh:Nat){len z:Nat}{v:Value}(h1:look s d=some (.sl n 0 len z))(h2:look s dh=some (.hdl v n))(hd:(Nat.blt d 100000&&Nat.blt dh 100000)=true):Wk w0 U0 nt s ((d,.val (.sc (O6 v len)))::s):=by
 rintro a w ⟨D,hv,h⟩;rw[Bool.and_eq_true]at hd;obtain⟨u,g1,kN,ao,m,cap,ao',e1,e2,e3,e4,e5,e6⟩:∃u,a.tmps[d]?=some u/\RN n/\SlV (hv n) 0 len z u:=h.slot d _ h1 (bL hd.1);obtain⟨_,_,_,hx⟩:∃u,a.tmps[dh]?=some u/\RN n/\hv n=v:=h.slot dh _ h2 (bL hd.2);have e2:u=.slice ao len cap:=by rw[e2,e4 rfl];rfl
 refine⟨D,hv,h.know (bL hd.1) g1 ?_⟩;rw[<-hx,e1];show AVRep _ _ _ _ (.val (.sc (.slice ao len cap))) u;rw[e2];exact o9 rfl
theorem b4d(d n dh len:Nat){e z:Nat}{l:List CV}{v:Value}(h1:look s d=some (.val (.sc (O6 v len))))(h2:look s dh=some (.hdl v n))(hm:look s n=some (.mrow e z l))(hd:(Nat.blt d 100000&&Nat.blt dh 100000)=true)(hl:len<=l.length):Wk w0 U0 nt s ((d,.sl n 0 len z)::s):=by
 rintro a w ⟨D,hv,h⟩;rw[Bool.and_eq_true]at hd;obtain⟨u,g1,g2⟩:=h.slot d _ h1 (bL hd.1);obtain⟨_,_,kN,hx⟩:∃u,a.tmps[dh]?=some u/\RN n/\hv n=v:=h.slot dh _ h2 (bL hd.2);obtain⟨xs,f1,_⟩:=h.mrow hm kN;obtain⟨ao,cap,e1,e2,_⟩:=M2 f1;have hu:u=O6 v len:=(o0.1 g2.1).1;refine⟨D,hv,h.know (bL hd.1) g1 ⟨kN,?_⟩⟩;show SlV (hv n) 0 len z u;rw[hu,<-hx,e1];exact⟨ao,l.length,cap,ao,rfl,rfl,by omega,λ_=>rfl,λ_ g dI=>by rw[dI,Nat.zero_mul],Iff.rfl⟩
def c4c:UX:=⟨λ_ _=>True,λ_=>False,λ_=>none,λ_ _ h=>by cases h⟩
theorem SimG.view(h:SimG w0 U0 nt s a w D hv){n e z len:Nat}{l:List CV}(hm:look s n=some (.mrow e z l))(kN:RN n)(hl:len<=l.length):VRep (λ_ _=>True) w (.lst (l.take len)) (O6 (hv n) len):=by
 obtain⟨xs,ho,hz,kC,sI⟩:=h.mrow hm kN;obtain⟨va,vc,ev,e2,e3,e4,e5⟩:=J7 ho;rw[ev];have gU:l=l.take len++l.drop len:=(take_append_drop _ _).symm;have q:=sI;rw[gU,map_append]at q;obtain⟨y1,y2,ey,s1,s2⟩:=y5 q;refine l5.2 ⟨va,len,vc,rfl,by rw[length_take,Nat.min_eq_left hl],by omega,e3,(λh=>⟨by have:=(e4 h).1;omega,(e4 h).2⟩),y1,?_,s1.keep λb o v _ hc=>⟨trivial,hc⟩⟩;rcases e5 with h0 | ⟨b,off,ha,kA,hc⟩
 ·left;have:=congrArg List.length ey;rw[h0,length_append]at this;exact List.eq_nil_of_length_eq_zero (by simp at this;omega)
 ·refine .inr ⟨b,off,ha,λi hi=>⟨trivial,?_⟩⟩;rw[hc i (by rw[ey,length_append];omega),ey,List.getElem?_append_left hi]
theorem SimG.viewBox(h:SimG w0 U0 nt s a w D hv)(n:Nat){v:Value}{k q p k1 k2 k3}{c:CV}(hb:look s (100000+n)=some ⟨5,.sc v,k,q,p⟩)(hs:look s n=some ⟨2,⟨k1,k2,k3⟩,n,0,[]⟩)(hn:n<100000)(hc:c.k≠2)(gD:VRep (λ_ _=>True) w c v):∃u,a.tmps[n]?=some u/\VRep (λ_ _=>True) w (.ptr c) u:=by
 obtain⟨g,xs,ty,g0,g1,g2,g5⟩:=h.box hb (by omega);obtain⟨v',g6,g7⟩:=h.slot n _ hs hn;have g7:v'=.pointer (some ⟨q6 (hv (100000+n)),0,none⟩):=g7.2;have sH:q6 (hv (100000+n))=g:=by rw[g0];rfl
 rw[sH]at g7;obtain rfl:xs=[v]:=(L6.1 g2).1;refine⟨v',g6,?_⟩;rw[g7];refine a0g.2 ⟨g,0,[v],rfl,?_,λi hi=>⟨trivial,?_⟩⟩
 ·unfold VRep at gD;rw[if_neg hc]at gD;exact gD
 have:=H5 (ys:=[]) (us:=[]) g1 (by simp) i hi;simpa using this
theorem b8D{c:Code}{Q:Exit->AS->Prop}{R:Exit->Prop}(vs:List (Nat×CV))(dr:Nat)(x:Value)(objs:AS)
  (wA:∀a w D hv,SimG w0 U0 nt s a w D hv->∀q∈vs,∃v,a.tmps[q.1]?=some v/\VRep (λ_ _=>True) w q.2 v)
  (h:∀w,AWp P w c4c nt c (λe s'=>R e/\look s' dr=some (.val (.sc x))) (vs.map λq=>(q.1,.val q.2)))
  (kJ:SubL s objs) (hk:(kO objs).all (Nat.ble 100000)=true) (hvk:(vs.all λq=>Nat.blt q.1 100000)=true) (pK:Nat.blt dr 100000=true) (hQ:∀e,R e->Q e ((dr,.val (.sc x))::objs)):AWp P w0 U0 nt c Q s:=by
 intro M a w ⟨D,hv,hs⟩;have kV:∀{k av},look (vs.map λq=>(q.1,AV.val q.2)) k=some av->∃q∈vs,k=q.1/\av=.val q.2:=fun{k av} h1=>by obtain⟨q,hq,he⟩:=mem_map.1 (E0 h1);injection he with e1 e2;exact⟨q,hq,e1.symm,e2.symm⟩
 rw[all_eq_true]at hvk hk;have kA:∀{k av},look (vs.map λq=>(q.1,AV.val q.2)) k=some av->k<100000:=fun{k av} h1=>by obtain⟨q,hq,rfl,_⟩:=kV h1;exact bL (hvk q hq)
 have hS:Sim w c4c nt (vs.map λq=>(q.1,AV.val q.2)) a w:=by
  refine⟨λ_ _=>False,hv,BelowX.refl _ _,hs.dfr,hs.size,λd av h1 h2=>?_,λn o av h1 h2 h3 h4=>?_,λn o o' av av' h1 h2=>?_,λk av h1 h2=>?_,λk av g h1 h2=>?_,λk k' av av' g h1 h2 h3 h4=>?_,λk v h1=>(by cases h1),λb o hd=>hd.elim⟩
  ·obtain⟨q,hq,rfl,rfl⟩:=kV h1;obtain⟨v,g1,g2⟩:=wA a w D hv hs q hq;exact⟨v,g1,n9 (g2.keep λb o v _ hc=>⟨.inl ⟨World.block_lt_of_cell? w _ hc,trivial,λh=>h⟩,hc⟩)⟩
  ·have:=kA h1;unfold i7 at this;omega
  ·have:=kA h1;unfold i7 at this;omega
  ·have:=kA h1;have:=h2.1;omega
  ·have:=kA h1;have:=h2.1;omega
  ·have:=kA h1;have:=h3.1;omega
 refine L4 (h w M a w hS) ?_;rintro e a' w' ⟨s',⟨hR,hx⟩,D',kG,g⟩;refine⟨_,hQ e hR,D,hv,?_⟩;have hB:Below w.heap.size w w':=g.below.below λk hk=>hk;have h1:=(hs.sub kJ.sub).grow' hB;have gW:∀{k av},look objs k=some av->100000<=k:=fun{k av} h1=>Nat.le_of_ble_eq_true (hk k (j5 h1));have h2:SimG w0 U0 nt objs a' w' D hv:=⟨h1.below,g.dfr,g.size,λd av h7 h8=>by have:=gW h7;omega,h1.fld,h1.fdis,h1.obj,h1.blk,h1.disj,h1.fix,h1.dlt⟩
 obtain⟨v,k1,k2⟩:=g.slot dr _ hx (bL pK);obtain⟨rfl,k3⟩:=o0.1 k2.1;exact h2.know (bL pK) k1 (o9 k3)
theorem b2u{W:World}{f:FuncId}{x:Value}{c2:CV}{e z nm N:Nat}{l:List CV}(h1:300000<=nm)(h2:nm<450000)(hN:N<=l.length)(h:AFun P W f [.lst (l.take N),c2] (.val (.sc x))):r8 P f [(nm,.mrow e z l)] [.sl nm 0 N z,.val c2] (.val (.sc x)) [(nm,.mrow e z l)]:=by
 refine⟨h.1,λU w hv a0 vs hU hp ha=>?_⟩;obtain⟨u1,us1,rfl,a1,u2,us2,rfl,a2,a4⟩:=ha;have a4:us2=[]:=a4;subst a4;have kN:RN nm:=⟨by omega,by omega⟩
 have kB:look [(nm,AV.mrow e z l)] nm=some (.mrow e z l):=by rw[k9];simp
 have hvw:=hp.view kB kN hN;have a1:RN nm/\SlV (hv nm) 0 N z u1:=a1;obtain⟨_,ao,m,cap,ao',s1,s2,s3,s4,_⟩:=a1;have e9:u1=O6 (hv nm) N:=by rw[s1,s2,s4 rfl];rfl
 refine(h.2.2.2 (λ_ _=>True) w _ trivial ⟨_,_,rfl,by rw[e9];exact hvw,_,_,rfl,a2.1.mono λb o _=>trivial,rfl⟩).mono ?_;rintro e' w' ⟨v,rfl,hr,hB⟩;obtain⟨rfl,h9⟩:=o0.1 hr;exact⟨_,_,hv,a0,rfl,hp.grow' hB,o9 h9⟩
end
section
open Go.RowKit Go.MapKept
structure On(w0:World)(U0:UX)(w:World)(U:UX):Prop where
 below:BelowX U0.x w0 w
 x:∀b,U.x b->U0.x b\/w0.heap.size<=b
 m:∀b o,b<w0.heap.size->U0.m b o->¬ U0.x b->U.m b o
 f:∀v,U0.f 450001=some v->U.f 450001=some v
theorem On.refl(w:World)(U:UX):On w U w U:=⟨BelowX.refl _ _,λb h => .inl h,λb o _ h _=>h,λv h=>h⟩
theorem On.trans{w0 w1 w2:World}{U0 U1 U2:UX}(h:On w0 U0 w1 U1)(k:On w1 U1 w2 U2):On w0 U0 w2 U2:=by
 have hs:=h.below.size;have kZ:∀b,b<w0.heap.size->¬ U0.x b->¬ U1.x b:=λb hb hx h1=>by
  rcases h.x b h1 with h2 | h2
  ·exact hx h2
  ·omega
 refine⟨⟨k.below.os.trans h.below.os,k.below.tape.trans h.below.tape,k.below.output.trans h.below.output,Nat.le_trans hs k.below.size,λb hb hx=>(k.below.block b (by omega) (kZ b hb hx)).trans (h.below.block b hb hx)⟩,λb hb=>?_,λb o hb hm hx=>k.m b o (by omega) (h.m b o hb hm hx) (kZ b hb hx),λv hv=>k.f v (h.f v hv)⟩;rcases k.x b hb with h2 | h2
 ·exact h.x b h2
 ·exact .inr (by omega)
section
variable{P:Program}{w0:World}{U0:UX}{nt:Nat}{s:AS}{a:Act}{w:World}{D:Nat->Nat->Prop}{hv:Nat->Value}
theorem SimG.on(h:SimG w0 U0 nt s a w D hv){pre:AS}(hp:Sub s pre)(hl:pre.all F5=true){V:UX}(v3:∀b,V.x b↔∃k av,look pre k=some av/\n4 k/\hb (hv k)=some b)(v4:∀k,l7 (kO pre) k=true->400000<=k->k<500000->V.f k=some (hv k))(v5:∀b o,V.m b o↔Us w0 U0 D b o)(hk:l7 (kO pre) 450001=true):On w0 U0 w V:=by
 refine⟨h.below,λb hb=>?_,λb o hb hm hx=>(v5 b o).2 (.inl ⟨hb,hm,hx⟩),λv hf=>?_⟩
 ·obtain⟨k,av,h1,h2,h3⟩:=(v3 b).1 hb;have h4:=I2 hl h1;unfold n4 at h2;unfold F5 at h4;have h5:Nat.ble 500000 k=false:=by
   cases e:Nat.ble 500000 k with
   | false=>rfl
   | true=>have:=Nat.le_of_ble_eq_true e;omega
  simp only[h5,Bool.and_eq_true,Bool.or_eq_true,Bool.not_eq_true']at h4;obtain⟨⟨⟨g1,g2⟩,g3⟩,g4⟩:=h4;obtain⟨f1,_,_⟩:=h.blk k av b (hp _ _ h1) h2 (λe=>by rw[e]at g3;cases g3) h3;rcases f1 with f1 | f1
  ·exact .inr f1
  ·exact .inl f1.2
 ·rw[v4 450001 hk (by omega) (by omega),h.fix 450001 v hf]
def a1F(P:Program)(Wb:World)(Ub:UX)(f:FuncId)(pre:AS)(args:List AV)(r:AV)(post:AS):Prop:=
 a3H P f/\∀(U:UX) (w:World) (hv:Nat->Value) (a0:Act) (vs:List Value),On Wb Ub w U->(∀k v,U.f k=some v->l7 (kO pre) k=true)->SimG w U 0 pre a0 w (λ_ _=>False) hv->AVReps (Us w U (λ_ _=>False)) w hv (a9 pre) args vs ->
  Calls P f vs.toArray w λe w'=>∃v D' kG a',e=.returned v/\SimG w U 0 post a' w' D' kG/\AVRep (Us w U D') w' kG (a9 post) r v
def b9r(P:Program)(Wb:World)(Ub:UX)(l nm:Nat)(pre:AS)(args:Value->List AV)(post:AS):Prop:=
 ∀(U:UX) (w:World) (hv:Nat->Value) (a0:Act) (vs:List Value),On Wb Ub w U->(∀k v,U.f k=some v->l7 (kO pre) k=true)->SimG w U 0 pre a0 w (λ_ _=>False) hv->AVReps (Us w U (λ_ _=>False)) w hv (a9 pre) (args (hv nm)) vs ->
  YieldAt Fence.wide 1 P l vs.toArray w λe w'=>e=.returned (.bool true)/\∃D' kG a',SimG w U 0 post a' w' D' kG
abbrev G1(l:Nat):CV:=.sc (.func (.yield l) #[] #[])
def c5F(P:Program)(w0:World)(U0:UX)(nt:Nat)(ops:Array Oper)(o:Oper)(s e:AS):Prop:=
 ∀(M:Md) a w,Sim w0 U0 nt s a w->∀(Q:Exit->Act->World->Prop) (K:Act->World->Prop),(∀a' w',Sim w0 U0 nt (e++s) a' w'->K (wdA a' M.ds) w') ->
  if Region.wanted o (yielded ops (wdA a M.ds).tmps)=true then o.wpIn (B5 M.r) 1 P (wdA a M.ds) w K Q else(∀f,o.about P w (wdA a M.ds).eval=some f->(B5 M.r).fn f)/\K ((wdA a M.ds).put o.dst undef) w
def c2A(P:Program)(w0:World)(U0:UX)(nt:Nat)(ops:Array Oper)(o:Oper)(R:List Nat)(N:List (Nat×List Nat))(S:Nat->Option AV)(e:AS):Prop:=
 ∀s,(∀k∈R,look s k=S k)->(∀q∈N,NoRefE s q)->c5F P w0 U0 nt ops o s e
def c0g(P:Program)(w0:World)(U0:UX)(nt:Nat)(ops:Array Oper):List Oper->AS->(AS->Prop)->Prop
 | [],s,K=>K s
 | o::os,s,K=>∃(R:List Nat) (N:List (Nat×List Nat)) (e:AS),c2A P w0 U0 nt ops o R N (look s) e/\A6 s N=true/\c0g P w0 U0 nt ops os (e++s) K
theorem AOp.y{ops:Array Oper}{o:Oper}{R:List Nat}{N:List (Nat×List Nat)}{S:Nat->Option AV}{e:AS}(h:AOp P w0 U0 nt ops o R N S e):c2A P w0 U0 nt ops o R N S e:=λs h1 h2 M a w hs Q K hK=>a9i (h s h1 h2) hs hK
theorem nxY{ops:Array Oper}{o:Oper}{os:List Oper}{s e:AS}{K:AS->Prop}{R:List Nat}{N:List (Nat×List Nat)}(h1:c2A P w0 U0 nt ops o R N (look s) e)(h2:A6 s N=true)(h3:c0g P w0 U0 nt ops os (e++s) K):c0g P w0 U0 nt ops (o::os) s K:=⟨R,N,e,h1,h2,h3⟩
theorem a7z{ops:Array Oper}{M:Md}{Q:Exit->Act->World->Prop}:∀{l:List Oper} {s:AS} {K:AS->Prop},c0g P w0 U0 nt ops l s K->(∀s' a w,K s'->Sim w0 U0 nt s' a w->Q .normal (wdA a M.ds) w)->∀a w,Sim w0 U0 nt s a w->wpListIn (B5 M.r) 1 P ops Q l (wdA a M.ds) w
 | [],s,K,h,hK,a,w,hs=>hK s a w h hs
 | o::os,s,K,⟨R,N,e,h1,h2,h3⟩,hK,a,w,hs=>by
  unfold wpListIn;exact h1 s (λ_ _=>rfl) (q9 h2) M a w hs _ _ (λa' w' gC=>a7z h3 hK a' w' gC)
theorem K7{id:Nat}{l:List Oper}{Q:Exit->AS->Prop}{s:AS}(h:c0g P w0 U0 nt l.toArray l s λs'=>Q .normal s'):AWp P w0 U0 nt (.region id l.toArray false) Q s:=
 λM a w hs=>wpIn_region_lit (a7z (M:=M) h (λs' a w h1 h2=>⟨a,rfl,s',h1,h2⟩) a w hs)
theorem a9T{m m':Nat}{ro:Option Nat}{l:Nat}{f:FuncId}{tmps:Array Value}{assign body:Code}{R:Ending->World->Prop}(h:RoundIn Fence.wide m P l f tmps assign body w R):RoundIn (B5 ro) m' P l f tmps assign body w R:=
 ⟨trivial,λc cs _=>by obtain⟨e,w',h1,h2⟩:=h.2 c cs (room_wide _);refine⟨e,w',h1,?_⟩;cases e<;>exact h2⟩
variable{ops:Array Oper}{o:Oper}{S:Nat->Option AV}{gs:List Nat}{d:Nat}
theorem a2g(dh:Nat){Wb:World}{Ub:UX}{l nm:Nat}{x:Operand}{xs:Array Operand}{ts:Array TypeId}{ar:Value->List AV}{pre post:AS}{u:Value}{n q p}(hY:b9r P Wb Ub l nm pre ar post)(bG:On Wb Ub w0 U0)(hg:Gd w0 U0 nt ops o gs S)(hd:o.dst=some d)(hn:Nat.blt d nt=true)(h5:Nat.blt d 100000=true)
  (ho:o.op=.call { callee:=.value x,args:=xs,argTypes:=ts }) (hf:ev S x=some ⟨0,G1 l,n,q,p⟩) (hx:a4m S xs.toList=some (ar u)) (hh:(S dh=some (.hdl u nm)/\Nat.blt dh 100000=true)\/∀v v',ar v=ar v') (hp:SubS S pre) (hl:pre.all F5=true) (hq:post.all (G7 (kO post))=true) (jQ:(kO pre).all (l7 (kO post))=true) (hnb:∀k v,U0.f k=some v->l7 (kO post) k=true->l7 (kO pre) k=true) (fG:l7 (kO pre) 450001=true) :
  c2A P w0 U0 nt ops o (gs++(rd x++(rdl xs.toList++(kO pre++[dh])))) (J6 (kO pre) (kO post) (kO post)) S ((d,.val (.b true))::post):=by
 intro s hs hN M a w ⟨D,hv,h⟩ Q K hK;show if Region.wanted o (yielded ops a.tmps)=true then _ else _
 rw[if_pos (hg s (λk hk=>hs k (mem_append_left _ hk)) a w D hv h)];have nI:=v9 h (λk hk=>hs k (mem_append_right _ (mem_append_left _ hk))) hf;have hargs:=S9 h (λk hk=>hs k (mem_append_right _ (mem_append_right _ (mem_append_left _ hk)))) hx;have kJ:Sub s pre:=λk av h1=>(hs k (mem_append_right _ (mem_append_right _ (mem_append_right _ (mem_append_left _ (j5 h1)))))).trans (hp.look h1);have hu:ar (hv nm)=ar u:=by
  rcases hh with⟨h1,h2⟩ | h1
  ·obtain⟨_,_,_,h3⟩:∃v,a.tmps[dh]?=some v/\RN nm/\hv nm=u:=h.slot dh _ ((hs dh (by simp)).trans h1) (bL h2);rw[h3]
  ·exact h1 _ _
 obtain⟨V,v1,v2,v3,v4,v5,v6⟩:=h.lend kJ hl;obtain⟨fn,tm,assign,body,hy,hR⟩:=hY V w hv ⟨#[],[]⟩ _ (bG.trans (h.on kJ hl v3 v4 v5 fG)) v1 v2 (by rw[hu];exact hargs.imp λc _ v fU=>fU.move v6 (λ_ h3=>h3.imp id λ⟨e,he⟩=>⟨e,kJ _ _ he.1,he.2⟩) λ_=>rfl);have he:(o.semAt (B5 M.r).round (wdA a M.ds).eval).run P w=.ok (.round l fn tm assign body) w:=by
  rw[Oper.semAt_eq _ _ _ (λc hc=>by rw[ho]at hc;cases hc),X7];have gT:(xs.toList.map a.eval).toArray=xs.map a.eval:=by apply Array.ext';simp
  rw[gT]at hy;generalize a.eval=ρ at nI hy |-;have nI:ρ x=.func (.yield l) #[] #[]:=nI;simp[execOp,ho,resolve,invoke,Deferred.ofValue,nI,hy]
 refine⟨λ_ _=>trivial,?_⟩;rw[he,Oper.uponIn_round];refine⟨(λhh=>by cases hh),(a9T (ro:=M.r) hR).mono ?_⟩;rintro e w' ⟨rfl,D',kG,a',h6⟩;obtain⟨D2,gD,h8,h9⟩:=h.back kJ hl hq jQ hN hnb v3 v4 v5 v2 h6;have dH:=hK _ _ ⟨D2,gD,h8.put (bL hn) (bL h5) (av:=.val (.b true)) (v:=.bool true) (o9 rfl)⟩;rw[hd];exact dH
theorem c0S{f:FuncId}{xs:Array Operand}{ts:Array TypeId}{avs:List AV}{r:AV}{pre post:AS}{Wb:World}{Ub:UX}(bG:On Wb Ub w0 U0)(hg:Gd w0 U0 nt ops o gs S)(hd:o.dst=some d)(hn:Nat.blt d nt=true)(h5:Nat.blt d 100000=true)
  (ho:o.op=.call { callee:=.value (.func f),args:=xs,argTypes:=ts }) (hx:a4m S xs.toList=some avs) (hc:a1F P Wb Ub f pre avs r post) (hp:SubS S pre) (hl:pre.all F5=true) (hq:post.all (G7 (kO post))=true) (jQ:(kO pre).all (l7 (kO post))=true) (hr:a3G (kO post) r=true) (hnb:∀k v,U0.f k=some v->l7 (kO post) k=true->l7 (kO pre) k=true) (fG:l7 (kO pre) 450001=true) :
  AOp P w0 U0 nt ops o (gs++(rdl xs.toList++kO pre)) (J6 (kO pre) (kO post) (kO post)) S ((d,r)::post):=by
 intro s hs hN a w ⟨D,hv,h⟩ Q K hK;rw[if_pos (hg s (λk hk=>hs k (mem_append_left _ hk)) a w D hv h)];have hargs:=S9 h (λk hk=>hs k (mem_append_right _ (mem_append_left _ hk))) hx;have kJ:Sub s pre:=λk av h1=>(hs k (mem_append_right _ (mem_append_right _ (j5 h1)))).trans (hp.look h1);obtain⟨V,v1,v2,v3,v4,v5,v6⟩:=h.lend kJ hl;obtain⟨h1,h2⟩:=hc;have kK:=h2 V w hv ⟨#[],[]⟩ _ (bG.trans (h.on kJ hl v3 v4 v5 fG)) v1 v2 (hargs.imp λc _ v fU=>fU.move v6 (λ_ h3=>h3.imp id λ⟨e,he⟩=>⟨e,kJ _ _ he.1,he.2⟩) λ_=>rfl);have he:(execOp a.eval o).run P w=.ok (.enter f (xs.toList.map a.eval).toArray) w:=by
  have hf:a.eval (.func f)=.func (.func f) #[] #[]:=rfl;have cW:=h1 (xs.map a.eval) w;have gT:(xs.toList.map a.eval).toArray=xs.map a.eval:=by apply Array.ext';simp
  rw[gT];generalize a.eval=ρ at hf cW |-;simp[execOp,ho,resolve,invoke,Deferred.ofValue,hf,cW]
 unfold Oper.wp;rw[he,Oper.upon_enter];refine kK.mono ?_;rintro e w' ⟨v,D',kG,a',rfl,h6,h7⟩;rw[hd];obtain⟨D2,gD,h8,h9⟩:=h.back kJ hl hq jQ hN hnb v3 v4 v5 v2 h6;exact hK _ _ ⟨D2,gD,h8.put (bL hn) (bL h5) (h9.1 r v hr h7)⟩
theorem zbK{P:Program}{w0:World}{U0:UX}{nt:Nat}{ops:Array Oper}{o:Oper}{S:Nat->Option AV}{gs:List Nat}{d:Nat}{f:FuncId}{xs:Array Operand}{ts:Array TypeId}{avs:List AV}{r:AV}{pre:AS}{post:AS}{Wb:World}{Ub:UX}(bG:On Wb Ub w0 U0)(p:Gd w0 U0 nt ops o gs S:=by exact gN rfl)(q:o.dst=some d:=by exact rfl)(t:Nat.blt d nt=true:=by exact rfl)(u:Nat.blt d 100000=true:=by exact rfl)(x:o.op=.call { callee:=.value (.func f),args:=xs,argTypes:=ts }:=by exact rfl)(y:a4m S xs.toList=some avs:=by exact rfl)(z:a1F P Wb Ub f pre avs r post)(A:SubS S pre:=by repeat (first | exact trivial | refine⟨rfl,?_⟩))(B:pre.all F5=true:=by first | rfl | kernel_rfl)(C:post.all (G7 (kO post))=true:=by first | rfl | kernel_rfl)(E:(kO pre).all (l7 (kO post))=true:=by first | rfl | kernel_rfl)(F:a3G (kO post) r=true:=by first | rfl | kernel_rfl)(G:∀k v,U0.f k=some v->l7 (kO post) k=true->l7 (kO pre) k=true)(H:l7 (kO pre) 450001=true:=by exact rfl):AOp P w0 U0 nt ops o (gs++(rdl xs.toList++kO pre)) (J6 (kO pre) (kO post) (kO post)) S ((d,r)::post):=c0S bG p q t u x y z A B C E F G H
end
section
variable{P:Program}{w0:World}{U0:UX}{nt:Nat}{s:AS}
theorem b5H{f:FuncId}{fn:Func}{c:Code}{pre post:AS}{args:List AV}{r:AV}(hf:P.funcs[f]?=some fn)(hn:fn.ntmps=nt)(hb:fn.body=some c)(hl:Nat.ble args.length nt=true)(cG:Nat.blt nt 100000=true)(gB:(kO pre).all (Nat.ble 100000)=true)(kS:(kO post).all (Nat.ble 100000)=true){w:World}{U:UX}(hU:∀k v,U.f k=some v->l7 (kO pre) k=true)
  (h:AWp P w U nt c (λe s'=>(e=.normal\/e=.ret)/\c1I P w U nt fn s' r post) (D7 args 0++pre)) {hv:Nat->Value} {a0:Act} {vs:List Value} (gE:SimG w U 0 pre a0 w (λ_ _=>False) hv) (hargs:AVReps (Us w U (λ_ _=>False)) w hv (a9 pre) args vs) :
  Calls P f vs.toArray w λe w'=>∃v D' kG a',e=.returned v/\SimG w U 0 post a' w' D' kG/\AVRep (Us w U D') w' kG (a9 post) r v:=by
 have kD:=hargs.len;refine calls_of_wp hf hb ?_;have cS:=Nat.le_of_ble_eq_true hl;have cG:=bL cG;have kV:∀{k av},look pre k=some av->100000<=k:=fun{k av} h1=>by rw[all_eq_true]at gB;exact Nat.le_of_ble_eq_true (gB k (j5 h1))
 have kB:∀{k},100000<=k->look (D7 args 0++pre) k=look pre k:=fun{k} h1=>by
  rw[d8];cases h2:look (D7 args 0) k with
  | none=>rfl
  | some av =>
   obtain⟨_,h3⟩:=x9 h2;rw[Nat.sub_zero,getElem?_eq_none (by omega)]at h3;cases h3
 have kI:a9 (D7 args 0++pre)=a9 pre:=by
  funext n;unfold a9 v8;apply propext;constructor
  ·rintro(h1 | ⟨e,h1,h2,h3⟩)
   ·exact .inl h1
   ·rw[kB (by omega)]at h1;exact .inr ⟨e,h1,h2,h3⟩
  ·rintro(h1 | ⟨e,h1,h2,h3⟩)
   ·exact .inl h1
   ·exact .inr ⟨e,by rw[kB (by omega)];exact h1,h2,h3⟩
 have hs:Sim w U nt (D7 args 0++pre) { tmps:=vs.toArray++Array.replicate (fn.ntmps-vs.toArray.size) undef,defers:=[] } w:=by
  refine⟨λ_ _=>False,hv,gE.below,rfl,by simp[hn];omega,λd av h1 h2=>?_,λn o av h1 h2 h3 h4=>?_,λn o o' av av' h1 h2=>?_,λk av h1 h2=>?_,λk av g h1 h2=>?_,λk k' av av' g h1 h2 h3 h4=>?_,gE.fix,λb o hd=>hd.elim⟩
  ·rw[d8]at h1;cases h3:look (D7 args 0) d with
   | none =>
    rw[h3]at h1;have:=kV h1;omega
   | some av' =>
    rw[h3]at h1;cases h1;obtain⟨_,h4⟩:=x9 h3;rw[Nat.sub_zero]at h4;obtain⟨v,h6,h7⟩:=hargs.at h4;have hdl:d<vs.length:=by
     rcases Nat.lt_or_ge d vs.length with h | h
     ·exact h
     ·rw[getElem?_eq_none h]at h6;cases h6
    rw[kI];refine⟨v,?_,h7⟩;rw[Array.getElem?_append_left (by simpa using hdl)];simpa using h6
  ·rw[kB (by unfold i7;omega)]at h1;rw[kB (by omega)]at h3;rw[kI];exact gE.fld n o av h1 h2 h3 h4
  ·rw[kB (by unfold i7;omega)]at h1 h2;exact gE.fdis n o o' av av' h1 h2
  ·rw[kB h2.1]at h1;rw[kI];exact gE.obj k av h1 h2
  ·rw[kB h2.1]at h1;exact gE.blk k av g h1 h2
  ·rw[kB h3.1]at h1;rw[kB h4.1]at h2;exact gE.disj k k' av av' g h1 h2 h3 h4
 refine wp_mono ((h ⟨none,[]⟩ _ w hs).wp rfl (λe a w ⟨s,_,h⟩=>h.df)) ?_;rintro e a' w' ⟨s',⟨h1,s2,g1,g2,g3⟩,h3⟩;obtain⟨D',kG,h4⟩:=g1 a' w' h3;obtain⟨v,h5,h6⟩:=S3 h4 g2;have hS:=h4.sub g3.sub;have gW:∀{k av},look post k=some av->100000<=k:=fun{k av} h1=>by rw[all_eq_true]at kS;exact Nat.le_of_ble_eq_true (kS k (j5 h1))
 have jS:SimG w U 0 post ⟨#[],[]⟩ w' D' kG:=⟨hS.below,rfl,rfl,λd av h7 h8=>by have:=gW h7;omega,hS.fld,hS.fdis,hS.obj,hS.blk,hS.disj,hS.fix,hS.dlt⟩
 rcases h1 with rfl | rfl
 ·exact⟨h4.dfr,v,h5,v,D',kG,_,rfl,jS,h6.move (λ_ _ _ h1 h2=>⟨h1,h2⟩) (λ_ h7=>h7.imp id λ⟨e,he⟩=>⟨e,g3.sub _ _ he.1,he.2⟩) λ_=>rfl⟩
 ·exact⟨h4.dfr,v,h5,v,D',kG,_,rfl,jS,h6.move (λ_ _ _ h1 h2=>⟨h1,h2⟩) (λ_ h7=>h7.imp id λ⟨e,he⟩=>⟨e,g3.sub _ _ he.1,he.2⟩) λ_=>rfl⟩
theorem a1B {f : FuncId} {fn : Func} {c : Code} {pre post : AS} {args : List AV} {r : AV} {Wb : World} {Ub : UX} (hf : P.funcs[f]? = some fn) (hn : fn.ntmps = nt) (gM : (fn.name == "runtime.NumGoroutine") = false) (hb : fn.body = some c) (hl : Nat.ble args.length nt = true) (cG : Nat.blt nt 100000 = true) (gB : (kO pre).all (Nat.ble 100000) = true) (kS : (kO post).all (Nat.ble 100000) = true)
  (h:∀(w:World) (U:UX),On Wb Ub w U->(∀k v,U.f k=some v->l7 (kO pre) k=true)->AWp P w U nt c (λe s'=>(e=.normal\/e=.ret)/\c1I P w U nt fn s' r post) (D7 args 0++pre)):a1F P Wb Ub f pre args r post:=
 ⟨x0 hf gM (by rw[hb];rfl),λU w hv a0 vs bG hU gE hargs=>b5H hf hn hb hl cG gB kS hU (h w U bG hU) gE hargs⟩
theorem b5I {f : FuncId} {fn : Func} {c : Code} {pre post : AS} {args : List AV} {r : AV} {Wb : World} {Ub : UX} (hf : P.funcs[f]? = some fn) (hn : fn.ntmps = nt) (gM : (fn.name == "runtime.NumGoroutine") = false) (hb : fn.body = some c) (hl : Nat.ble args.length nt = true) (cG : Nat.blt nt 100000 = true) (gB : (kO pre).all (Nat.ble 100000) = true) (kS : (kO post).all (Nat.ble 100000) = true)
  (h:∀(w:World) (U:UX),On Wb Ub w U->(∀k v,U.f k=some v->l7 (kO pre) k=true)->a2l P w U nt c (λe s' g=>(e=.normal\/e=.ret)/\∃s2,Wk w U nt s' ((299999,.ob g 0)::s2)/\b6L P s2 fn.results.toList=some r/\SubL s2 post/\look s2 299999=none) (D7 args 0++pre)):a1F P Wb Ub f pre args r post:=
 ⟨x0 hf gM (by rw[hb];rfl),λU w hv a0 vs bG hU gE hargs=>a7i hf hn hb hl cG gB kS (h w U bG hU) gE hargs⟩
def parA:List Tmp->List AV->AS->AS
 | p::ps,c::cs,s=>parA ps cs ((p,c)::s)
 | _,_,s=>s
theorem SlOk.parA{R:AV->Value->Prop}:∀{ps:List Tmp} {cs:List AV} {vs:List Value} {s:AS} {tm:Array Value},SlOk R s tm->(ps.all λp=>Nat.blt p tm.size)=true->(∀(i:Nat) (c:AV),cs[i]?=some c->∃v,vs[i]?=some v/\R c v)->vs.length=cs.length->SlOk R (parA ps cs s) (a7H ps vs tm)/\(a7H ps vs tm).size=tm.size
 | [],cs,vs,s,tm,h,_,_,_=>⟨by cases cs<;>exact h,rfl⟩
 | p::ps,[],vs,s,tm,h,_,hv,hl=>by
  have:vs=[]:=List.eq_nil_of_length_eq_zero hl;subst this;exact⟨h,rfl⟩
 | p::ps,c::cs,[],s,tm,h,_,_,hl=>by cases hl
 | p::ps,c::cs,u::us,s,tm,h,hl,hv,dK=>by
  rw[all_cons,Bool.and_eq_true]at hl;obtain⟨v,h1,h2⟩:=hv 0 c rfl;cases h1;have:=SlOk.parA (ps:=ps) (cs:=cs) (vs:=us) (s:=(p,c)::s) (tm:=tm.setIfInBounds p u) (h.set (bL hl.1) h2) (by rw[Array.size_setIfInBounds];exact hl.2) (λi c hc=>hv (i+1) c hc) (by simpa using dK);exact⟨this.1,by show(a7H ps us (tm.setIfInBounds p u)).size=_;rw[this.2,Array.size_setIfInBounds]⟩
theorem a7p:∀(nt:Nat) (ps:List Tmp) (cs:List AV) (sl:AS),(ps.all λp=>Nat.blt p nt&&Nat.blt p 100000)=true->(kO sl).all (λk=>Nat.blt k 100000)=true->(kO (parA ps cs sl)).all (λk=>Nat.blt k 100000)=true
 | nt,[],cs,sl,_,h=>by cases cs<;>exact h
 | nt,p::ps,[],sl,h1,h2=>h2
 | nt,p::ps,c::cs,sl,h1,h2=>by
  rw[all_cons,Bool.and_eq_true]at h1;have h3:=h1.1;rw[Bool.and_eq_true]at h3;refine a7p nt ps cs ((p,c)::sl) h1.2 ?_;show((p::kO sl).all _)=true;rw[all_cons,Bool.and_eq_true];exact⟨h3.2,h2⟩
def SlP:AS->Prop
 | []=>True
 | (_,av)::s=>((∃c,av=.val c)\/av=.bp 350001 0 [])/\SlP s
theorem SlP.at:∀{s:AS} {d:Nat} {av:AV},SlP s->look s d=some av->(∃c,av=.val c)\/av=.bp 350001 0 []
 | [],_,_,_,h=>by simp[look]at h
 | (k,x)::s,d,av,⟨h1,h2⟩,h=>by
  rw[k9]at h;split at h
  ·cases h;exact h1
  ·exact h2.at h
def c4d(nt X:Nat)(f:Value->AS):Prop:=(∀v,f v=[])\/∃d,(∀v,f v=[(d,.hdl v X)])/\d<nt/\d<100000/\RN X
theorem a7I{ps:List Tmp}{assign body:Code}{sl pre post:AS}{L X:Nat}{args:Value->List AV}{hdl:Value->AS}{fn:FuncId}{df:Nat}{tm:Array Value}{W1:World}{V:UX}{hv0:Nat->Value}
  (hfn2:(Fence.wide).fn fn) (wB:On w0 U0 W1 V) (hL0:w0.heap.size<=L)
  (gZ:W1.heap[L]?=some (.loop (p9 fn tm ps.toArray assign body df .ready))) (pI:¬ V.x L)
  (lW:tm.size=nt) (gR:(ps.all λp=>Nat.blt p nt&&Nat.blt p 100000)=true) (fJ:∀v,(args v).length=ps.length) (cV:(kO sl).all (λk=>Nat.blt k 100000)=true)
  (dN:∀d av,look sl d=some av->∃v,tm[d]?=some v/\((∃c,av=.val c/\VRep (Us W1 V (λ_ _=>False)) W1 c v)\/(av=.bp 350001 0 []/\v=.pointer (some ⟨q6 (hv0 450001),0,none⟩)))) (hvf:V.f 450001=some (hv0 450001))
  (gB:(kO pre).all (Nat.ble 100000)=true) (kS:(kO post).all (Nat.ble 100000)=true) (uF:c4d nt X hdl)
  (cP:∀(v:Value) (w:World) (U:UX),(∀k v,U.f k=some v->l7 (kO pre) k=true)->On w0 U0 w U->AWp P w U nt assign (λe s1=>e=.normal/\∀w',On w0 U0 w' U->a6a P w' U nt body (λe s'=>e=.normal/\Wk w' U nt s' post) s1) (parA ps (args v) (hdl v++sl)++pre)) :
  b9r P W1 V L X pre args post:=by
 intro U w hv a0 vs bG hU hS hargs;have kA:L<W1.heap.size:=(Array.getElem?_eq_some_iff.1 gZ).1;have wC:w.heap[L]?=some (.loop (p9 fn tm ps.toArray assign body df .ready)):=(bG.below.block L kA pI).trans gZ;have oL:L<w.heap.size:=(Array.getElem?_eq_some_iff.1 wC).1;have wD:¬ U.x L:=λh=>by
  rcases bG.x L h with h | h
  ·exact pI h
  ·omega
 have rL:∀(r:Loop) xs ty fl,Obj.loop r ≠ .cells xs ty fl:=λr xs ty fl e=>by cases e
 have kD:vs.length=ps.length:=hargs.len.trans (fJ _);have hy:=run_yield (P:=P) (args:=vs.toArray) wC (by show vs.toArray.size=ps.toArray.size;simp[kD]);have hk:∀b o u,Us W1 V (λ_ _=>False) b o->W1.cell? ⟨b,o,none⟩=some u->Us w U (λ_ _=>False) b o/\w.cell? ⟨b,o,none⟩=some u:=λb o u hu hc=>by
  rcases hu with⟨g1,g2,g3⟩ | ⟨_,g⟩
  ·refine⟨.inl ⟨Nat.lt_of_lt_of_le g1 bG.below.size,bG.m b o g1 g2 g3,λh=>?_⟩,?_⟩
   ·rcases bG.x b h with h | h
    ·exact g3 h
    ·omega
   ·rw[World.cell?_of_block (w:=W1) (bG.below.block b g1 g3)];exact hc
  ·exact g.elim
 have sU:SlOk (λav v=>AVRep (Us w U (λ_ _=>False)) w hv (a9 pre) av v) (hdl (hv X)++sl) tm:=λd av h1=>by
  have wE:∀d av,look sl d=some av->∃v,tm[d]?=some v/\AVRep (Us w U (λ_ _=>False)) w hv (a9 pre) av v:=λd av h1=>by
   obtain⟨v,h3,h4⟩:=dN d av h1;refine⟨v,h3,?_⟩;rcases h4 with⟨c,rfl,h4⟩ | ⟨rfl,rfl⟩
   ·exact n9 (h4.keep hk)
   ·have e:=hS.fix 450001 _ (bG.f _ hvf);show BN 350001/\_=Value.pointer (some ⟨q6 (hv 450001),0,none⟩);rw[e];exact⟨.inr ⟨by omega,by omega⟩,rfl⟩
  rcases uF with h2 | ⟨dd,h2,h3,h4,h5⟩
  ·rw[h2]at h1;exact wE d av h1
  ·rw[h2]at h1;have h1:look ((dd,AV.hdl (hv X) X)::sl) d=some av:=h1;by_cases e:dd=d
   ·subst e;rw[lS]at h1;injection h1 with h1;subst h1;exact⟨_,Array.getElem?_eq_getElem (by omega),h5,rfl⟩
   ·rw[lN e]at h1;exact wE d av h1
 have gX:(kO (hdl (hv X)++sl)).all (λk=>Nat.blt k 100000)=true:=by
  rcases uF with h2 | ⟨dd,h2,h3,h4,h5⟩
  ·rw[h2];exact cV
  ·rw[h2];show((dd::kO sl).all _)=true;rw[all_cons,cV,Bool.and_true];exact Nat.ble_eq_true_of_le (by omega)
 have mE:=sU.parA (ps:=ps) (cs:=args (hv X)) (vs:=vs) (by
  rw[all_eq_true]at gR |-;intro p hp;have:=gR p hp;rw[Bool.and_eq_true]at this;rw[lW];exact this.1) (λi c hc=>hargs.at hc) hargs.len
 have hF:=(hS.bare (post:=pre) (λ_ _ h=>h) gB).frame (nt:=nt) gB (a7p nt ps _ _ gR gX) (tmps:=a7H ps vs tm) (by rw[mE.2];exact lW) mE.1;have eK:=wB.trans bG;refine⟨fn,_,assign,body,hy,roundIn_of_wpIn hfn2 ?_⟩;have vS:(ps.toArray.zip vs.toArray).foldl (λt (p,v)=>t.setIfInBounds p v) tm=a7H ps vs tm:=b4S ps vs tm;show assign.wpIn _ _ _ _ ⟨(ps.toArray.zip vs.toArray).foldl (λt (p,v)=>t.setIfInBounds p v) tm,[]⟩ w;rw[vS];refine wpIn_mono (cP (hv X) w U hU eK ⟨some L,[]⟩ _ w ⟨_,hv,hF⟩) ?_;rintro e a' W' ⟨a'',rfl,s1,⟨rfl,bR⟩,D1,gA,h1⟩;have iP:W'.heap[L]?=some (.loop (p9 fn tm ps.toArray assign body df .ready)):=(h1.below.block L oL wD).trans wC;refine⟨_,run_beginRound iP rfl,?_⟩;have h2:=h1.rebase wC wD (rL _) (.loop (p9 fn tm ps.toArray assign body df .busy));have mF:On w0 U0 (w.putObj L (.loop (p9 fn tm ps.toArray assign body df .busy))) U:=⟨⟨eK.below.os,eK.below.tape,eK.below.output,by rw[World.putObj_size];exact eK.below.size,λk hk hx=>(World.putObj_heap_other (by omega)).trans (eK.below.block k hk hx)⟩,eK.x,eK.m,eK.f⟩
 refine wpIn_mono (bR _ mF ⟨some L,[]⟩ a'' _ L _ rfl (World.putObj_heap_same oL) wD ⟨_,_,h2⟩) ?_;rintro e a3 W3 ⟨a4,rfl,s2,⟨rfl,hw⟩,lX⟩;obtain⟨D3,mU,h3⟩:=hw a4 W3 lX;have h4:=h3.bare (post:=post) (λ_ _ h=>h) kS;have e3:W3.heap[L]?=some (.loop (p9 fn tm ps.toArray assign body df .busy)):=(h4.below.block L (by rw[World.putObj_size];exact oL) wD).trans (World.putObj_heap_same oL);have hr:=run_endRound (P:=P) none e3;have h5:=h4.rebase (l:=L) (y:=.loop (p9 fn tm ps.toArray assign body df .busy)) (World.putObj_heap_same oL) wD (rL _) (.loop (p9 fn tm ps.toArray assign body df .ready));rw[a9S wC]at h5;exact⟨_,_,hr,rfl,D3,mU,_,h5⟩
theorem b5Q{g:Operand}{ps:Array Tmp}{assign body:Code}{Q:Exit->Act->World->Prop}{a:Act}{w:World}{gf:Nat}{lb:Array Value}
  (hg:a.eval g=.func (.func gf) #[] lb) (eg:∀args w,(callFunc gf args).run P w=.ok (.enter gf args) w)
  (kK:∀fn,Fence.wide.fn fn->∀W1,W1=(w.alloc (.deferred (some []))).alloc (.loop (p9 fn a.tmps ps assign body w.heap.size .ready))->CallsIn Fence.wide 2 P gf (#[.func (.yield (w.heap.size+1)) #[] #[]]++lb) W1 (λe V=>(∃v,e=.returned v)/\V.heap[w.heap.size+1]?=some (.loop (p9 fn a.tmps ps assign body w.heap.size .ready))/\∀r:Loop,Q .normal { a with defers:={ target:=.collected w.heap.size,args := #[] }::a.defers } (V.putObj (w.heap.size+1) (.loop r)))) :
  (Code.rangeFunc g ps assign body).wpIn Fence.wide 3 P Q a w:=by
 refine wpIn_rangeFunc λfn dQ=>?_;obtain⟨W1,gZ⟩:∃W1,W1=(w.alloc (.deferred (some []))).alloc (.loop (p9 fn a.tmps ps assign body w.heap.size .ready)):=⟨_,rfl⟩
 refine⟨w.heap.size+1,[{ target:=.collected w.heap.size,args := #[] }],W1,{ target:=.fn (.func gf) lb,args := #[.func (.yield (w.heap.size+1)) #[] #[]] },W1,gf,#[.func (.yield (w.heap.size+1)) #[] #[]]++lb,W1,?_,?_,λ_ _=>trivial,?_,(λ_=>by omega),?_⟩
 ·rw[gZ];exact run_enterLoop_outer _ _ _ _ _
 ·simp only[resolve,hg];simp[go_sem]
 ·simp[invoke,go_sem,eg]
 refine(kK fn dQ _ gZ).mono ?_;rintro e V ⟨⟨v,rfl⟩,h2,h3⟩;exact⟨none,_,run_endLoop (P:=P) h2 (by simp[p9]),h3 _⟩
theorem b1Q{g:Operand}{ps:Array Tmp}{assign body:Code}{Q:Exit->Act->World->Prop}{a:Act}{w:World}{gf:Nat}{lb:Array Value}{l₀:Nat}{r₀:Loop}(hl₀:w.heap[l₀]?=some (.loop r₀))
  (hg:a.eval g=.func (.func gf) #[] lb) (eg:∀args w,(callFunc gf args).run P w=.ok (.enter gf args) w)
  (kK:∀fn,Fence.wide.fn fn->∀W1,W1=w.alloc (.loop (p9 fn a.tmps ps assign body r₀.defers .ready))->CallsIn Fence.wide 2 P gf (#[.func (.yield w.heap.size) #[] #[]]++lb) W1 (λe V=>(∃v,e=.returned v)/\V.heap[w.heap.size]?=some (.loop (p9 fn a.tmps ps assign body r₀.defers .ready))/\∀r:Loop,Q .normal a (V.putObj w.heap.size (.loop r)))) :
  (Code.rangeFunc g ps assign body).wpIn (B5 (some l₀)) 3 P Q a w:=by
 refine wpIn_rangeFunc λfn dQ=>?_;obtain⟨W1,gZ⟩:∃W1,W1=w.alloc (.loop (p9 fn a.tmps ps assign body r₀.defers .ready)):=⟨_,rfl⟩
 refine⟨w.heap.size,[],W1,{ target:=.fn (.func gf) lb,args := #[.func (.yield w.heap.size) #[] #[]] },W1,gf,#[.func (.yield w.heap.size) #[] #[]]++lb,W1,?_,?_,λ_ _=>trivial,?_,(λ_=>by omega),?_⟩
 ·rw[gZ];exact run_enterLoop_inner hl₀ _ _ _ _ _
 ·simp only[resolve,hg];simp[go_sem]
 ·simp[invoke,go_sem,eg]
 show CallsIn Fence.wide 2 P gf _ _ _;refine(kK fn dQ _ gZ).mono ?_;rintro e V ⟨⟨v,rfl⟩,h2,h3⟩;exact⟨none,_,run_endLoop (P:=P) h2 (by simp[p9]),h3 _⟩
theorem a0y{U:Nat->Nat->Prop}{w:World}{hv:Nat->Value}{s:AS}:∀(cs:List CV) (vs:List Value),VReps U w cs vs->AVReps U w hv (a9 s) (cs.map AV.val) vs
 | [],vs,h=>h
 | a::cs,vs,⟨u,us,e,h1,h2⟩=>⟨u,us,e,n9 h1,a0y cs us h2⟩
structure b8I{α:Type}(xs:List α)(ob:Nat->AS):Prop where
 lend:(ob 0).all F5=true
 leave:(ob xs.length).all (G7 (kO (ob xs.length)))=true
 keys:∀k,kO (ob k)=kO (ob 0)
 big:((kO (ob 0)).all λk=>Nat.ble 300000 k)=true
 box:l7 (kO (ob 0)) 450001=true
 nm:((J6 (kO (ob 0)) (kO (ob 0)) (kO (ob 0))).all λq=>!Nat.beq q.1 0&&(!Nat.beq q.1 100000&&!Nat.beq q.1 1100000))=true
def a1z{α:Type}(P:Program)(gf:Nat)(caps:List CV)(Xs:List Nat)(ld:Nat->α->AS)(args:Nat->α->Value->List AV)(xs:List α)(ob:Nat->AS):Prop:=
 ∀(Wb:World) (Ub:UX) (l:Nat),(∀k x,xs[k]?=some x->∀X∈Xs,b9r P Wb Ub l X (ob k++ld X x) (args X x) (ob (k+1)++ld X x))->a1F P Wb Ub gf (ob 0) (.val (G1 l)::caps.map AV.val) (.tup []) (ob xs.length)
theorem a2U{α:Type}{g:Operand}{ps:List Tmp}{assign body:Code}{gf:Nat}{caps:List CV}{Xs:List Nat}{ld:Nat->α->AS}{args:Nat->α->Value->List AV}{xs:List α}{n1 q1 p1}(ob:Nat->AS)(sl:AS)(hdl:Nat->Value->AS)
  (iC:ev (look s) g=some ⟨0,.fn gf 0 caps,n1,q1,p1⟩) (oG:a3H P gf) (hG:a1z P gf caps Xs ld args xs ob)
  (gR:(ps.all λp=>Nat.blt p nt&&Nat.blt p 100000)=true) (fJ:∀X x v,(args X x v).length=ps.length)
  (dN:SubL s sl) (cV:(kO sl).all (λk=>Nat.blt k 100000)=true) (sV:SlP sl) (oI:SubL s (ob 0)) (bE:b8I xs ob)
  (wF:∀k,∀X∈Xs,∀x,((kO (ob k++ld X x)).all (Nat.ble 100000))=true) (uF:∀X∈Xs,c4d nt X (hdl X))
  (jL:A6 s ((299999,[])::(299998,[])::J6 (kO (ob 0)) (kO (ob 0)) (kO (ob 0)))=true)
  (cP:∀k x,xs[k]?=some x->∀X∈Xs,∀(v:Value) (w:World) (U:UX),(∀k' v,U.f k'=some v->l7 (kO (ob k++ld X x)) k'=true)->On w0 U0 w U->AWp P w U nt assign (λe s1=>e=.normal/\∀w',On w0 U0 w' U->a6a P w' U nt body (λe s'=>e=.normal/\Wk w' U nt s' (ob (k+1)++ld X x)) s1) (parA ps (args X x v) (hdl X v++sl)++(ob k++ld X x))) :
  a2l P w0 U0 nt (.rangeFunc g ps.toArray assign body) (λe s' m=>e=.normal/\s'=ob xs.length++((299998,.ob (m+1) 1)::(299999,.ob m 0)::s)) s:=by
 rintro a w ⟨D0,hv0,h⟩;obtain⟨ys,lb,e1,e2,e3,e4⟩:=X0.1 (A7 h (λk _=>rfl) iC);have fS:ys=[]:=List.eq_nil_of_length_eq_zero e2;subst fS;have eI:VReps (Us w0 U0 D0) w caps lb:=S5 e4 (by simpa using e3);have pH:=q9 jL;have eJ:∀{k av k'},look (ob k) k'=some av->300000<=k':=fun{k av k'} h1=>by have:=j5 h1;rw[bE.keys k]at this;exact Nat.le_of_ble_eq_true (all_eq_true.1 bE.big k' this)
 refine b9f (b5Q (gf:=gf) (lb:=lb.toArray) (by rw[e1]) oG λfn dQ W1 gZ=>?_);obtain⟨L,hL⟩:∃L,L=w.heap.size+1:=⟨_,rfl⟩
 rw[<-hL];have below1:Below w.heap.size w W1:=by rw[gZ];exact((Below.refl _ w).alloc (Nat.le_refl _) _).alloc (by simp) _
 have atL:W1.heap[L]?=some (.loop (p9 fn a.tmps ps.toArray assign body w.heap.size .ready)):=by have:=World.alloc_heap_new (w.alloc (.deferred (some []))) (.loop (p9 fn a.tmps ps.toArray assign body w.heap.size .ready));rw[World.size_alloc,<-hL,<-gZ]at this;exact this
 have nN:L<W1.heap.size:=(Array.getElem?_eq_some_iff.1 atL).1;obtain⟨lp,cK⟩:∃lp:AS,lp=(299998,AV.ob L 1)::(299999,AV.ob w.heap.size 0)::s:=⟨_,rfl⟩
 obtain⟨mG,hS⟩:∃mG,SimG w0 U0 nt lp a W1 D0 mG:=by
  have h1:=h.newob (n:=299999) (o:=0) (by unfold RW;omega) (pH (299999,[]) (by simp)).nr (x:=.deferred (some [])) (λ_ _ _ e=>by cases e) (λ_=>rfl);have sT:W6 ((299999,AV.ob w.heap.size 0)::s) 299998:=λk av hk=>by
   rw[k9]at hk;split at hk
   ·rename_i e;subst e;cases hk;exact⟨by show(0:Nat)≠299998;decide,by decide,by decide⟩
   ·exact(pH (299998,[]) (by simp)).nr k av hk
  have h2:=h1.newob (n:=299998) (o:=1) (by unfold RW;omega) sT (x:=.loop (p9 fn a.tmps ps.toArray assign body w.heap.size .ready)) (λ_ _ _ e=>by cases e) (λe=>by cases e);rw[show(w.alloc (.deferred (some []))).heap.size=L by rw[hL];simp,<-cK,<-gZ]at h2;exact⟨_,h2⟩
 have fX:∀{k k':Nat},k'<300000->look (ob k++lp) k'=look lp k':=fun{k k'} h1=>by
  rw[d8];cases e:look (ob k) k' with
  | none=>rfl
  | some av=>have:=eJ e;omega
 have pL:look lp 299998=some (.ob L 1):=by rw[cK,lS]
 have hDl:look lp 299999=some (.ob w.heap.size 0):=by rw[cK,lN (by omega),lS]
 have kJ:Sub lp (ob 0):=λk av h1=>by have h3:=eJ h1;rw[cK,lN (by omega),lN (by omega)];exact oI.sub k av h1
 have hS':SimG w0 U0 nt (ob 0++lp) a W1 D0 mG:=hS.congr λk=>by
  rw[d8];cases e:look (ob 0) k with
  | none=>rfl
  | some av=>exact(kJ k av e).symm
 obtain⟨V,v1,v2,v3,v4,v5,v6⟩:=hS.lend kJ bE.lend;have wB:=hS.on kJ bE.lend v3 v4 v5 bE.box;have pI:¬ V.x L:=b9s hS' bE.lend bE.big v3 (.inl rfl) (by rw[fX (by omega)];exact pL);have kK:=hG W1 V L (λk x hx X hX=>a7I (hv0:=mG) dQ wB (by rw[hL];have:=h.below.size;omega) atL pI hS.size gR (fJ X x) cV (λd av h1=>by
   have mS:d<100000:=by rw[all_eq_true]at cV;exact bL (cV d (j5 h1))
   obtain⟨v,g1,g2⟩:=hS.slot d av (by rw[cK,lN (by omega),lN (by omega)];exact dN.sub d av h1) mS;refine⟨v,g1,?_⟩;rcases sV.at h1 with⟨c,rfl⟩ | rfl
   ·exact .inl ⟨c,rfl,g2.1.keep v6⟩
   ·exact .inr ⟨rfl,g2.2⟩) (v4 450001 bE.box (by omega) (by omega)) (wF k X hX x) (wF (k+1) X hX x) (uF X hX) (cP k x hx X hX))
 have hargs:AVReps (Us W1 V (λ_ _=>False)) W1 mG (a9 (ob 0)) (.val (G1 L)::caps.map AV.val) (.func (.yield L) #[] #[]::lb):=
  ⟨_,_,rfl,o9 rfl,a0y _ _ (eI.keep λb o u hu hc=>by have hb:b<w.heap.size:=World.block_lt_of_cell? w _ hc;refine v6 b o u hu ?_;rw[World.cell?_of_block (w:=w) (below1.block b hb)];exact hc)⟩
 have gT : #[Value.func (.yield L) #[] #[]]++lb.toArray=(Value.func (.yield L) #[] #[]::lb).toArray:=by simp
 rw[gT];refine(callsIn_wide.2 (kK.2 V W1 mG ⟨#[],[]⟩ _ (On.refl _ _) v1 v2 hargs)).mono ?_;rintro e V2 ⟨v,D',kG,a',rfl,g1,g2⟩;have hLV:V2.heap[L]?=some (.loop (p9 fn a.tmps ps.toArray assign body w.heap.size .ready)):=(g1.below.block L nN pI).trans atL;refine⟨⟨v,rfl⟩,hLV,λr=>?_⟩;obtain⟨D2,gD,b1,_,_⟩:=hS.back kJ bE.lend bE.leave (by rw[bE.keys xs.length,all_eq_true];intro q hq;exact t8 hq) (λq hq=>by
  rw[bE.keys xs.length]at hq;have fF:=pH q (by simp only[mem_cons];exact .inr (.inr hq));have fR:=all_eq_true.1 bE.nm q hq;simp only[Bool.and_eq_true,Bool.not_eq_true']at fR;obtain⟨g1,g2,g3⟩:=fR;have n1:q.1≠0:=λe=>by rw[e]at g1;cases g1
  have n2:100000≠q.1:=λe=>by rw[<-e]at g2;cases g2
  have n3:100000+1000000≠q.1:=λe=>by rw[<-e]at g3;cases g3
  intro kk av gF nH;rw[cK,k9]at gF;split at gF
  ·rename_i e2;injection gF with gF;rw[<-e2,<-gF];exact⟨λe=>n1 e.symm,n2,n3⟩
  ·rw[k9]at gF;split at gF
   ·rename_i e2;injection gF with gF;rw[<-e2,<-gF];exact⟨λe=>n1 e.symm,n2,n3⟩
   ·exact fF kk av gF nH) (λk v h1 h2=>by rw[bE.keys xs.length]at h2;exact h2) v3 v4 v5 v2 g1
 obtain⟨h9,_⟩:=b1.putob (n:=299998) (o:=1) (o':=1) (by unfold RW;omega) (by rw[fX (by omega)];exact pL) (x:=.loop r) (λ_ _ _ e=>by cases e) (λe=>by cases e);have dH:SimG w0 U0 nt (ob xs.length++lp) a (V2.putObj L (.loop r)) D2 gD:=h9.congr λk=>by
  rw[k9];split
  ·rename_i e;subst e;rw[fX (by omega)];exact pL
  ·rfl
 refine⟨_,a,w.heap.size,⟨rfl,rfl⟩,⟨D2,gD,by rw[cK,hL]at dH;rw[hL];exact dH⟩,by show _=wdA a _;unfold wdA;rw[h.dfr],?_⟩;have:=fX (k:=xs.length) (k':=299999) (by omega);rw[hDl,cK,hL]at this;exact this
theorem a3g{α:Type}{g:Operand}{ps:List Tmp}{assign body:Code}{gf:Nat}{caps:List CV}{Xs:List Nat}{ld:Nat->α->AS}{args:Nat->α->Value->List AV}{xs:List α}{n1 q1 p1}(ob:Nat->AS)(sl:AS)(hdl:Nat->Value->AS)
  (iC:ev (look s) g=some ⟨0,.fn gf 0 caps,n1,q1,p1⟩) (oG:a3H P gf) (hG:a1z P gf caps Xs ld args xs ob)
  (gR:(ps.all λp=>Nat.blt p nt&&Nat.blt p 100000)=true) (fJ:∀X x v,(args X x v).length=ps.length)
  (dN:SubL s sl) (cV:(kO sl).all (λk=>Nat.blt k 100000)=true) (sV:SlP sl) (oI:SubL s (ob 0)) (bE:b8I xs ob)
  (wF:∀k,∀X∈Xs,∀x,((kO (ob k++ld X x)).all (Nat.ble 100000))=true) (uF:∀X∈Xs,c4d nt X (hdl X))
  (jL:A6 s ((299998,[])::J6 (kO (ob 0)) (kO (ob 0)) (kO (ob 0)))=true)
  (cP:∀k x,xs[k]?=some x->∀X∈Xs,∀(v:Value) (w:World) (U:UX),(∀k' v,U.f k'=some v->l7 (kO (ob k++ld X x)) k'=true)->On w0 U0 w U->AWp P w U nt assign (λe s1=>e=.normal/\∀w',On w0 U0 w' U->a6a P w' U nt body (λe s'=>e=.normal/\Wk w' U nt s' (ob (k+1)++ld X x)) s1) (parA ps (args X x v) (hdl X v++sl)++(ob k++ld X x))) :
  a6a P w0 U0 nt (.rangeFunc g ps.toArray assign body) (λe s'=>e=.normal/\∃m,s'=ob xs.length++((299998,.ob m 1)::s)) s:=by
 rintro M a w l₀ r₀ hMr hl₀ jB ⟨D0,hv0,h⟩;have eS:w.heap[l₀]?=some (.loop r₀):=(h.below.block l₀ (Array.getElem?_eq_some_iff.1 hl₀).1 jB).trans hl₀;obtain⟨ys,lb,e1,e2,e3,e4⟩:=X0.1 (A7 h (λk _=>rfl) iC);have fS:ys=[]:=List.eq_nil_of_length_eq_zero e2;subst fS;have eI:VReps (Us w0 U0 D0) w caps lb:=S5 e4 (by simpa using e3);have pH:=q9 jL;have eJ:∀{k av k'},look (ob k) k'=some av->300000<=k':=fun{k av k'} h1=>by have:=j5 h1;rw[bE.keys k]at this;exact Nat.le_of_ble_eq_true (all_eq_true.1 bE.big k' this)
 obtain⟨L,hL⟩:∃L,L=w.heap.size:=⟨_,rfl⟩
 have mH:(Code.rangeFunc g ps.toArray assign body).wpIn (B5 (some l₀)) 3 P (a9j M λe a' w'=>∃s',(e=.normal/\∃m,s'=ob xs.length++((299998,.ob m 1)::s))/\Sim w0 U0 nt s' a' w') (wdA a M.ds) w:=by
  refine b1Q (gf:=gf) (lb:=lb.toArray) eS (by rw[X7,e1]) oG λfn dQ W1 gZ=>?_;rw[<-hL];have below1:Below w.heap.size w W1:=by rw[gZ];exact(Below.refl _ w).alloc (Nat.le_refl _) _
  have atL:W1.heap[L]?=some (.loop (p9 fn a.tmps ps.toArray assign body r₀.defers .ready)):=by have:=World.alloc_heap_new w (.loop (p9 fn a.tmps ps.toArray assign body r₀.defers .ready));rw[<-hL]at this;rw[gZ];exact this
  have nN:L<W1.heap.size:=(Array.getElem?_eq_some_iff.1 atL).1;obtain⟨lp,cK⟩:∃lp:AS,lp=(299998,AV.ob L 1)::s:=⟨_,rfl⟩
  obtain⟨mG,hS⟩:∃mG,SimG w0 U0 nt lp a W1 D0 mG:=by have h2:=h.newob (n:=299998) (o:=1) (by unfold RW;omega) (pH (299998,[]) (by simp)).nr (x:=.loop (p9 fn a.tmps ps.toArray assign body r₀.defers .ready)) (λ_ _ _ e=>by cases e) (λe=>by cases e);rw[<-hL,<-cK]at h2;rw[gZ];exact⟨_,h2⟩
  have fX:∀{k k':Nat},k'<300000->look (ob k++lp) k'=look lp k':=fun{k k'} h1=>by
   rw[d8];cases e:look (ob k) k' with
   | none=>rfl
   | some av=>have:=eJ e;omega
  have pL:look lp 299998=some (.ob L 1):=by rw[cK,lS]
  have kJ:Sub lp (ob 0):=λk av h1=>by have h3:=eJ h1;rw[cK,lN (by omega)];exact oI.sub k av h1
  have hS':SimG w0 U0 nt (ob 0++lp) a W1 D0 mG:=hS.congr λk=>by
   rw[d8];cases e:look (ob 0) k with
   | none=>rfl
   | some av=>exact(kJ k av e).symm
  obtain⟨V,v1,v2,v3,v4,v5,v6⟩:=hS.lend kJ bE.lend;have wB:=hS.on kJ bE.lend v3 v4 v5 bE.box;have pI:¬ V.x L:=b9s hS' bE.lend bE.big v3 (.inl rfl) (by rw[fX (by omega)];exact pL);have kK:=hG W1 V L (λk x hx X hX=>a7I (hv0:=mG) dQ wB (by rw[hL];have:=h.below.size;omega) atL pI hS.size gR (fJ X x) cV (λd av h1=>by
    have mS:d<100000:=by rw[all_eq_true]at cV;exact bL (cV d (j5 h1))
    obtain⟨v,g1,g2⟩:=hS.slot d av (by rw[cK,lN (by omega)];exact dN.sub d av h1) mS;refine⟨v,g1,?_⟩;rcases sV.at h1 with⟨c,rfl⟩ | rfl
    ·exact .inl ⟨c,rfl,g2.1.keep v6⟩
    ·exact .inr ⟨rfl,g2.2⟩) (v4 450001 bE.box (by omega) (by omega)) (wF k X hX x) (wF (k+1) X hX x) (uF X hX) (cP k x hx X hX))
  have hargs:AVReps (Us W1 V (λ_ _=>False)) W1 mG (a9 (ob 0)) (.val (G1 L)::caps.map AV.val) (.func (.yield L) #[] #[]::lb):=
   ⟨_,_,rfl,o9 rfl,a0y _ _ (eI.keep λb o u hu hc=>by have hb:b<w.heap.size:=World.block_lt_of_cell? w _ hc;refine v6 b o u hu ?_;rw[World.cell?_of_block (w:=w) (below1.block b hb)];exact hc)⟩
  have gT : #[Value.func (.yield L) #[] #[]]++lb.toArray=(Value.func (.yield L) #[] #[]::lb).toArray:=by simp
  rw[gT];refine(callsIn_wide.2 (kK.2 V W1 mG ⟨#[],[]⟩ _ (On.refl _ _) v1 v2 hargs)).mono ?_;rintro e V2 ⟨v,D',kG,a',rfl,g1,g2⟩;have hLV:V2.heap[L]?=some (.loop (p9 fn a.tmps ps.toArray assign body r₀.defers .ready)):=(g1.below.block L nN pI).trans atL;refine⟨⟨v,rfl⟩,hLV,λr=>?_⟩;obtain⟨D2,gD,b1,_,_⟩:=hS.back kJ bE.lend bE.leave (by rw[bE.keys xs.length,all_eq_true];intro q hq;exact t8 hq) (λq hq=>by
   rw[bE.keys xs.length]at hq;have fF:=pH q (by simp only[mem_cons];exact .inr hq);have fR:=all_eq_true.1 bE.nm q hq;simp only[Bool.and_eq_true,Bool.not_eq_true']at fR;obtain⟨g1,g2,g3⟩:=fR;have n1:q.1≠0:=λe=>by rw[e]at g1;cases g1
   have n2:100000≠q.1:=λe=>by rw[<-e]at g2;cases g2
   have n3:100000+1000000≠q.1:=λe=>by rw[<-e]at g3;cases g3
   intro kk av gF nH;rw[cK,k9]at gF;split at gF
   ·rename_i e2;injection gF with gF;rw[<-e2,<-gF];exact⟨λe=>n1 e.symm,n2,n3⟩
   ·exact fF kk av gF nH) (λk v h1 h2=>by rw[bE.keys xs.length]at h2;exact h2) v3 v4 v5 v2 g1
  obtain⟨h9,_⟩:=b1.putob (n:=299998) (o:=1) (o':=1) (by unfold RW;omega) (by rw[fX (by omega)];exact pL) (x:=.loop r) (λ_ _ _ e=>by cases e) (λe=>by cases e);have dH:SimG w0 U0 nt (ob xs.length++lp) a (V2.putObj L (.loop r)) D2 gD:=h9.congr λk=>by
   rw[k9];split
   ·rename_i e;subst e;rw[fX (by omega)];exact pL
   ·rfl
  exact⟨a,rfl,_,⟨rfl,L,rfl⟩,⟨D2,gD,by rw[cK]at dH;exact dH⟩⟩
 unfold WP;rw[hMr];exact λb k cs h1 h2 _=>mH b k cs h1 h2 (room_wide _)
end
section
variable{P:Program}
theorem b5c(X e z:Nat){Wb:World}{Ub:UX}{f:FuncId}{pre post:AS}{cs:List CV}{r:AV}(hX:(Nat.ble 400000 X&&Nat.blt X 450000)=true)(yN:l7 (kO pre) X=false)(hr:A6 pre [(X,[])]=true)(hz:Nat.blt 0 z=true)
  (h:a1F P Wb Ub f (pre++[(X,.mrow e z [])]) (.sl X 0 0 z::cs.map AV.val) r (post++[(X,.mrow e z [])])):a1F P Wb Ub f pre (.own (.lst []) 1::cs.map AV.val) r post:=by
 refine⟨h.1,λU w hv a0 vs bG hU hS ha=>?_⟩;simp only[Bool.and_eq_true]at hX;have x1:=Nat.le_of_ble_eq_true hX.1;have x2:=bL hX.2;have kN:RN X:=⟨by omega,x2⟩
 obtain⟨u,us,rfl,h1,h2⟩:=ha;have hu:u=.slice none 0 0:=by
  obtain⟨m,c,g1,g2⟩:=h1.2 (.inl rfl);obtain⟨ao,n,cap,e1,_⟩:=l5.1 h1.1;rw[e1]at g2 |-;have g3:m=0:=by
   rcases m with _ | m
   ·rfl
   ·simp[Value.cells]at g2
  subst g3;have g2:some (Value.slice ao n cap)=some (J1 hv 1):=g2;injection g2
 subst hu;have kZ:look pre X=none:=by
  cases e:look pre X with
  | none=>rfl
  | some av=>rw[t8 (j5 e)]at yN;cases yN
 have hf:U.f X=none:=by
  cases e:U.f X with
  | none=>rfl
  | some v=>rw[hU X v e]at yN;cases yN
 have hS1:=hS.newrowF (avn:=.mrow e z []) (X:=λ_=>False) (v':=.slice none 0 0) kN hf (q9 hr (X,[]) (by simp)).nr (λe=>by cases e) (BelowX.refl _ _) (λb hb=>hb.elim) (λg hg=>by cases hg) (λb o hd => .inl hd) (λb o hd=>hd.elim) (λb o u h1 h2=>⟨h1,h2⟩) (λhv lv=>⟨[],World.ownsRow_nil _ _ _ _,bL hz,(λc hc=>by cases hc),rfl⟩);have hS2:=hS1.congr (s':=pre++[(X,.mrow e z [])]) λk=>by
  by_cases ek:X=k
  ·subst ek;rw[d8,kZ,lS,lS];rfl
  ·rw[lN ek,d8];cases e9:look pre k with
   | some av=>rfl
   | none=>show look [(X,AV.mrow e z [])] k=none;rw[lN ek];rfl
 have eP:VReps (Us w U (λ_ _=>False)) w cs us:=by
  have:∀(cs:List CV) (us:List Value),AVReps (Us w U (λ_ _=>False)) w hv (a9 pre) (cs.map AV.val) us->VReps (Us w U (λ_ _=>False)) w cs us:=by
   intro cs
   induction cs with
   | nil=>intro us h;exact h
   | cons c cs ih=>rintro us ⟨u,us,e,g1,g2⟩;exact⟨u,us,e,g1.1,ih _ g2⟩
  exact this cs us h2
 refine(h.2 U w _ a0 _ bG (λk v hk=>?_) hS2 ⟨_,_,rfl,⟨kN,?_⟩,a0y _ _ eP⟩).mono ?_
 ·have:=hU k v hk;have hm:k∈kO pre:=by
   cases e9:look pre k with
   | some av=>exact j5 e9
   | none =>
    exfalso;have:=A4 this;obtain⟨av,h3⟩:=R5 this;rw[e9]at h3;cases h3
  refine t8 ?_;unfold kO at hm |-;rw[map_append];exact mem_append_left _ hm
 ·show SlV (if X=X then _ else _) 0 0 z _;rw[if_pos rfl];exact J4 rfl (Nat.le_refl _) (.inl rfl)
 ·rintro e' w' ⟨v,D',kG,a',rfl,g1,g2⟩;have hs:Sub (post++[(X,.mrow e z [])]) post:=λk av hk=>by rw[d8,hk];rfl
  exact⟨v,D',kG,a',rfl,g1.sub hs,g2.move (λ_ _ _ h1 h2=>⟨h1,h2⟩) (λ_ h7=>h7.imp id λ⟨e,he⟩=>⟨e,hs _ _ he.1,he.2⟩) λ_=>rfl⟩
end
end
theorem V1(W:World)(t:Tm):AFun Tryz.prog W 97 [t.cw] (.val (.b (decide (t.f<0)))):=by
 refine b9 (rs:=[.b (decide (t.f<0))]) Tryz.func97 Tryz.ntmps97 rfl rfl rfl rfl ?_;intro w U hW;refine qz<|nc zd<|nc ze ?_;refine qz<|nc zg<|nc zh<|nc zi<|nc ze ?_;exact aT ⟨.inr rfl,rfl⟩
theorem Z3(W:World)(t:Tm)(h1 : -9223372036854775808<=t.f)(h2:t.f<0):AFun Tryz.prog W 99 [t.cw] (.val (.i (-1-t.f))):=by
 refine b9 (rs:=[.i (-1-t.f)]) Tryz.func99 Tryz.ntmps99 rfl rfl rfl rfl ?_;intro w U hW;refine qz<|nc zd<|nc ze ?_;refine qz<|nc zg<|nc zh<|nc zB<|nc ze ?_;exact aT ⟨.inr rfl,rfl⟩
theorem K0(W:World)(v:Int)(h1:0<=v)(h2:v<=9223372036854775807):AFun Tryz.prog W 73 [.i v] (.val (n7 v).cw):=by
 refine b9 (rs:=[(n7 v).cw]) Tryz.func73 Tryz.ntmps73 rfl rfl rfl rfl ?_;intro w U hW;refine qz<|nc zw ?_;refine qz<|nc zl<|nc zB<|nc zC<|nc zx ?_;exact aT ⟨.inr rfl,rfl⟩
theorem b6Z(W:World)(l:List Bd)(v:Int)(hl:l.length<=90000000000):AFun Tryz.prog W 161 [.lst (l.map Bd.cv),.i v] (.tup [((d9 l v).getD ⟨0,[]⟩).cw,.b (d9 l v).isSome]):=by
 have kC:=Bd.size_all l;refine b9 (rs:=[((d9 l v).getD ⟨0,[]⟩).cw,.b (d9 l v).isSome]) Tryz.func161 Tryz.ntmps161 rfl rfl rfl rfl ?_;intro w U hW;refine qz<|nc zw<|nc ze ?_;refine aS<|qz<|nc zl<|nc zo<|nc zl ?_;refine aB (B6 l.length (λk=>∀i c,i<k->l[i]?=some c->c.v≠v) (λk=>[(1,.val (.i v)),(4,.bp 4 0 []),(100004,⟨5,.row [.i 0,.lst []],1,0,[1]⟩),(8,.val (.lst (l.map Bd.cv))),(9,.val (.i (l.map Bd.cv).length)),(10,.val (.i k))]) (a7 ⟨rfl,rfl,rfl,rfl,rfl,rfl,trivial⟩) (by omega) ?_);intro k hk hI;refine qz<|nc zi ?_;refine aS<|aC rfl (λhc=>?_) (λhc=>?_)
 ·simp only[length_map,decide_eq_true_eq]at hc;have kE:k<l.length:=by omega
  obtain⟨b,hb⟩:∃t,l[k]?=some t:=⟨l[k],getElem?_eq_getElem kE⟩
  have hb':=Bd.map_at hb;refine aK<|aS<|aB<|qz<|nc (zt (H:=by assumption) (hz:=by first | assumption | exact sZ rfl | exact Tm.size_all _ | exact Bd.size_all _ | exact n8 _ | exact bys_size _ | exact Lt.size_all _))<|nc zu<|nc zw<|nc zx ?_;refine qz<|nc zg<|nc zh<|nc zl<|nc zD ?_;refine aC rfl (λgV=>?_) (λgV=>?_)
  ·simp only[decide_eq_true_eq]at gV;have hf:=b8s hb gV hI;rw[hf];refine qz<|nc zg<|nc zh<|nc zx<|nc ze ?_;exact aT (And.intro (.inr rfl) rfl)
  ·simp only[decide_eq_false_iff_not]at gV;refine aK<|aR<|nc zA<|nc zl ?_;refine⟨kE,λi c hi wG=>?_,a7 ⟨rfl,rfl,rfl,rfl,rfl,rfl,trivial⟩⟩;rcases Nat.lt_or_ge i k with h | h
   ·exact hI i c h wG
   ·obtain rfl:i=k:=by omega
    rw[hb]at wG;cases wG;exact gV
 ·simp only[length_map,decide_eq_false_iff_not]at hc;have kE:k=l.length:=by omega
  have hf:d9 l v=none:=C6 λb hb=>by obtain⟨i,hi,he⟩:=List.mem_iff_getElem.1 hb;exact hI i b (by omega) (by rw[getElem?_eq_getElem hi,he])
  rw[hf];refine aE<|qz<|nc zC<|nc zx<|nc ze ?_;exact aT (And.intro (.inr rfl) rfl)
theorem b5J(W:World)(l:List Bd)(v:Int)(hl:l.length<=90000000000)(h1:0<=v)(h2:v<=9223372036854775807):AFun Tryz.prog W 126 [.lst (l.map Bd.cv),.i v] (.val (f0 l v).cw):=by
 refine b9 (rs:=[(f0 l v).cw]) Tryz.func126 Tryz.ntmps126 rfl rfl rfl rfl ?_;intro w U hW;refine qz<|nc zw ?_;refine aS<|qz<|nc zl<|nc zl<|nc (zk (z:=b6Z w l v hl))<|nc zl<|nc zE<|nc zE<|nc zw<|nc zx<|nc ze ?_;refine qz<|nc zl ?_;unfold f0;refine aC rfl (λhc=>?_) (λhc=>?_)
 ·obtain⟨t,ht⟩:=Option.isSome_iff_exists.1 hc;rw[ht];refine qz<|nc zj<|nc zx ?_;exact aT (And.intro (.inr rfl) rfl)
 ·have ht:d9 l v=none:=by simpa using hc
  rw[ht];refine aK<|qz<|nc zl<|nc (zk (z:=K0 w v h1 h2))<|nc zx ?_;exact aT (And.intro (.inr rfl) rfl)
theorem b2j(W:World)(l:List Bd)(hl:l.length<=64):AFun Tryz.prog W 93 [.lst (l.map Bd.cv)] (.val (.fn 126 1 [.lst (l.map Bd.cv)])):=by
 refine b9 (rs:=[.fn 126 1 [.lst (l.map Bd.cv)]]) Tryz.func93 Tryz.ntmps93 rfl rfl rfl rfl ?_;intro w U hW;refine qz<|nc ze ?_;refine aS<|qz<|nc zl<|nc zo<|nc zF ?_;refine aC rfl (λhc=>?_) (λhc=>?_)
 ·refine qz<|nc zl<|nc zG<|nc ze ?_;exact aT (And.intro (.inr rfl) rfl)
 ·simp only[length_map,decide_eq_false_iff_not]at hc;omega
theorem a3m(W:World)(fc:CV)(img:Int->Tm)(hI:∀v,0<=v->v<=9223372036854775807->AFunV Tryz.prog W fc [.i v] (.val (img v).cw)/\(img v).rng/\(img v).size<=90000000000):∀t:Tm,t.rng->t.ok->AFun Tryz.prog W 71 [t.cw,fc] (.val (a8 img t).cw):=by
 intro t
 induction t using Tm.ind with
 | h f l ih =>
 intro hr kH;have kH:=(Tm.ok_iff _).1 kH;have hr:=(Tm.rng_iff _).1 hr;simp only at kH hr;have kC:=Tm.size_all l;refine b9 (rs:=[(a8 img ⟨f,l⟩).cw]) Tryz.func71 Tryz.ntmps71 rfl rfl rfl rfl ?_;intro w U hW;refine qz<|nc zd<|nc zw ?_;refine aS<|qz<|nc zj ?_;refine nc (zk (z:=V1 w ⟨f,l⟩)) ?_;refine aC rfl (λhc=>?_) (λhc=>?_)
 ·have hf:f<0:=by simpa using hc
  rw[i9 hf];obtain⟨i1,i2,i3⟩:=hI (-1-f) (by omega) (by omega);refine qz<|nc zl<|nc zj ?_;refine nc (zk (z:=Z3 w ⟨f,l⟩ hr.1.1 hf)) ?_;refine nc (zH (E:=i1.up hW))<|nc (zk (z:=M3 w i2 i3))<|nc zx ?_;exact aT (And.intro (.inr rfl) rfl)
 ·have hf:¬ f<0:=by simpa using hc
  rw[c9 hf];refine aK<|qz<|nc ze ?_;refine aS<|qz<|nc zg<|nc zh<|nc zo<|nc zl ?_;refine aB (n6 l.length (λk=>[(1,.val fc),(2,.bp 2 0 []),(100002,.bx (Tm.cw ⟨f,l⟩)),(4,.bp 4 0 []),(100004,⟨5,.row [.i 0,.lst []],1,0,[1]⟩),(5,.own (.lst ((l.take k).map λt=>(a8 img t).cv)) 200027),(200027,.tok 41 2),(16,.val (.lst (l.map Tm.cv))),(17,.val (.i (l.map Tm.cv).length)),(18,.val (.i k))])
   ((M9 5 200027 41 2 rfl rfl rfl rfl rfl rfl rfl).trans (a7 ⟨rfl,rfl,rfl,rfl,rfl,rfl,rfl,rfl,rfl,rfl,trivial⟩)) ?_)
  intro k hk;refine qz<|nc zi ?_;refine aS<|aC rfl (λhc=>?_) (λhc=>?_)
  ·have kE:k<l.length:=by simp only[length_map,decide_eq_true_eq]at hc;omega
   obtain⟨t,ht⟩:∃t,l[k]?=some t:=⟨l[k],getElem?_eq_getElem kE⟩
   have rG:=Tm.map_at ht;have lW:=List.mem_of_getElem? ht;have jP:∀c∈(l.take k).map λt=>(a8 img t).cv,c.size=2:=by intro c hc;obtain⟨t,_,rfl⟩:=mem_map.1 hc;exact Tm.size_cv _
   refine aK<|aS<|aB<|qz<|nc (zt (H:=by assumption) (hz:=by first | assumption | exact sZ rfl | exact Tm.size_all _ | exact Bd.size_all _ | exact n8 _ | exact bys_size _ | exact Lt.size_all _))<|nc zu<|nc zw<|nc zx ?_;refine aR<|nc zl<|nc zj<|nc zl<|nc (zk (z:=(ih t lW (hr.2 t lW) (kH.2 t lW)).up hW))<|nc zy<|nc zz<|nc ze ?_;refine aR<|nc zA<|nc zl ?_;refine⟨kE,Wk.trans (a7 (s':=[(1,.val fc),(2,.bp 2 0 []),(100002,.bx (Tm.cw ⟨f,l⟩)),(4,.bp 4 0 []),(100004,⟨5,.row [.i 0,.lst []],1,0,[1]⟩),(5,.own (.lst ((l.take (k+1)).map λt=>(a8 img t).cv)) 300027),(300027,.tok 41 2),(16,.val (.lst (l.map Tm.cv))),(17,.val (.i (l.map Tm.cv).length)),(18,.val (.i ((k+1:Nat):Int)))]) ⟨rfl,rfl,rfl,rfl,rfl,?_,rfl,rfl,rfl,rfl,trivial⟩) (B1 300027 200027 rfl rfl rfl rfl)⟩;rw[List.take_add_one,ht,map_append];simp only[Option.toList_some,map_cons,map_nil,Tm.cv_eq];rfl
  ·have kE:k=l.length:=by simp only[length_map,decide_eq_false_iff_not]at hc;omega
   subst kE;rw[List.take_length];refine aE<|qz<|nc zg<|nc zh<|nc zl<|nc zC<|nc zx ?_;refine aT (And.intro (.inr rfl) ?_);unfold Tm.cw;rw[map_map];rfl
theorem a1K{v:Int}(h1:0<=v)(h2:v<=9223372036854775807):(n7 v).rng:=(Tm.rng_iff _).2 ⟨by show _ <= -1-v /\ -1-v<=_;omega,λs hs=>by cases hs⟩
theorem a2G(v:Int):(n7 v).size=1:=by
 rw[Tm.size_eq];have:(n7 v).ps=[]:=by unfold Tm.ps n7;simp
 rw[this];rfl
theorem M4:∀{l:List Bd} {v:Int} {t:Tm},d9 l v=some t->∃b∈l,b.t=t/\b.v=v
 | [],v,t,h=>by cases h
 | b::l,v,t,h=>by
  rw[d9]at h;split at h
  ·rename_i e;cases h;exact⟨b,by simp,rfl,e⟩
  ·obtain⟨c,h1,h2⟩:=M4 h;exact⟨c,List.mem_cons_of_mem _ h1,h2⟩
def bdsOk(l:List Bd):Prop:=∀b∈l,b.t.rng/\b.t.size<=90000000000
theorem a4K{l:List Bd}(h:bdsOk l){v:Int}(h1:0<=v)(h2:v<=9223372036854775807):(f0 l v).rng/\(f0 l v).size<=90000000000:=by
 unfold f0;cases hf:d9 l v with
 | none=>exact⟨a1K h1 h2,by show(n7 v).size<=_;rw[a2G];omega⟩
 | some t =>
  obtain⟨b,hb,e,_⟩:=M4 hf;show t.rng/\t.size<=_;rw[<-e];exact h b hb
theorem b5n(W:World)(l:List Bd)(t:Tm)(hl:l.length<=64)(hb:bdsOk l)(hr:t.rng)(kH:t.ok):AFun Tryz.prog W 66 [.lst (l.map Bd.cv),t.cw] (.val (a8 (f0 l) t).cw):=by
 refine b9 (rs:=[(a8 (f0 l) t).cw]) Tryz.func66 Tryz.ntmps66 rfl rfl rfl rfl ?_;intro w U hW;refine qz<|nc zd<|nc zw ?_;refine aS<|aD (by kernel_rfl) (by kernel_rfl) ?_;refine nc zj<|nc zl<|nc (zk (z:=b2j w l hl)) ?_;refine nc (zk (z:=a3m w _ (f0 l) (λv h1 h2=>⟨⟨_,_,_,rfl,b5J w l v (by omega) h1 h2⟩,a4K hb h1 h2⟩) t hr kH)) ?_;refine nc zx ?_;refine⟨by kernel_rfl,?_⟩;exact aT (And.intro (.inr rfl) rfl)
def upV(by_ v:Int):Int:=v+min by_ (9223372036854775807-v)
theorem b7k(W:World)(v by_:Int)(h1:0<=v)(h2:v<=9223372036854775807)(h3:0<=by_):AFun Tryz.prog W 72 [.i v,.ptr (.i by_)] (.val (n7 (upV by_ v)).cw):=by
 refine b9 (rs:=[(n7 (upV by_ v)).cw]) Tryz.func72 Tryz.ntmps72 rfl rfl rfl rfl ?_;intro w U hW;refine qz<|nc zw ?_;refine qz<|nc zl<|nc zI<|nc zl<|nc zB<|nc zJ<|nc zA<|nc (zk (z:=K0 w (v+min by_ (9223372036854775807-v)) (by omega) (by omega)))<|nc zx ?_;exact aT (And.intro (.inr rfl) rfl)
theorem a9k{by_ v:Int}(h1:0<=v)(h2:v<=9223372036854775807)(h3:0<=by_):0<=upV by_ v/\upV by_ v<=9223372036854775807:=by unfold upV;omega
theorem b2p(W:World)(t:Tm)(by_:Int)(hr:t.rng)(kH:t.ok):AFun Tryz.prog W 46 [t.cw,.i by_] (.val (a8 (λv=>n7 (upV (max by_ 0) v)) t).cw):=by
 refine b9 (rs:=[(a8 (λv=>n7 (upV (max by_ 0) v)) t).cw]) Tryz.func46 Tryz.ntmps46 rfl rfl rfl rfl ?_;intro w U hW;refine qz<|nc zd<|nc zd<|nc zw ?_;refine qz<|nc zj<|nc zK<|nc zx ?_;refine AWp.wk (q7 3 rfl rfl rfl (s':=[(2,.bp 2 0 []),(100002,.bx t.cw),(4,.bp 4 0 []),(100004,⟨5,.row [.i 0,.lst []],1,0,[1]⟩)]) ⟨rfl,rfl,rfl,rfl,trivial⟩ rfl rfl rfl) ?_;refine qz<|nc zj<|nc zG ?_;refine nc (zk (z:=a3m w _ (λv=>n7 (upV (max by_ 0) v)) (λv h1 h2=>⟨⟨_,_,_,rfl,b7k w v (max by_ 0) h1 h2 (by omega)⟩,a1K (a9k h1 h2 (by omega)).1 (a9k h1 h2 (by omega)).2,by rw[a2G];omega⟩) t hr kH)) ?_;refine nc zx ?_;exact aT (And.intro (.inr rfl) rfl)
def vsL(l:List Tm):List Int:=(l.filter λs=>decide (s.f<0)).map λs => -1-s.f
def Tm.vs(t:Tm):List Int:=vsL t.flat
theorem a4G(l m:List Tm):vsL (l++m)=vsL l++vsL m:=by simp[vsL]
theorem Z0(l:List Tm):vsL (l.flatMap Tm.flat)=l.flatMap Tm.vs:=by
 induction l with
 | nil=>rfl
 | cons t l ih=>rw[flatMap_cons,a4G,ih,flatMap_cons];rfl
theorem Tm.vs_var{t:Tm}(h:t.f<0):t.vs=[-1-t.f]:=by
 unfold Tm.vs;rw[Tm.flat_eq,Tm.ps_of_var h];simp[vsL,h]
theorem Tm.vs_sym{t:Tm}(h:¬ t.f<0):t.vs=t.l.flatMap Tm.vs:=by
 unfold Tm.vs;rw[Tm.flat_eq,Tm.ps_of_sym (by omega),show t::t.l.flatMap Tm.flat=[t]++t.l.flatMap Tm.flat from rfl,a4G,Z0];simp[vsL,h];rfl
theorem Tm.strip_vs(t:Tm):t.strip.vs=t.vs:=by
 induction t using Tm.indp with
 | h t ih =>
  by_cases h:t.f<0
  ·rw[Tm.vs_var h,Tm.vs_var (by rw[Tm.strip_f];exact h),Tm.strip_f]
  ·rw[Tm.vs_sym h,Tm.vs_sym (by rw[Tm.strip_f];exact h),Tm.strip_l];rw[Tm.ps_of_sym (by omega)]at ih |-;rw[flatMap_def,flatMap_def,map_map];congr 1;exact map_congr_left λs hs=>ih s hs
theorem a0H(img:Int->Tm)(t:Tm):(a8 img t).vs=t.vs.flatMap λv=>(img v).vs:=by
 induction t using Tm.indp with
 | h t ih =>
  by_cases h:t.f<0
  ·rw[i9 h,Tm.vs_var h,Tm.strip_vs];simp
  ·rw[c9 h,Tm.vs_sym h,Tm.vs_sym (t:=⟨t.f,_⟩) h];rw[Tm.ps_of_sym (by omega)]at ih;simp only;rw[List.flatMap_assoc,flatMap_def,map_map,flatMap_def];congr 1;exact map_congr_left λs hs=>ih s hs
theorem Tm.size_sym{t:Tm}(h:¬ t.f<0):t.size=1+(t.l.map Tm.size).sum:=by
 rw[Tm.size_eq,Tm.ps_of_sym (by omega),List.length_flatMap];rfl
theorem Tm.size_var{t:Tm}(h:t.f<0):t.size=1:=by
 rw[Tm.size_eq,Tm.ps_of_var h];rfl
theorem a6o{l:List Tm}{f g:Tm->Int}(h:∀s∈l,f s=g s):(l.map f).sum=(l.map g).sum:=by
 rw[map_congr_left h]
theorem a3t(l:List Tm)(g:Int->Int):((l.flatMap Tm.vs).map g).sum=(l.map λs=>(s.vs.map g).sum).sum:=by
 induction l with
 | nil=>rfl
 | cons t l ih=>rw[flatMap_cons,map_append,List.sum_append_int,ih,map_cons,sum_cons]
theorem b1l(l:List Nat):((l.sum:Nat):Int)=(l.map λn:Nat=>(n:Int)).sum:=by
 induction l with
 | nil=>rfl
 | cons n l ih=>rw[sum_cons,map_cons,sum_cons,<-ih];omega
theorem c0n(l:List Tm)(f g:Tm->Int):(l.map λs=>f s+g s).sum=(l.map f).sum+(l.map g).sum:=by
 induction l with
 | nil=>rfl
 | cons t l ih=>simp only[map_cons,sum_cons,ih];omega
theorem a6P(img:Int->Tm)(t:Tm):((a8 img t).size:Int)=t.size+(t.vs.map λv=>((img v).size:Int)-1).sum:=by
 induction t using Tm.indp with
 | h t ih =>
  by_cases h:t.f<0
  ·rw[i9 h,Tm.vs_var h,Tm.strip_size,Tm.size_var h];simp;omega
  ·rw[c9 h,Tm.vs_sym h,Tm.size_sym h,Tm.size_sym (t:=⟨t.f,_⟩) h,a3t];rw[Tm.ps_of_sym (by omega)]at ih;simp only;rw[Int.natCast_add,Int.natCast_add,b1l,b1l,map_map,map_map,map_map,Int.add_assoc,<-c0n];congr 1;exact a6o λs hs=>ih s hs
def c4e(acc:List Int)(v:Int):List Int:=if v∈acc then acc else acc++[v]
def nub(l:List Int):List Int:=l.foldl c4e []
theorem a1P(l:List Int)(v:Int):nub (l++[v])=if v∈nub l then nub l else nub l++[v]:=by
 unfold nub;rw[List.foldl_append];rfl
theorem a5i{α:Type}{Q:List α->Prop}(h0:Q [])(h1:∀l x,Q l->Q (l++[x])):∀l,Q l:=by
 intro l;have:∀n (l:List α),l.length=n->Q l:=by
  intro n
  induction n with
  | zero=>intro l hl;rw[List.eq_nil_of_length_eq_zero hl];exact h0
  | succ n ih =>
   intro l hl;have kF:l≠[]:=λe=>by rw[e]at hl;simp at hl
   rw[<-List.dropLast_concat_getLast kF];exact h1 _ _ (ih _ (by simp[hl]))
 exact this _ l rfl
theorem a8q(l:List Int):∀v,v∈nub l↔v∈l:=by
 induction l using a5i with
 | h0=>intro v;rfl
 | h1 l x ih =>
  intro v;rw[a1P,mem_append,<-ih];split
  ·rename_i hx;simp only[List.mem_singleton];exact⟨λh => .inl h,λh=>h.elim id λe=>e▸hx⟩
  ·rw[mem_append]
theorem c1K(g:Int->Int)(l:List Int)(hg:∀x∈l,∀y∈l,g x=g y->x=y):nub (l.map g)=(nub l).map g:=by
 induction l using a5i with
 | h0=>rfl
 | h1 l x ih =>
  have ih:=ih (λa ha b hb=>hg a (mem_append_left _ ha) b (mem_append_left _ hb));rw[map_append,map_cons,map_nil,a1P,a1P,ih];by_cases hx:x∈nub l
  ·rw[if_pos hx,if_pos (List.mem_map_of_mem hx)]
  ·rw[if_neg hx,if_neg]
   ·simp
   ·intro h;obtain⟨y,hy,e⟩:=mem_map.1 h;have:=hg y (mem_append_left _ ((a8q l y).1 hy)) x (by simp) e;exact hx (this▸hy)
theorem b6m(l:List Tm):K3 l=nub (vsL l):=by
 have:∀(l:List Tm) (acc:List Int),l.foldl a6Y acc=(vsL l).foldl c4e acc:=by
  intro l
  induction l with
  | nil=>intro acc;rfl
  | cons t l ih =>
   intro acc;rw[foldl_cons,ih];by_cases h:t.f<0
   ·have:vsL (t::l)=(-1-t.f)::vsL l:=by simp[vsL,h]
    rw[this,foldl_cons];congr 1;unfold a6Y c4e;rw[if_pos h]
   ·have:vsL (t::l)=vsL l:=by simp[vsL,h]
    rw[this];congr 1;unfold a6Y;rw[if_neg h]
 exact this l []
theorem b4f(l:List Tm):X5 l=(vsL l).foldl max (-1):=by
 have:∀(l:List Tm) (m:Int),l.foldl (λm s=>if s.f<0 then max m (-1-s.f)else m) m=(vsL l).foldl max m:=by
  intro l
  induction l with
  | nil=>intro acc;rfl
  | cons t l ih =>
   intro m;rw[foldl_cons,ih];by_cases h:t.f<0
   ·have:vsL (t::l)=(-1-t.f)::vsL l:=by simp[vsL,h]
    rw[this,foldl_cons,if_pos h]
   ·have:vsL (t::l)=vsL l:=by simp[vsL,h]
    rw[this,if_neg h]
 exact this l (-1)
theorem l9(t:Tm):∀v∈t.vs,0<=v:=by
 intro v hv;obtain⟨s,hs,rfl⟩:=mem_map.1 hv;have:=(List.mem_filter.1 hs).2;simp at this;omega
theorem c2k{t:Tm}{B:Int}(h:∀s∈t.flat,-B<=s.f):∀v∈t.vs,v<B:=by
 intro v hv;obtain⟨s,hs,rfl⟩:=mem_map.1 hv;have:=h s (List.mem_filter.1 hs).1;omega
theorem a5G{img:Int->Tm}{t:Tm}(h:t.rng)(hi:∀v,0<=v->v<=9223372036854775807->(img v).rng):(a8 img t).rng:=by
 induction t using Tm.ind with
 | h f l ih =>
  obtain⟨h1,h2⟩:=(Tm.rng_iff _).1 h;simp only at h1 h2;by_cases hf:f<0
  ·rw[i9 hf];exact Tm.strip_rng (hi _ (by simp only;omega) (by simp only;omega))
  ·rw[c9 hf];refine(Tm.rng_iff _).2 ⟨h1,λs hs=>?_⟩;obtain⟨u,hu,rfl⟩:=mem_map.1 hs;exact ih u hu (h2 u hu)
theorem b4V{img:Int->Tm}{t:Tm}(h:t.ok)(hi:∀v,(img v).ok):(a8 img t).ok:=by
 induction t using Tm.ind with
 | h f l ih =>
  obtain⟨h1,h2⟩:=(Tm.ok_iff _).1 h;simp only at h1 h2;by_cases hf:f<0
  ·rw[i9 hf];exact Tm.strip_ok (hi _)
  ·rw[c9 hf];refine(Tm.ok_iff _).2 ⟨by simpa using h1,λs hs=>?_⟩;obtain⟨u,hu,rfl⟩:=mem_map.1 hs;exact ih u hu (h2 u hu)
theorem b3R(v:Int):(n7 v).ok:=(Tm.ok_iff _).2 ⟨by show 0<=_;omega,λs hs=>by cases hs⟩
theorem b0J{l:List Bd}(h:∀b∈l,b.t.ok)(v:Int):(f0 l v).ok:=by
 unfold f0;cases hf:d9 l v with
 | none=>exact b3R v
 | some t =>
  obtain⟨b,hb,e,_⟩:=M4 hf;show t.ok;rw[<-e];exact h b hb
theorem c0r{v:Int}(h:0<=v):(n7 v).vs=[v]:=by rw[Tm.vs_var (by show -1-v<0;omega)];show[-1-(-1-v)]=[v];rw[show -1-(-1-v)=v by omega]
theorem p7(x y:Int):(G2 x y = -1/\x<y)\/(G2 x y=0/\x=y)\/(G2 x y=1/\y<x):=by
 unfold G2;split
 ·exact .inl ⟨rfl,by assumption⟩
 ·split
  ·exact .inr (.inr ⟨rfl,by assumption⟩)
  ·exact .inr (.inl ⟨rfl,by omega⟩)
theorem b2E(x y:Int):(a8S x y = -1/\((x<0/\y<0/\y<x)\/(¬ (x<0/\y<0)/\x<y)))\/(a8S x y=0/\x=y)\/(a8S x y=1/\((x<0/\y<0/\x<y)\/(¬ (x<0/\y<0)/\y<x))):=by
 unfold a8S;split
 ·have:=p7 (-1-x) (-1-y);omega
 ·have:=p7 x y;omega
theorem a0v(a:Tm):∀b,S1 a b=0↔a.strip=b.strip:=by
 induction a using Tm.indp with
 | h a ih =>
  intro b;rw[b4l,Tm.strip_eq a,Tm.strip_eq b];have hL:∀(l m:List Tm),(∀s∈l,∀b,S1 s b=0↔s.strip=b.strip)->(a0c l m=0↔l.map Tm.strip=m.map Tm.strip):=by
   intro l
   induction l with
   | nil=>intro m _;cases m<;>simp[a1H,a8x,a8V]
   | cons y ys ih2 =>
    intro m hl;cases m with
    | nil=>simp[a1H,a8x,a8V]
    | cons z zs =>
     rw[a7r,map_cons,map_cons,List.cons.injEq,<-hl y (by simp) z,<-ih2 zs (λs hs=>hl s (List.mem_cons_of_mem _ hs))];by_cases h:S1 y z=0<;>simp[h]
  rw[Tm.mk.injEq];by_cases h1:a.f=b.f
  ·rw[if_neg (by simp[h1])];by_cases h2:a.ps.length=b.ps.length
   ·rw[if_neg (by simp[h2]),hL _ _ ih];simp[h1]
   ·rw[if_pos h2];constructor
    ·intro h3;have:=p7 a.ps.length b.ps.length;omega
    ·rintro⟨_,h3⟩;exact absurd (by simpa using congrArg List.length h3) h2
  ·rw[if_pos h1];constructor
   ·intro h3;have:=b2E a.f b.f;omega
   ·rintro⟨h3,_⟩;exact absurd h3 h1
theorem l8(a b:Tm):y0 a b=true↔a.strip=b.strip:=by
 unfold y0;rw[beq_iff_eq];exact a0v a b
theorem Tm.rng_flat{t:Tm}(h:t.rng):∀s∈t.flat,-9223372036854775808<=s.f/\s.f<=9223372036854775807:=by
 induction t using Tm.indp with
 | h t ih =>
  intro s hs;rw[Tm.flat_eq]at hs;rcases mem_cons.1 hs with rfl | hs
  ·exact((Tm.rng_iff _).1 h).1
  ·obtain⟨u,hu,hs⟩:=mem_flatMap.1 hs;exact ih u hu (((Tm.rng_iff _).1 h).2 u (Tm.ps_mem hu).1) s hs
set_option maxHeartbeats 1000000 in
theorem b8O(W:World):∀(t:Tm),t.ok->AFun Tryz.prog W 26 [t.cw] (.val t.cw):=by
 intro t
 induction t using Tm.ind with
 | h f l ih =>
 intro kH;obtain⟨hl,kH⟩:=(Tm.ok_iff _).1 kH;simp only at hl kH;refine b9 (rs:=[Tm.cw ⟨f,l⟩]) Tryz.func26 Tryz.ntmps26 rfl rfl rfl rfl ?_;intro w U hW;refine qz<|nc zd<|nc zw ?_;refine qz<|nc zg<|nc zh<|nc zC<|nc zw<|nc zx ?_;refine aS<|qz<|nc ze ?_;refine aB (n6 l.length (λk=>[(1,.bp 1 0 []),(100001,.bx (Tm.cw ⟨f,l⟩)),(2,.bp 2 0 []),(100002,⟨5,.row [.i 0,.lst []],1,0,[1]⟩),(3,.bp 3 0 []),(100003,⟨5,.row [.i f,.lst ((l.take k).map Tm.cv)],200024,0,[1]⟩),(200024,.tok 41 2),(4,.val (.i k))])
  ((M9 100003 200024 41 2 rfl rfl rfl rfl rfl rfl rfl).trans (a7 ⟨rfl,rfl,rfl,rfl,rfl,rfl,rfl,rfl,trivial⟩)) ?_)
 intro k hk;refine aS<|qz<|nc zl<|nc zg<|nc zh<|nc zo<|nc zi ?_;refine aC rfl (λhc=>?_) (λhc=>?_)
 ·simp only[length_map,decide_eq_true_eq]at hc;have kE:k<l.length:=by omega
  obtain⟨t,ht⟩:∃t,l[k]?=some t:=⟨l[k],getElem?_eq_getElem kE⟩
  refine aK<|aS<|aB<|aD (by kernel_rfl) (by kernel_rfl) ?_;refine nc zg<|nc zL<|nc zg<|nc zh<|nc zl<|nc (zt (j:=_) (H:=Tm.map_at ht) (hz:=Tm.size_all l))<|nc zu<|nc (zk (z:=(ih t (List.mem_of_getElem? ht) (kH t (List.mem_of_getElem? ht))).up hW))<|nc zy<|nc zz<|nc zg<|nc zM ?_;refine⟨by kernel_rfl,?_⟩;refine aR<|nc zl<|nc zA<|nc ze ?_;refine⟨kE,Wk.trans (a7 (s':=[(1,.bp 1 0 []),(100001,.bx (Tm.cw ⟨f,l⟩)),(2,.bp 2 0 []),(100002,⟨5,.row [.i 0,.lst []],1,0,[1]⟩),(3,.bp 3 0 []),(100003,⟨5,.row [.i f,.lst ((l.take (k+1)).map Tm.cv)],300024,0,[1]⟩),(300024,.tok 41 2),(4,.val (.i ((k+1:Nat):Int)))]) ⟨rfl,rfl,rfl,rfl,rfl,?_,rfl,rfl,trivial⟩) (B1 300024 200024 rfl rfl rfl rfl)⟩;rw[List.take_add_one,ht,map_append];simp only[Option.toList_some,map_cons,map_nil,Tm.cv_eq];rfl
 ·refine aE ?_;have kE:k=l.length:=by simp only[length_map,decide_eq_false_iff_not]at hc;omega
  subst kE;rw[List.take_length];refine qz<|nc zj<|nc zx ?_;exact aT ⟨.inr rfl,rfl⟩
def o5(l:List Bd):Tm->Tm
 | ⟨f,ts⟩=>if f<0 then f0 l (-1-f) else⟨f,ts.map (o5 l)⟩
theorem a5w{l:List Bd}{t:Tm}(h:t.f<0):o5 l t=f0 l (-1-t.f):=by cases t;rw[o5,if_pos h]
theorem a5x{l:List Bd}{t:Tm}(h:¬ t.f<0):o5 l t=⟨t.f,t.l.map (o5 l)⟩:=by cases t;rw[o5,if_neg h]
theorem a8L{l:List Bd}{t:Tm}(h:t.ok)(hi:∀b∈l,b.t.ok):(o5 l t).ok:=by
 induction t using Tm.ind with
 | h f ts ih =>
  obtain⟨h1,h2⟩:=(Tm.ok_iff _).1 h;simp only at h1 h2;by_cases hf:f<0
  ·rw[a5w hf];exact b0J hi _
  ·rw[a5x hf];refine(Tm.ok_iff _).2 ⟨by simpa using h1,λs hs=>?_⟩;obtain⟨u,hu,rfl⟩:=mem_map.1 hs;exact ih u hu (h2 u hu)
theorem y9{f g:Int->Tm}{t:Tm}(h:∀v∈t.vs,f v=g v):a8 f t=a8 g t:=by
 induction t using Tm.indp with
 | h t ih =>
  by_cases hf:t.f<0
  ·rw[Tm.vs_var hf]at h;rw[i9 hf,i9 hf,h _ (by simp)]
  ·rw[Tm.vs_sym hf]at h;rw[Tm.ps_of_sym (by omega)]at ih;rw[c9 hf,c9 hf];congr 1;exact map_congr_left λs hs=>ih s hs λv hv=>h v (mem_flatMap.2 ⟨s,hs,hv⟩)
theorem t9(v:Int):(n7 v).strip=n7 v:=by
 rw[Tm.strip_eq];have:(n7 v).ps=[]:=by unfold Tm.ps n7;simp
 rw[this];rfl
theorem b1r(img:Int->Tm)(g:Int->Int){t:Tm}(h:∀v∈t.vs,0<=g v):a8 img (a8 (λv=>n7 (g v)) t)=a8 (λv=>img (g v)) t:=by
 induction t using Tm.indp with
 | h t ih =>
  by_cases hf:t.f<0
  ·rw[Tm.vs_var hf]at h;have h:=h _ (List.mem_singleton.2 rfl);rw[i9 hf,i9 hf,t9,i9 (by show -1-g (-1-t.f)<0;omega)];show(img (-1-(-1-g (-1-t.f)))).strip=_;rw[show -1-(-1-g (-1-t.f))=g (-1-t.f) by omega]
  ·rw[Tm.vs_sym hf]at h;rw[Tm.ps_of_sym (by omega)]at ih;rw[c9 hf,c9 (t:=⟨t.f,_⟩) hf,c9 hf];simp only[map_map];congr 1;exact map_congr_left λs hs=>ih s hs λv hv=>h v (mem_flatMap.2 ⟨s,hs,hv⟩)
theorem a3D(t:Tm):a8 n7 t=t.strip:=by
 induction t using Tm.indp with
 | h t ih =>
  by_cases hf:t.f<0
  ·rw[i9 hf,t9,Tm.strip_eq,Tm.ps_of_var hf];unfold n7;rw[show -1-(-1-t.f)=t.f by omega];rfl
  ·rw[Tm.ps_of_sym (by omega)]at ih;rw[c9 hf,Tm.strip_eq,Tm.ps_of_sym (by omega)];congr 1;exact map_congr_left λs hs=>ih s hs
theorem B8(img:Int->Tm)(t:Tm):a8 img t.strip=a8 img t:=by
 induction t using Tm.indp with
 | h t ih =>
  by_cases hf:t.f<0
  ·rw[i9 hf,i9 (by rw[Tm.strip_f];exact hf),Tm.strip_f]
  ·rw[Tm.ps_of_sym (by omega)]at ih;rw[c9 hf,c9 (by rw[Tm.strip_f];exact hf),Tm.strip_f,Tm.strip_l,Tm.ps_of_sym (by omega),map_map];congr 1;exact map_congr_left λs hs=>ih s hs
theorem t7(img:Int->Tm)(t:Tm):(a8 img t).strip=a8 img t:=by
 induction t using Tm.indp with
 | h t ih =>
  by_cases hf:t.f<0
  ·rw[i9 hf,Tm.strip_strip]
  ·rw[Tm.ps_of_sym (by omega)]at ih;rw[c9 hf,Tm.strip_eq,Tm.ps_of_sym (t:=⟨t.f,_⟩) (by show 0<=t.f;omega)];simp only[map_map];congr 1;exact map_congr_left λs hs=>ih s hs
theorem b4P(g:Int->Int)(t:Tm)(h:∀v∈t.vs,0<=g v):(a8 (λv=>n7 (g v)) t).vs=t.vs.map g:=by
 rw[a0H];generalize t.vs=l at h |-
 induction l with
 | nil=>rfl
 | cons v l ih =>
  rw[flatMap_cons,ih (λx hx=>h x (List.mem_cons_of_mem _ hx)),map_cons,c0r (h v (by simp))];rfl
def b9w:List Int->Int->Nat
 | [],_=>0
 | x::l,v=>if x=v then 0 else b9w l v+1
theorem b3M:∀{l:List Int} {v:Int},v∈l->l[b9w l v]?=some v
 | x::l,v,h=>by
  rw[b9w];split
  ·rename_i e;simp[e]
  ·rename_i e;rw[List.getElem?_cons_succ];exact b3M ((mem_cons.1 h).resolve_left λc=>e c.symm)
def b1H(a b:List Int):List Bd:=List.zipWith (λv u=>⟨v,n7 u⟩) a b
theorem b3J:∀{a b:List Int} {v:Int},a.length=b.length->v∈a->f0 (b1H a b) v=n7 (b.getD (b9w a v) 0)
 | x::a,y::b,v,hl,h=>by
  show((d9 (⟨x,n7 y⟩::b1H a b) v).getD (n7 v))=_;rw[d9,b9w];split
  ·rfl
  ·rename_i e;have:=b3J (a:=a) (b:=b) (v:=v) (by simpa using hl) ((mem_cons.1 h).resolve_left λc=>e c.symm);rw[List.getD_cons_succ];exact this
theorem c1H{l:List Int}{i:Nat}{v:Int}(h:l[i]?=some v):l.getD i 0=v:=by rw[List.getD_eq_getElem?_getD,h];rfl
def Tm.nv(t:Tm):List Int:=nub t.vs
theorem c1y(t:Tm):K3 t.flat=t.nv:=b6m _
def a8T(a b:Tm):Bool:=decide (a.nv.length=b.nv.length)&&y0 (a8 (f0 (b1H a.nv b.nv)) a) b
theorem c0Q(a:Tm)(g:Int->Int)(h0:∀v∈a.vs,0<=g v)(hg:∀x∈a.vs,∀y∈a.vs,g x=g y->x=y):a8T a (a8 (λv=>n7 (g v)) a)=true:=by
 have e:(a8 (λv=>n7 (g v)) a).nv=a.nv.map g:=by unfold Tm.nv;rw[b4P g a h0,c1K g _ hg]
 unfold a8T;rw[e,Bool.and_eq_true,decide_eq_true_eq,l8];refine⟨by simp,congrArg Tm.strip (y9 λv hv=>?_)⟩;have hm:v∈a.nv:=(a8q a.vs v).2 hv;rw[b3J (by simp[Tm.nv]) hm];congr 1;refine c1H ?_;rw[List.getElem?_map];show Option.map g (a.nv)[b9w a.nv v]?=_;rw[b3M (l:=a.nv) hm];rfl
section
variable{α:Type}(lt:α->α->Bool)(a:Nat)
def a1n:Nat->List α->List α
 | 0,L=>L
 | j+1,L=>match L[j+1]?,L[j]? with
  | some x,some y=>if a<j+1/\lt x y=true then a1n j ((L.set (j+1) y).set j x)else L
  | _,_=>L
def F3:Nat->Nat->List α->List α
 | 0,_,L=>L
 | n+1,i,L=>F3 n (i+1) (a1n lt a i L)
theorem b1I:∀(j:Nat) (L:List α),(a1n lt a j L).length=L.length
 | 0,L=>rfl
 | j+1,L=>by
  unfold a1n;split
  ·split
   ·rw[b1I j];simp
   ·rfl
  ·rfl
theorem b6a{j:Nat}{L:List α}(h:¬ a<j):a1n lt a j L=L:=by
 cases j with
 | zero=>rfl
 | succ j=>unfold a1n;split<;>simp[h]
theorem b4i{j:Nat}{L:List α}{x y:α}(hx:L[j+1]?=some x)(hy:L[j]?=some y)(h:lt x y=false):a1n lt a (j+1) L=L:=by
 unfold a1n;rw[hx,hy];simp[h]
theorem b0A{j:Nat}{L:List α}{x y:α}(hx:L[j+1]?=some x)(hy:L[j]?=some y)(ha:a<j+1)(h:lt x y=true):a1n lt a (j+1) L=a1n lt a j ((L.set (j+1) y).set j x):=by
 conv=>lhs;unfold a1n
 rw[hx,hy];simp[h,ha]
theorem a4i:∀(n i:Nat) (L:List α),(F3 lt a n i L).length=L.length
 | 0,_,L=>rfl
 | n+1,i,L=>by rw[F3,a4i n,b1I]
end
def ltC(cmp:Bd->Bd->Int)(x y:Bd):Bool:=decide (cmp x y<0)
theorem N5(l:List Bd)(j:Nat)(b:Bd):(l.map Bd.cv).set j b.cw=(l.set j b).map Bd.cv:=by rw[List.map_set];rfl
theorem a9C(cmp:Bd->Bd->Int)(fc:CV)(L0:List Bd)(a b:Nat)(ha:a<=L0.length)(hb:b<=L0.length)(hn:L0.length<=1000000000)(hc:∀W x y,P4 Tryz.prog W fc [x.cw,y.cw] (.val (.i (cmp x y)))) :
  r8 Tryz.prog 183 [(400000,.mrow 112 3 (L0.map Bd.cv))] [.sl 400000 0 L0.length 3,.val (.i a),.val (.i b),.val fc] (.tup []) [(400000,.mrow 112 3 ((F3 (ltC cmp) a (b-(a+1)) (a+1) L0).map Bd.cv))]:=by
 refine l6 Tryz.func183 Tryz.ntmps183 rfl rfl rfl rfl rfl rfl ?_;intro w U hU;obtain⟨T,hT⟩:∃T,T=F3 (ltC cmp) a (b-(a+1)) (a+1) L0:=⟨_,rfl⟩
 rw[<-hT];refine qz<|nc zl<|nc zA<|nc ze ?_
 let st:Nat->List Bd->AS:=λi L=>[(0,.sl 400000 0 L0.length 3),(1,.val (.i a)),(2,.val (.i b)),(3,.val fc),(8,.val (.i i)),(400000,.mrow 112 3 (L.map Bd.cv))]
 refine aB (w8 (λm s=>∃i L,m=(b+1)-i/\L.length=L0.length/\a+1<=i/\F3 (ltC cmp) a (b-i) i L=T/\s=st i L) (s':=st (a+1) L0) (a7 ⟨rfl,rfl,rfl,rfl,rfl,rfl,trivial⟩) ⟨a+1,L0,rfl,rfl,Nat.le_refl _,hT.symm,rfl⟩ ?_);rintro m s ⟨i,L,rfl,hL,hi,hI,rfl⟩;refine aS<|qz<|nc zl<|nc zl<|nc zi ?_;refine aC rfl (λkA=>?_) (λkA=>?_)
 ·have hib:i<b:=by simpa using kA
  refine aK<|aS<|aB<|qz<|nc zl<|nc ze ?_
  let st2:Nat->List Bd->AS:=λj L=>[(0,.sl 400000 0 L0.length 3),(1,.val (.i a)),(2,.val (.i b)),(3,.val fc),(8,.val (.i i)),(9,.val (.i j)),(400000,.mrow 112 3 (L.map Bd.cv))]
  refine aB (w8 (λm s=>∃j L',m=j/\L'.length=L0.length/\j<=i/\a1n (ltC cmp) a j L'=a1n (ltC cmp) a i L/\s=st2 j L') (s':=st2 i L) (a7 ⟨rfl,rfl,rfl,rfl,rfl,rfl,rfl,trivial⟩) ⟨i,L,rfl,hL,Nat.le_refl _,rfl,rfl⟩ ?_);rintro m s ⟨j,L',hmj,hL',mR,hJ,rfl⟩;by_cases yO:a<j
  ·obtain⟨j,rfl⟩:∃k,j=k+1:=⟨j-1,by omega⟩
   obtain⟨x,hx⟩:∃x,L'[j+1]?=some x:=⟨L'[j+1]'(by omega),getElem?_eq_getElem (by omega)⟩
   obtain⟨y,hy⟩:∃y,L'[j]?=some y:=⟨L'[j]'(by omega),getElem?_eq_getElem (by omega)⟩
   have kT:=Bd.map_at hx;have dW:=Bd.map_at hy;have g:decide (((j+1:Nat):Int)>(a:Int))=true:=by simp;omega
   refine aS<|aS<|aD (by kernel_rfl) (by kernel_rfl) ?_;refine nc zl<|nc zl<|nc zN<|nc zl<|nc (zl (p:=gb))<|nc (zl (p:=gb))<|nc (zl (p:=gb))<|nc (zO (k:=j+1) (p:=gb))<|nc (zP (r:=gb) (G:=kT))<|nc (zl (p:=gb))<|nc (zl (p:=gb))<|nc (zB (r:=gb))<|nc (zO (k:=j) (p:=gb))<|nc (zP (r:=gb) (G:=dW))<|nc (zQ (t:=gb) (E:=hc _ x y))<|nc (zi (r:=gb))<|nc zp ?_;refine⟨by kernel_rfl,?_⟩;refine aC rfl (λgP=>?_) (λgP=>?_)
   ·have fT:ltC cmp x y=true:=gP;refine aK ?_;refine AWp.wk (a7 (s':=st2 (j+1) L') ⟨rfl,rfl,rfl,rfl,rfl,rfl,rfl,trivial⟩) ?_;refine aS<|aB<|aD (by kernel_rfl) (by kernel_rfl) ?_;refine nc zl<|nc zl<|nc zl<|nc zl<|nc zB<|nc zl<|nc zl<|nc zB<|nc (zO (k:=j))<|nc (zP (G:=dW))<|nc zl<|nc zl<|nc (zO (k:=j+1))<|nc (zP (G:=kT))<|nc (zO (k:=j+1))<|nc (zR (F:=kT))<|nc (zO (k:=j)) ?_;refine nc (zR (F:=(by rw[List.getElem?_set_ne (by omega)];exact dW))) ?_;refine⟨by kernel_rfl,?_⟩;refine aR<|nc zl<|nc zB<|nc ze ?_;refine⟨j,st2 j ((L'.set (j+1) y).set j x),by omega,⟨j,_,rfl,by simp[hL'],by omega,?_,rfl⟩,a7 ⟨rfl,rfl,rfl,rfl,rfl,?_,?_,trivial⟩⟩
    ·rw[<-hJ,b0A _ _ hx hy yO fT]
    ·show some (AV.val (.i _))=some (AV.val (.i _));congr 3;omega
    ·show some (AV.mrow _ _ _)=some (AV.mrow _ _ _);rw[N5,N5]
   ·have fT:ltC cmp x y=false:=gP;refine aE ?_;refine AWp.wk (a7 (s':=st2 (j+1) L') ⟨rfl,rfl,rfl,rfl,rfl,rfl,rfl,trivial⟩) ?_;refine aR<|nc zl<|nc zA<|nc ze ?_;refine⟨(b+1)-(i+1),st (i+1) L',by omega,⟨i+1,L',rfl,hL',by omega,?_,rfl⟩,a7 ⟨rfl,rfl,rfl,rfl,rfl,rfl,trivial⟩⟩;have hs:L'=a1n (ltC cmp) a i L:=by rw[<-hJ,b4i _ _ hx hy fT]
    rw[<-hI,show b-i=(b-(i+1))+1 by omega,F3,hs]
  ·have g:decide ((j:Int)>(a:Int))=false:=by simp;omega
   refine aS<|aS<|aD (by kernel_rfl) (by kernel_rfl) ?_;refine nc zl<|nc zl<|nc zN<|nc zl<|nc zq<|nc zq<|nc zq<|nc zq<|nc zq<|nc zq<|nc zq<|nc zq<|nc zq<|nc zq<|nc zq<|nc zq<|nc zr ?_;refine⟨by kernel_rfl,?_⟩;refine aC rfl (λgP=>?_) (λgP=>?_)
   ·cases gP
   ·refine aE ?_;refine AWp.wk (a7 (s':=st2 (j) L') ⟨rfl,rfl,rfl,rfl,rfl,rfl,rfl,trivial⟩) ?_;refine aR<|nc zl<|nc zA<|nc ze ?_;refine⟨(b+1)-(i+1),st (i+1) L',by omega,⟨i+1,L',rfl,hL',by omega,?_,rfl⟩,a7 ⟨rfl,rfl,rfl,rfl,rfl,rfl,trivial⟩⟩;have hs:L'=a1n (ltC cmp) a i L:=by rw[<-hJ,b6a _ _ yO]
    rw[<-hI,show b-i=(b-(i+1))+1 by omega,F3,hs]
 ·have hib:¬ i<b:=by simpa using kA
  refine aE ?_;refine⟨.inl rfl,_,Wk.refl _,rfl,?_,trivial⟩;show some (AV.mrow _ _ _)=some (AV.mrow _ _ _);rw[show b-i=0 by omega]at hI;rw[<-hI];rfl
end Go.Proofs.YteegmcfobgpemaaGreat
