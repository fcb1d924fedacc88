/-
 AbNest3 AbNest4 SbFns SbApply SbVars TmSm SbSmall TmOrd RfSame RfLess RfFlat RfVars AbOf SbVnt SbRen SbSort SbClone SbNorm SbNorm2 SbSortM
-/
import Derived.Test.YtglmoficcjphaaaGreatMg3
import Derived.Test.YtglmoficcjphaaaGreatMg2
namespace Go.Proofs.YtglmoficcjphaaaGreat
open List (all_eq_true append_assoc filter_append flatMap_cons flatMap_def getElem?_eq_getElem getElem?_of_mem getElem?_set_ne getElem?_take length_append length_map map_append map_congr_left map_cons map_map map_nil map_take mem_append mem_cons mem_cons_of_mem mem_filter mem_flatMap mem_map mem_of_getElem? mem_singleton sum_cons take_length)
open Go.RowKit
set_option linter.unusedVariables false
set_option linter.unusedSimpArgs false
set_option maxRecDepth 100000
section
open Go.RowKit Go.MapKept
section
variable {P:Program} {w0:World} {U0:UX} {nt:Nat} {s:AS}
theorem a8n {α:Type} {g:Operand} {ps:List Tmp} {assign body:Code} {gf:Nat} {caps:List CV} {encC:α->List CV} {xs:List α} {n1 q1 p1} (ob:Nat->AS) (sl:AS)
  (hgv:ev (look s) g=some ⟨0,.fn gf 0 caps,n1,q1,p1⟩) (hent:a9W P gf) (hG:b1z P gf caps ps.length encC xs)
  (hps:(ps.all fun p=>Nat.blt p nt&&Nat.blt p 100000)=true)
  (hsl:SubL s sl) (hslk:(kO sl).all (fun k=>Nat.blt k 100000)=true) (hob0:SubL s (ob 0))
  (hlend:∀ k,(ob k).all E6=true) (hleave:∀ k,(ob k).all (F9 (kO (ob k)))=true) (hkeys:∀ k,kO (ob k)=kO (ob 0))
  (hko:((kO (ob 0)).all fun k=>Nat.ble 300000 k)=true) (hnr:B0 s ((299999,[])::(299998,[])::E5 (kO (ob 0)) (kO (ob 0)) (kO (ob 0)))=true)
  (hnm:((E5 (kO (ob 0)) (kO (ob 0)) (kO (ob 0))).all fun q=>!Nat.beq q.1 0&&(!Nat.beq q.1 100000&&!Nat.beq q.1 1100000))=true)
  (hround:∀ k x,xs[k]?=some x->∀ (w:World) (U:UX),(∀ k' v,U.f k'=some v->n6 (kO (ob k)) k'=true)->AWp P w U nt assign (fun e s1=>e = .normal/\∀ w',a5f P w' U nt body (fun e s'=>e = .normal/\Wk w' U nt s' (ob (k+1))) s1) (a9E ps (encC x) sl++ob k)) :
  a2Q P w0 U0 nt (.rangeFunc g ps.toArray assign body) (fun e s' m=>e = .normal/\s'=ob xs.length++((299998,.ob (m+1) 1)::(299999,.ob m 0)::s)) s:=by
 rintro a w ⟨D0,hv0,h⟩;obtain ⟨ys,lb,e1,e2,e3,e4⟩:=T2.1 (A0 h (fun k _=>rfl) hgv);have hys:ys=[]:=List.eq_nil_of_length_eq_zero e2;subst hys;have hcaps:VReps (Us w0 U0 D0) w caps lb:=Q1 e4 (by simpa using e3);obtain ⟨vals,hvl,hvr,hGv⟩:=hG w lb (Us w0 U0 D0) hcaps;have hlt:∀ {V:World} {b:Nat},V.heap[b]?=w.heap[b]?->b<w.heap.size->b<V.heap.size:=fun {V b} h1 h2=>by
  rcases Nat.lt_or_ge b V.heap.size with h | h
  ·exact h
  ·rw [Array.getElem?_eq_none h,Array.getElem?_eq_getElem h2] at h1;cases h1
 obtain ⟨lp,hlp⟩:∃ lp:AS,lp=(299998,AV.ob (w.heap.size+1) 1)::(299999,AV.ob w.heap.size 0)::s:=⟨_,rfl⟩
 have hnE:=r6 hnr;have hko':∀ k,((kO (ob k)).all fun k=>Nat.ble 300000 k)=true:=fun k=>by rw [hkeys k];exact hko
 have hlk3:∀ {k av k'},look (ob k) k'=some av->300000<=k':=fun {k av k'} h1=>Nat.le_of_ble_eq_true (all_eq_true.1 (hko' k) k' (f0 h1));have hL:look lp 299998=some (.ob (w.heap.size+1) 1):=by rw [hlp,lS]
 have hDf:look lp 299999=some (.ob w.heap.size 0):=by rw [hlp,lN (by omega),lS]
 have hap:∀ {k k':Nat},k'<300000->look (ob k++lp) k'=look lp k':=fun {k k'} h1=>by
  rw [b6];cases e:look (ob k) k' with
  | none=>rfl
  | some av=>have:=hlk3 e;omega
 have hsubo:∀ k,Sub (ob k++lp) (ob k):=fun k k' av h1=>by rw [b6,h1];rfl
 let I:List Nat->World->Prop:=fun pre V=>∃ D hv,(∀ b o,D0 b o->D b o)/\KpX w.heap.size (fun b=>¬ ∃ o,Us w0 U0 D0 b o) w V/\SimG w0 U0 nt (ob pre.length++lp) a V D hv
 have hIp:∀ (pre:List Nat) (A:World) (r r':Loop),I pre A->A.heap[w.heap.size+1]?=some (.loop r)->I pre (A.putObj (w.heap.size+1) (.loop r')):=by
  rintro pre A r r' ⟨D,hv,hd,hK,hS⟩ hr;obtain ⟨h1,_⟩:=hS.putob (n:=299998) (o:=1) (o':=1) (by unfold RW;omega) (by rw [hap (by omega)];exact hL) (x := .loop r') (fun _ _ _ e=>by cases e) (fun e=>by cases e);refine ⟨D,hv,hd,fun b hb hx=>(World.putObj_heap_other (by omega)).trans (hK b hb hx),h1.congr fun k=>?_⟩;rw [d8];split
  ·rename_i e;subst e;rw [hap (by omega)];exact hL
  ·rfl
 have h0:∀ r:Loop,I [] ((w.alloc (.deferred (some []))).alloc (.loop r)):=fun r=>by
  have h1:=h.newob (n:=299999) (o:=0) (by unfold RW;omega) (hnE (299999,[]) (by simp)).nr (x := .deferred (some [])) (fun _ _ _ e=>by cases e) (fun _=>rfl);have hnr2:S0 ((299999,AV.ob w.heap.size 0)::s) 299998:=fun k av hk=>by
   rw [d8] at hk;split at hk
   ·rename_i e;subst e;cases hk;exact ⟨by show (0:Nat)≠299998;decide,by decide,by decide⟩
   ·exact (hnE (299998,[]) (by simp)).nr k av hk
  have h2:=h1.newob (n:=299998) (o:=1) (by unfold RW;omega) hnr2 (x := .loop r) (fun _ _ _ e=>by cases e) (fun e=>by cases e);rw [show (w.alloc (.deferred (some []))).heap.size=w.heap.size+1 by simp,<-hlp] at h2;refine ⟨D0,_,fun _ _ h=>h,fun b hb _=>(((Below.refl _ w).alloc (Nat.le_refl _) _).alloc (by simp) _).block b hb,h2.congr fun k=>?_⟩;show look (ob 0++lp) k=_;rw [b6];cases e:look (ob 0) k with
  | none=>rfl
  | some av =>
   have h3:=hlk3 e;have h4:=hob0.sub k av e;show some av=_;rw [hlp,lN (by omega),lN (by omega),h4]
 have hqn:∀ q∈E5 (kO (ob 0)) (kO (ob 0)) (kO (ob 0)),q.1≠0/\100000≠q.1/\100000+1000000≠q.1:=fun q hq=>by
  rw [all_eq_true] at hnm;have:=hnm q hq;simp only [Bool.and_eq_true,Bool.not_eq_true'] at this;obtain ⟨g1,g2,g3⟩:=this;exact ⟨(fun e=>by rw [e] at g1;cases g1),(fun e=>by rw [<-e] at g2;cases g2),(fun e=>by rw [<-e] at g3;cases g3)⟩
 have hnL:∀ q∈E5 (kO (ob 0)) (kO (ob 0)) (kO (ob 0)),NoRefE lp q:=fun q hq kk av hkk hex=>by
  have hq2:=hnE q (by simp only [mem_cons];exact .inr (.inr hq));obtain ⟨g1,g2,g3⟩:=hqn q hq;rw [hlp,d8] at hkk;split at hkk
  ·rename_i e2;injection hkk with hkk;rw [<-e2,<-hkk];exact ⟨fun e=>g1 e.symm,g2,g3⟩
  ·rw [d8] at hkk;split at hkk
   ·rename_i e2;injection hkk with hkk;rw [<-e2,<-hkk];exact ⟨fun e=>g1 e.symm,g2,g3⟩
   ·exact hq2 kk av hkk hex
 refine b7D (b4b (gf:=gf) (lb:=lb.toArray) (by rw [e1]) hent (Ok:=fun pre x=>x=pre.length/\x<xs.length) hGv (fun {A B C} h1 h2 b hb hx=>(h2 b hb hx).trans (h1 b hb hx)) (fun W l o' hl b hb hx=>World.putObj_heap_other (by omega)) (fun x=>by simp [hvl]) I (fun pre A B ⟨D,hv,hd,hK,hS⟩ hb=>⟨D,hv,hd,fun b hb2 hx=>(hb.block b (hlt (hK b hb2 hx) hb2)).trans (hK b hb2 hx),hS.grow' hb⟩) hIp h0
  (fun pre x W r0 hI hx hsz hr0=>?_) (fun ys W hys hI hD=>?_))
 ·obtain ⟨D,hv,hd,hK,hS⟩:=hI;obtain ⟨k,hk⟩:∃ k,k=pre.length:=⟨_,rfl⟩
  rw [<-hk] at hx hS;obtain ⟨hxk,hxl⟩:=hx;obtain ⟨y,hy⟩:∃ y,xs[k]?=some y:=⟨xs[k]'(by omega),getElem?_eq_getElem (by omega)⟩
  obtain ⟨V,v1,v2,v3,v4,v5,v6⟩:=hS.lend (hsubo k) (hlend k);have hvy:VReps (Us W V (fun _ _=>False)) W (encC y) (vals x):=by
   rw [hxk];refine (hvr k y hy).keep fun b o u hu hc=>v6 b o u (hu.imp id fun h=>⟨h.1,hd _ _ h.2⟩) ?_;have hb:b<w.heap.size:=World.block_lt_of_cell? w _ hc;rw [World.cell?_of_block (w:=w) (hK b hb (fun hn=>hn ⟨o,hu⟩))];exact hc
  have hnD:¬ V.x w.heap.size:=a7Z hS (hlend k) (hko' k) v3 (.inr rfl) (by rw [hap (by omega)];exact hDf);have hnLx:¬ V.x (w.heap.size+1):=a7Z hS (hlend k) (hko' k) v3 (.inl rfl) (by rw [hap (by omega)];exact hL);have hstay:∀ b,b<w.heap.size->¬ (¬ ∃ o,Us w0 U0 D0 b o)->¬ V.x b:=fun b hb hx hb2=>by
   obtain ⟨o,ho⟩:=Classical.not_not.1 hx;exact b2r hS (hlend k) v3 (ho.imp id fun h=>⟨h.1,hd _ _ h.2⟩) hb2
  have hlen2:(pre++[x]).length=k+1:=by rw [length_append,hk];rfl
  have hRC:=a3S (ps:=ps) (assign:=assign) (body:=body) (sl:=sl) (ob':=ob (k+1)) (cs:=encC y) (vs:=vals x) hS hL hr0 v2 v3 v4 v5 v6 hps hslk (fun d av h1=>by
   have hd5:d<100000:=by
    rw [all_eq_true] at hslk;exact bL (hslk d (f0 h1))
   rw [hap (by omega),hlp,lN (by omega),lN (by omega)];exact hsl.sub d av h1) (hlend k) (hleave (k+1)) (by rw [hkeys (k+1),hkeys k]) (hko' k) (by rw [hkeys k];exact hnL) hvy (hround k y hy W V v1)
  have hzp:(ps.toArray.zip (vals x).toArray).foldl (fun t (p,v)=>t.setIfInBounds p v) a.tmps=a4g ps (vals x) a.tmps:=a7u ps (vals x) a.tmps;rw [hzp];refine wpIn_mono hRC ?_;rintro e a' W' hp;cases e with
  | normal =>
   obtain ⟨p1,p2,p3⟩:=hp;refine ⟨p1,p2 _ (by omega) hnD,fun b hb hx=>p2 b (by omega) (hstay b hb hx),fun rb=>wpIn_mono (p3 rb) ?_⟩;rintro e a3 W3 ⟨rfl,q1,q2,q4,D2,hv2,q3,q5⟩;have hW':∀ b,b<W.heap.size->b≠w.heap.size+1->¬ V.x b->W3.heap[b]?=(W'.putObj (w.heap.size+1) (.loop rb)).heap[b]?:=fun b hb hne hx=>by
    rw [q2 b hb hx,World.putObj_heap_other hne,World.putObj_heap_other hne,p2 b hb hx]
   refine ⟨?_,hW' _ (by omega) (by omega) hnD,fun b hb hx=>hW' b (by omega) (by omega) (hstay b hb hx),D2,hv2,fun b o hb=>q3 b o (hd b o hb),fun b hb hx=>?_,?_⟩
   ·have hlt1:=(Array.getElem?_eq_some_iff.1 p1).1;rw [q1,World.putObj_heap_same hlt1]
   ·have h1:=hstay b hb hx;rw [q2 b (by omega) h1,World.putObj_heap_other (by omega)];exact hK b hb hx
   ·rw [hlen2];exact q5
  | ret=>exact hp.elim
  | exit _=>exact hp.elim
  | goto _=>exact hp.elim
  | panic _=>exact hp.elim
  | outgrown=>exact hp.elim
 ·subst hys;obtain ⟨D,hv,hd,hK,hS⟩:=hI;rw [List.length_range] at hS;refine ⟨_,a,w.heap.size,⟨rfl,rfl⟩,⟨D,hv,by rw [hlp] at hS;exact hS⟩,by show _=wdA a _;unfold wdA;rw [h.dfr],?_⟩;have:=hap (k:=xs.length) (k':=299999) (by omega);rw [hDf,hlp] at this;exact this
theorem b0H {α:Type} {g:Operand} {ps:List Tmp} {assign body:Code} {gf:Nat} {caps:List CV} {encC:α->List CV} {xs:List α} {n1 q1 p1} (ob:Nat->AS) (sl:AS)
  (hgv:ev (look s) g=some ⟨0,.fn gf 0 caps,n1,q1,p1⟩) (hent:a9W P gf) (hG:b1z P gf caps ps.length encC xs)
  (hps:(ps.all fun p=>Nat.blt p nt&&Nat.blt p 100000)=true)
  (hsl:SubL s sl) (hslk:(kO sl).all (fun k=>Nat.blt k 100000)=true) (hob0:SubL s (ob 0))
  (hlend:∀ k,(ob k).all E6=true) (hleave:∀ k,(ob k).all (F9 (kO (ob k)))=true) (hkeys:∀ k,kO (ob k)=kO (ob 0))
  (hko:((kO (ob 0)).all fun k=>Nat.ble 300000 k)=true) (hnr:B0 s ((299998,[])::E5 (kO (ob 0)) (kO (ob 0)) (kO (ob 0)))=true)
  (hnm:((E5 (kO (ob 0)) (kO (ob 0)) (kO (ob 0))).all fun q=>!Nat.beq q.1 0&&(!Nat.beq q.1 100000&&!Nat.beq q.1 1100000))=true)
  (hround:∀ k x,xs[k]?=some x->∀ (w:World) (U:UX),(∀ k' v,U.f k'=some v->n6 (kO (ob k)) k'=true)->AWp P w U nt assign (fun e s1=>e = .normal/\∀ w',a5f P w' U nt body (fun e s'=>e = .normal/\Wk w' U nt s' (ob (k+1))) s1) (a9E ps (encC x) sl++ob k)) :
  a5f P w0 U0 nt (.rangeFunc g ps.toArray assign body) (fun e s'=>e = .normal/\∃ m,s'=ob xs.length++((299998,.ob m 1)::s)) s:=by
 rintro M a w l₀ r₀ hMr hl₀ hnx ⟨D0,hv0,h⟩;have hw0:w.heap[l₀]?=some (.loop r₀):=(h.below.block l₀ (Array.getElem?_eq_some_iff.1 hl₀).1 hnx).trans hl₀;obtain ⟨ys,lb,e1,e2,e3,e4⟩:=T2.1 (A0 h (fun k _=>rfl) hgv);have hys:ys=[]:=List.eq_nil_of_length_eq_zero e2;subst hys;have hcaps:VReps (Us w0 U0 D0) w caps lb:=Q1 e4 (by simpa using e3);obtain ⟨vals,hvl,hvr,hGv⟩:=hG w lb (Us w0 U0 D0) hcaps;have hlt:∀ {V:World} {b:Nat},V.heap[b]?=w.heap[b]?->b<w.heap.size->b<V.heap.size:=fun {V b} h1 h2=>by
  rcases Nat.lt_or_ge b V.heap.size with h | h
  ·exact h
  ·rw [Array.getElem?_eq_none h,Array.getElem?_eq_getElem h2] at h1;cases h1
 obtain ⟨lp,hlp⟩:∃ lp:AS,lp=(299998,AV.ob w.heap.size 1)::s:=⟨_,rfl⟩
 have hnE:=r6 hnr;have hko':∀ k,((kO (ob k)).all fun k=>Nat.ble 300000 k)=true:=fun k=>by rw [hkeys k];exact hko
 have hlk3:∀ {k av k'},look (ob k) k'=some av->300000<=k':=fun {k av k'} h1=>Nat.le_of_ble_eq_true (all_eq_true.1 (hko' k) k' (f0 h1));have hL:look lp 299998=some (.ob w.heap.size 1):=by rw [hlp,lS]
 have hap:∀ {k k':Nat},k'<300000->look (ob k++lp) k'=look lp k':=fun {k k'} h1=>by
  rw [b6];cases e:look (ob k) k' with
  | none=>rfl
  | some av=>have:=hlk3 e;omega
 have hsubo:∀ k,Sub (ob k++lp) (ob k):=fun k k' av h1=>by rw [b6,h1];rfl
 let I:List Nat->World->Prop:=fun pre V=>∃ D hv,(∀ b o,D0 b o->D b o)/\KpX w.heap.size (fun b=>¬ ∃ o,Us w0 U0 D0 b o) w V/\SimG w0 U0 nt (ob pre.length++lp) a V D hv
 have hIp:∀ (pre:List Nat) (A:World) (r r':Loop),I pre A->A.heap[w.heap.size]?=some (.loop r)->I pre (A.putObj w.heap.size (.loop r')):=by
  rintro pre A r r' ⟨D,hv,hd,hK,hS⟩ hr;obtain ⟨h1,_⟩:=hS.putob (n:=299998) (o:=1) (o':=1) (by unfold RW;omega) (by rw [hap (by omega)];exact hL) (x := .loop r') (fun _ _ _ e=>by cases e) (fun e=>by cases e);refine ⟨D,hv,hd,fun b hb hx=>(World.putObj_heap_other (by omega)).trans (hK b hb hx),h1.congr fun k=>?_⟩;rw [d8];split
  ·rename_i e;subst e;rw [hap (by omega)];exact hL
  ·rfl
 have h0:∀ r:Loop,I [] (w.alloc (.loop r)):=fun r=>by
  have h2:=h.newob (n:=299998) (o:=1) (by unfold RW;omega) (hnE (299998,[]) (by simp)).nr (x := .loop r) (fun _ _ _ e=>by cases e) (fun e=>by cases e);rw [<-hlp] at h2;refine ⟨D0,_,fun _ _ h=>h,fun b hb _=>((Below.refl _ w).alloc (Nat.le_refl _) _).block b hb,h2.congr fun k=>?_⟩;show look (ob 0++lp) k=_;rw [b6];cases e:look (ob 0) k with
  | none=>rfl
  | some av =>
   have h3:=hlk3 e;have h4:=hob0.sub k av e;show some av=_;rw [hlp,lN (by omega),h4]
 have hqn:∀ q∈E5 (kO (ob 0)) (kO (ob 0)) (kO (ob 0)),q.1≠0/\100000≠q.1/\100000+1000000≠q.1:=fun q hq=>by
  rw [all_eq_true] at hnm;have:=hnm q hq;simp only [Bool.and_eq_true,Bool.not_eq_true'] at this;obtain ⟨g1,g2,g3⟩:=this;exact ⟨(fun e=>by rw [e] at g1;cases g1),(fun e=>by rw [<-e] at g2;cases g2),(fun e=>by rw [<-e] at g3;cases g3)⟩
 have hnL:∀ q∈E5 (kO (ob 0)) (kO (ob 0)) (kO (ob 0)),NoRefE lp q:=fun q hq kk av hkk hex=>by
  have hq2:=hnE q (by simp only [mem_cons];exact .inr hq);obtain ⟨g1,g2,g3⟩:=hqn q hq;rw [hlp,d8] at hkk;split at hkk
  ·rename_i e2;injection hkk with hkk;rw [<-e2,<-hkk];exact ⟨fun e=>g1 e.symm,g2,g3⟩
  ·exact hq2 kk av hkk hex
 have had:wdA a M.ds={ wdA a M.ds with defers:=M.ds }:=rfl;have hgo:(Code.rangeFunc g ps.toArray assign body).wpIn (B2 (some l₀)) 3 P (a7W M fun e a' w'=>∃ s',(e = .normal/\∃ m,s'=ob xs.length++((299998,.ob m 1)::s))/\Sim w0 U0 nt s' a' w') (wdA a M.ds) w:=by
  refine b4l (gf:=gf) (lb:=lb.toArray) hw0 (by rw [Z6,e1]) hent (Ok:=fun pre x=>x=pre.length/\x<xs.length) hGv (fun {A B C} h1 h2 b hb hx=>(h2 b hb hx).trans (h1 b hb hx)) (fun W l o' hl b hb hx=>World.putObj_heap_other (by omega)) (fun x=>by simp [hvl]) I (fun pre A B ⟨D,hv,hd,hK,hS⟩ hb=>⟨D,hv,hd,fun b hb2 hx=>(hb.block b (hlt (hK b hb2 hx) hb2)).trans (hK b hb2 hx),hS.grow' hb⟩) hIp h0
   (fun pre x W r0 hI hx hsz hr0=>?_) (fun ys W hys hI=>?_)
  ·obtain ⟨D,hv,hd,hK,hS⟩:=hI;obtain ⟨k,hk⟩:∃ k,k=pre.length:=⟨_,rfl⟩
   rw [<-hk] at hx hS;obtain ⟨hxk,hxl⟩:=hx;obtain ⟨y,hy⟩:∃ y,xs[k]?=some y:=⟨xs[k]'(by omega),getElem?_eq_getElem (by omega)⟩
   obtain ⟨V,v1,v2,v3,v4,v5,v6⟩:=hS.lend (hsubo k) (hlend k);have hvy:VReps (Us W V (fun _ _=>False)) W (encC y) (vals x):=by
    rw [hxk];refine (hvr k y hy).keep fun b o u hu hc=>v6 b o u (hu.imp id fun h=>⟨h.1,hd _ _ h.2⟩) ?_;have hb:b<w.heap.size:=World.block_lt_of_cell? w _ hc;rw [World.cell?_of_block (w:=w) (hK b hb (fun hn=>hn ⟨o,hu⟩))];exact hc
   have hnLx:¬ V.x w.heap.size:=a7Z hS (hlend k) (hko' k) v3 (.inl rfl) (by rw [hap (by omega)];exact hL);have hstay:∀ b,b<w.heap.size->¬ (¬ ∃ o,Us w0 U0 D0 b o)->¬ V.x b:=fun b hb hx hb2=>by
    obtain ⟨o,ho⟩:=Classical.not_not.1 hx;exact b2r hS (hlend k) v3 (ho.imp id fun h=>⟨h.1,hd _ _ h.2⟩) hb2
   have hlen2:(pre++[x]).length=k+1:=by rw [length_append,hk];rfl
   have hRC:=a3S (ps:=ps) (assign:=assign) (body:=body) (sl:=sl) (ob':=ob (k+1)) (cs:=encC y) (vs:=vals x) hS hL hr0 v2 v3 v4 v5 v6 hps hslk (fun d av h1=>by
    have hd5:d<100000:=by
     rw [all_eq_true] at hslk;exact bL (hslk d (f0 h1))
    rw [hap (by omega),hlp,lN (by omega)];exact hsl.sub d av h1) (hlend k) (hleave (k+1)) (by rw [hkeys (k+1),hkeys k]) (hko' k) (by rw [hkeys k];exact hnL) hvy (hround k y hy W V v1)
   have hzp:(ps.toArray.zip (vals x).toArray).foldl (fun t (p,v)=>t.setIfInBounds p v) (wdA a M.ds).tmps=a4g ps (vals x) a.tmps:=a7u ps (vals x) a.tmps;rw [hzp];refine wpIn_mono hRC ?_;rintro e a' W' hp;cases e with
   | normal =>
    obtain ⟨p1,p2,p3⟩:=hp;refine ⟨p1,fun b hb hx=>p2 b (by omega) (hstay b hb hx),fun rb=>wpIn_mono (p3 rb) ?_⟩;rintro e a3 W3 ⟨rfl,q1,q2,q4,D2,hv2,q3,q5⟩;have hW':∀ b,b<W.heap.size->b≠w.heap.size->¬ V.x b->W3.heap[b]?=(W'.putObj w.heap.size (.loop rb)).heap[b]?:=fun b hb hne hx=>by
     rw [q2 b hb hx,World.putObj_heap_other hne,World.putObj_heap_other hne,p2 b hb hx]
    refine ⟨?_,fun b hb hx=>hW' b (by omega) (by omega) (hstay b hb hx),D2,hv2,fun b o hb=>q3 b o (hd b o hb),fun b hb hx=>?_,?_⟩
    ·have hlt1:=(Array.getElem?_eq_some_iff.1 p1).1;rw [q1,World.putObj_heap_same hlt1]
    ·have h1:=hstay b hb hx;rw [q2 b (by omega) h1,World.putObj_heap_other (by omega)];exact hK b hb hx
    ·rw [hlen2];exact q5
   | ret=>exact hp.elim
   | exit _=>exact hp.elim
   | goto _=>exact hp.elim
   | panic _=>exact hp.elim
   | outgrown=>exact hp.elim
  ·subst hys;obtain ⟨D,hv,hd,hK,hS⟩:=hI;rw [List.length_range] at hS;exact ⟨a,rfl,_,⟨rfl,w.heap.size,rfl⟩,⟨D,hv,by rw [hlp] at hS;exact hS⟩⟩
 unfold WP;rw [hMr];exact fun b k cs h1 h2 _=>hgo b k cs h1 h2 (room_wide _)
end
section
variable {P:Program} {nt:Nat}
theorem b3v {f:FuncId} {fn:Func} {c:Code} {pre post:AS} {args:List AV} {r:AV} (hf:P.funcs[f]?=some fn) (hn:fn.ntmps=nt) (hb:fn.body=some c) (hl:Nat.ble args.length nt=true) (hnt:Nat.blt nt 100000=true) (hpre:(kO pre).all (Nat.ble 100000)=true) (hpost:(kO post).all (Nat.ble 100000)=true) {w:World} {U:UX}
  (h:a2Q P w U nt c (fun e s' g=>(e = .normal\/e = .ret)/\∃ s2,Wk w U nt s' ((299999,.ob g 0)::s2)/\b7h P s2 fn.results.toList=some r/\SubL s2 post/\look s2 299999=none) (G1 args 0++pre)) {hv:Nat->Value} {a0:Act} {vs:List Value} (hpS:SimG w U 0 pre a0 w (fun _ _=>False) hv) (hargs:AVReps (Us w U (fun _ _=>False)) w hv (a9 pre) args vs) :
  Calls P f vs.toArray w fun e w'=>∃ v D' hv' a',e = .returned v/\SimG w U 0 post a' w' D' hv'/\AVRep (Us w U D') w' hv' (a9 post) r v:=by
 have hlen:=hargs.len;refine callsIn_wide.1 (callsIn_of_wp_marks (F:=Fence.wide) (n:=1) hf hb trivial ?_ rfl);have hle:=Nat.le_of_ble_eq_true hl;have hnt:=bL hnt;have hlow:∀ {k av},look pre k=some av->100000<=k:=fun {k av} h1=>by
  rw [all_eq_true] at hpre;exact Nat.le_of_ble_eq_true (hpre k (f0 h1))
 have hlk:∀ {k},100000<=k->look (G1 args 0++pre) k=look pre k:=fun {k} h1=>by
  rw [b6];cases h2:look (G1 args 0) k with
  | none=>rfl
  | some av =>
   obtain ⟨_,h3⟩:=y0 h2;rw [Nat.sub_zero,List.getElem?_eq_none (by omega)] at h3;cases h3
 have hlive:a9 (G1 args 0++pre)=a9 pre:=by
  funext n;unfold a9 t9;apply propext;constructor
  ·rintro (h1 | ⟨e,h1,h2,h3⟩)
   ·exact .inl h1
   ·rw [hlk (by omega)] at h1;exact .inr ⟨e,h1,h2,h3⟩
  ·rintro (h1 | ⟨e,h1,h2,h3⟩)
   ·exact .inl h1
   ·exact .inr ⟨e,by rw [hlk (by omega)];exact h1,h2,h3⟩
 have hs:Sim w U nt (G1 args 0++pre) { tmps:=vs.toArray++Array.replicate (fn.ntmps-vs.toArray.size) undef,defers:=[] } w:=by
  refine ⟨fun _ _=>False,hv,hpS.below,rfl,by simp [hn];omega,fun d av h1 h2=>?_,fun n o av h1 h2 h3 h4=>?_,fun n o o' av av' h1 h2=>?_,fun k av h1 h2=>?_,fun k av g h1 h2=>?_,fun k k' av av' g h1 h2 h3 h4=>?_,hpS.fix,fun b o hd=>hd.elim⟩
  ·rw [b6] at h1;cases h3:look (G1 args 0) d with
   | none =>
    rw [h3] at h1;have:=hlow h1;omega
   | some av' =>
    rw [h3] at h1;cases h1;obtain ⟨_,h4⟩:=y0 h3;rw [Nat.sub_zero] at h4;obtain ⟨v,h6,h7⟩:=hargs.at h4;have hdl:d<vs.length:=by
     rcases Nat.lt_or_ge d vs.length with h | h
     ·exact h
     ·rw [List.getElem?_eq_none h] at h6;cases h6
    rw [hlive];refine ⟨v,?_,h7⟩;rw [Array.getElem?_append_left (by simpa using hdl)];simpa using h6
  ·rw [hlk (by unfold d9;omega)] at h1;rw [hlk (by omega)] at h3;rw [hlive];exact hpS.fld n o av h1 h2 h3 h4
  ·rw [hlk (by unfold d9;omega)] at h1 h2;exact hpS.fdis n o o' av av' h1 h2
  ·rw [hlk h2.1] at h1;rw [hlive];exact hpS.obj k av h1 h2
  ·rw [hlk h2.1] at h1;exact hpS.blk k av g h1 h2
  ·rw [hlk h3.1] at h1;rw [hlk h4.1] at h2;exact hpS.disj k k' av av' g h1 h2 h3 h4
 refine wpIn_mono (h _ w hs) ?_;rintro e a' w' ⟨s',a'',g,⟨h1,s2,g1,g2,g3,g4⟩,h3,rfl,g5⟩;obtain ⟨D',hv',h4⟩:=g1 a'' w' h3;obtain ⟨h5,h6,h7,y,h8,h9⟩:=h4.putob (n:=299999) (o:=0) (o':=1) (by unfold RW;omega) (lS _ _ _) (x := .deferred none) (fun _ _ _ e=>by cases e) (fun e=>by cases e);have h9:=h9 rfl;subst h9;have hS:=h5.sub (s':=s2) fun k av hk=>by
  have hne:(299999:Nat)≠k:=fun e=>by rw [<-e,g4] at hk;cases hk
  rw [lN hne,lN hne];exact hk
 obtain ⟨v,i1,i2⟩:=X0 hS g2;have hlow2:∀ {k av},look post k=some av->100000<=k:=fun {k av} h1=>by
  rw [all_eq_true] at hpost;exact Nat.le_of_ble_eq_true (hpost k (f0 h1))
 have hSp:=hS.sub g3.sub;have hS0:SimG w U 0 post ⟨#[],[]⟩ (w'.putObj g (.deferred none)) D' hv':=⟨hSp.below,rfl,rfl,fun d av h7 h8=>by have:=hlow2 h7;omega,hSp.fld,hSp.fdis,hSp.obj,hSp.blk,hSp.disj,hSp.fix,hSp.dlt⟩
 have hleave:LeavesInM Fence.wide 1 P fn a''.tmps (fun e w'=>∃ v D' hv' a',e = .returned v/\SimG w U 0 post a' w' D' hv'/\AVRep (Us w U D') w' hv' (a9 post) r v) [⟨.collected g,#[]⟩] .returning w':=
  ⟨(fun e=>by cases e),.inl ⟨g,_,rfl,run_takeDeferred h8,v,i1,v,D',hv',_,rfl,hS0,i2.move (fun _ _ _ h1 h2=>⟨h1,h2⟩) (fun _ h7=>h7.imp id fun ⟨e,he⟩=>⟨e,g3.sub _ _ he.1,he.2⟩) fun _=>rfl⟩⟩
 rcases h1 with rfl | rfl
 ·exact hleave
 ·exact hleave
theorem b5M {W : World} {f : FuncId} {fn : Func} {c : Code} {args : List CV} {r : CV} (hf : P.funcs[f]? = some fn) (hn : fn.ntmps = nt) (hname : (fn.name == "runtime.NumGoroutine") = false) (hb : fn.body = some c) (hl : Nat.ble (args.map AV.val).length nt = true) (hnt : Nat.blt nt 100000 = true)
  (h:∀ (w:World) (U:UX),Hw w w U->a2Q P w U nt c (fun e s' g=>(e = .normal\/e = .ret)/\∃ s2,Wk w U nt s' ((299999,.ob g 0)::s2)/\b7h P s2 fn.results.toList=some (.val r)/\SubL s2 []/\look s2 299999=none) (G1 (args.map AV.val) 0++[])):AFun P W f args (.val r):=by
 refine ⟨B8 hf hname (by rw [hb];rfl),.inl rfl,rfl,fun U w vs _ hv=>?_⟩;obtain ⟨V,hV⟩:∃ V:UX,V=⟨U,fun _=>False,fun _=>none,fun k v e=>by cases e⟩:=⟨_,rfl⟩
 have hus:∀ b o v,U b o->w.cell? ⟨b,o,none⟩=some v->Us w V (fun _ _=>False) b o/\w.cell? ⟨b,o,none⟩=some v:=fun b o v h1 h2=>⟨.inl ⟨World.block_lt_of_cell? w _ h2,by rw [hV];exact h1,by rw [hV];exact fun h=>h⟩,h2⟩
 have hS:SimG w V 0 [] ⟨#[],[]⟩ w (fun _ _=>False) (fun _ => .slice none 0 0):=⟨BelowX.refl _ _,rfl,rfl,(fun d av h=>by cases h),(fun n o av h=>by cases h),(fun n o o' av av' h=>by cases h),(fun k av h=>by cases h),(fun k av g h=>by cases h),(fun k k' av av' g h=>by cases h),(fun k v h=>by rw [hV] at h;cases h),fun b o h=>h.elim⟩
 have hargs:∀ (cs:List CV) (vs:List Value),VReps U w cs vs->AVReps (Us w V (fun _ _=>False)) w (fun _ => .slice none 0 0) (a9 []) (cs.map AV.val) vs:=by
  intro cs
  induction cs with
  | nil=>intro vs h;exact h
  | cons a cs ih =>
   rintro vs ⟨u,us,rfl,h1,h2⟩;exact ⟨u,us,rfl,l7 (h1.keep hus),ih us h2⟩
 refine (b3v (post:=[]) hf hn hb hl hnt rfl rfl (h w V ⟨fun _=>by rw [hV],fun b hb=>by rw [hV] at hb;exact hb⟩) hS (hargs args vs hv)).mono ?_;rintro e w' ⟨v,D',hv',a',rfl,h1,h2⟩;refine ⟨v,rfl,?_,h1.below.below fun k hk=>by rw [hV] at hk;exact hk⟩;have h3:VRep (Us w V D') w' r v:=by
  have:VRep (Us w V D') w' r v/\Tk hv' (a9 []) (.val r) v.cells.toList:=h2;exact this.1
 show VRep _ w' r v;refine h3.keep fun b o u hu hc=>⟨?_,hc⟩
 rcases hu with hu | hu
 ·left;have:=hu.2.1;rw [hV] at this;exact this
 ·exact .inr hu.1
end
end
theorem S4 (W:World) (t:Tm):AFun Tryz.prog W 85 [t.cw] (.val (.b (decide (t.f<0)))):=by
 refine b9 (rs:=[.b (decide (t.f<0))]) Tryz.func85 Tryz.ntmps85 rfl rfl rfl rfl ?_;intro w U hW;refine aS (aR ?_);refine nc zd (nc ze ?_);refine aS (aR ?_);refine nc zg (nc zh (nc zi (nc ze ?_)));exact aT ⟨.inr rfl,rfl⟩
theorem V8 (W:World) (t:Tm) (h1 : -9223372036854775808<=t.f) (h2:t.f<0):AFun Tryz.prog W 87 [t.cw] (.val (.i (-1-t.f))):=by
 refine b9 (rs:=[.i (-1-t.f)]) Tryz.func87 Tryz.ntmps87 rfl rfl rfl rfl ?_;intro w U hW;refine aS (aR ?_);refine nc zd (nc ze ?_);refine aS (aR ?_);refine nc zg (nc zh (nc zj (nc ze ?_)));exact aT ⟨.inr rfl,rfl⟩
theorem I1 (W:World) (v:Int) (h1:0<=v) (h2:v<=9223372036854775807):AFun Tryz.prog W 61 [.i v] (.val (l9 v).cw):=by
 refine b9 (rs:=[(l9 v).cw]) Tryz.func61 Tryz.ntmps61 rfl rfl rfl rfl ?_;intro w U hW;refine aS (aR ?_);refine nc zk ?_;refine aS (aR ?_);refine nc zl (nc zj (nc zn (nc zo ?_)));exact aT ⟨.inr rfl,rfl⟩
theorem b5E (W:World) (l:List Bd) (v:Int) (hl:l.length<=90000000000):AFun Tryz.prog W 137 [.lst (l.map Bd.cv),.i v] (.tup [((b7 l v).getD ⟨0,[]⟩).cw,.b (b7 l v).isSome]):=by
 have hsz:=Bd.size_all l;refine b9 (rs:=[((b7 l v).getD ⟨0,[]⟩).cw,.b (b7 l v).isSome]) Tryz.func137 Tryz.ntmps137 rfl rfl rfl rfl ?_;intro w U hW;refine aS (aR ?_);refine nc zk (nc ze ?_);refine aS (aS (aR ?_));refine nc zl (nc zp (nc zl ?_));refine aB (y9 l.length (fun k=>∀ i c,i<k->l[i]?=some c->c.v≠v) (fun k=>[(1,.val (.i v)),(4,.bp 4 0 []),(100004,⟨5,.row [.i 0,.lst []],1,0,[1]⟩),(8,.val (.lst (l.map Bd.cv))),(9,.val (.i (l.map Bd.cv).length)),(10,.val (.i k))]) (a7 ⟨rfl,rfl,rfl,rfl,rfl,rfl,trivial⟩) (by omega) ?_);intro k hk hI;refine aS (aR ?_);refine nc zi ?_;refine aS (aC rfl (fun hc=>?_) (fun hc=>?_))
 ·simp only [length_map,decide_eq_true_eq] at hc;have hkl:k<l.length:=by omega
  obtain ⟨b,hb⟩:∃ t,l[k]?=some t:=⟨l[k],getElem?_eq_getElem hkl⟩
  have hb':=Bd.map_at hb;refine aK ?_;refine aS (aB (aS (aR ?_)));refine nc (zq (H:=by assumption) (hz:=by first | assumption | exact sZ rfl | exact Tm.size_all _ | exact Bd.size_all _ | exact q9 _ | exact bys_size _ | exact Lt.size_all _)) (nc zr (nc zk (nc zo ?_)));refine aS (aR ?_);refine nc zg (nc zh (nc zl (nc zt ?_)));refine aC rfl (fun hc2=>?_) (fun hc2=>?_)
  ·simp only [decide_eq_true_eq] at hc2;have hf:=b6s hb hc2 hI;rw [hf];refine aS (aR ?_);refine nc zg (nc zh (nc zo (nc ze ?_)));exact aT (And.intro (.inr rfl) rfl)
  ·simp only [decide_eq_false_iff_not] at hc2;refine aK ?_;refine aR ?_;refine nc zu (nc zl ?_);refine ⟨hkl,fun i c hi hcc=>?_,a7 ⟨rfl,rfl,rfl,rfl,rfl,rfl,trivial⟩⟩;rcases Nat.lt_or_ge i k with h | h
   ·exact hI i c h hcc
   ·obtain rfl:i=k:=by omega
    rw [hb] at hcc;cases hcc;exact hc2
 ·simp only [length_map,decide_eq_false_iff_not] at hc;have hkl:k=l.length:=by omega
  have hf:b7 l v=none:=B1 fun b hb=>by
   obtain ⟨i,hi,he⟩:=List.mem_iff_getElem.1 hb;exact hI i b (by omega) (by rw [getElem?_eq_getElem hi,he])
  rw [hf];refine aE ?_;refine aS (aR ?_);refine nc zn (nc zo (nc ze ?_));exact aT (And.intro (.inr rfl) rfl)
theorem b3t (W:World) (l:List Bd) (v:Int) (hl:l.length<=90000000000) (h1:0<=v) (h2:v<=9223372036854775807):AFun Tryz.prog W 110 [.lst (l.map Bd.cv),.i v] (.val (c9 l v).cw):=by
 refine b9 (rs:=[(c9 l v).cw]) Tryz.func110 Tryz.ntmps110 rfl rfl rfl rfl ?_;intro w U hW;refine aS (aR ?_);refine nc zk ?_;refine aS (aS (aR ?_));refine nc zl (nc zl (nc (zw (z:=b5E w l v hl)) (nc zl (nc zx (nc zx (nc zk (nc zo (nc ze ?_))))))));refine aS (aR ?_);refine nc zl ?_;unfold c9;refine aC rfl (fun hc=>?_) (fun hc=>?_)
 ·obtain ⟨t,ht⟩:=Option.isSome_iff_exists.1 hc;rw [ht];refine aS (aR ?_);refine nc zy (nc zo ?_);exact aT (And.intro (.inr rfl) rfl)
 ·have ht:b7 l v=none:=by simpa using hc
  rw [ht];refine aK ?_;refine aS (aR ?_);refine nc zl (nc (zw (z:=I1 w v h1 h2)) (nc zo ?_));exact aT (And.intro (.inr rfl) rfl)
theorem b0M (W:World) (l:List Bd) (hl:l.length<=64):AFun Tryz.prog W 75 [.lst (l.map Bd.cv)] (.val (.fn 110 1 [.lst (l.map Bd.cv)])):=by
 refine b9 (rs:=[.fn 110 1 [.lst (l.map Bd.cv)]]) Tryz.func75 Tryz.ntmps75 rfl rfl rfl rfl ?_;intro w U hW;refine aS (aR ?_);refine nc ze ?_;refine aS (aS (aR ?_));refine nc zl (nc zp (nc zA ?_));refine aC rfl (fun hc=>?_) (fun hc=>?_)
 ·refine aS (aR ?_);refine nc zl (nc zB (nc ze ?_));exact aT (And.intro (.inr rfl) rfl)
 ·simp only [length_map,decide_eq_false_iff_not] at hc;omega
theorem a2D (W:World) (fc:CV) (img:Int->Tm) (hI:∀ v,0<=v->v<=9223372036854775807->AFunV Tryz.prog W fc [.i v] (.val (img v).cw)/\(img v).rng/\(img v).size<=90000000000):∀ t:Tm,t.rng->t.ok->AFun Tryz.prog W 59 [t.cw,fc] (.val (a8 img t).cw):=by
 intro t
 induction t using Tm.ind with
 | h f l ih =>
 intro hr hok;have hok:=(Tm.ok_iff _).1 hok;have hr:=(Tm.rng_iff _).1 hr;simp only at hok hr;have hsz:=Tm.size_all l;refine b9 (rs:=[(a8 img ⟨f,l⟩).cw]) Tryz.func59 Tryz.ntmps59 rfl rfl rfl rfl ?_;intro w U hW;refine aS (aR ?_);refine nc zd (nc zk ?_);refine aS (aS (aR ?_));refine nc zy ?_;refine nc (zw (z:=S4 w ⟨f,l⟩)) ?_;refine aC rfl (fun hc=>?_) (fun hc=>?_)
 ·have hf:f<0:=by simpa using hc
  rw [i8 hf];obtain ⟨i1,i2,i3⟩:=hI (-1-f) (by omega) (by omega);refine aS (aR ?_);refine nc zl (nc zy ?_);refine nc (zw (z:=V8 w ⟨f,l⟩ hr.1.1 hf)) ?_;refine nc (zC (E:=i1.up hW)) (nc (zw (z:=a1R w i2 i3)) (nc zo ?_));exact aT (And.intro (.inr rfl) rfl)
 ·have hf:¬ f<0:=by simpa using hc
  rw [b8 hf];refine aK ?_;refine aS (aR ?_);refine nc ze ?_;refine aS (aS (aR ?_));refine nc zg (nc zh (nc zp (nc zl ?_)));refine aB (p6 l.length (fun k=>[(1,.val fc),(2,.bp 2 0 []),(100002,.bx (Tm.cw ⟨f,l⟩)),(4,.bp 4 0 []),(100004,⟨5,.row [.i 0,.lst []],1,0,[1]⟩),(5,.own (.lst ((l.take k).map fun t=>(a8 img t).cv)) 200027),(200027,.tok 42 2),(16,.val (.lst (l.map Tm.cv))),(17,.val (.i (l.map Tm.cv).length)),(18,.val (.i k))])
   ((K5 5 200027 42 2 rfl rfl rfl rfl rfl rfl rfl).trans (a7 ⟨rfl,rfl,rfl,rfl,rfl,rfl,rfl,rfl,rfl,rfl,trivial⟩)) ?_)
  intro k hk;refine aS (aR ?_);refine nc zi ?_;refine aS (aC rfl (fun hc=>?_) (fun hc=>?_))
  ·have hkl:k<l.length:=by
    simp only [length_map,decide_eq_true_eq] at hc;omega
   obtain ⟨t,ht⟩:∃ t,l[k]?=some t:=⟨l[k],getElem?_eq_getElem hkl⟩
   have ht':=Tm.map_at ht;have htm:=mem_of_getElem? ht;have hsz2:∀ c∈(l.take k).map fun t=>(a8 img t).cv,c.size=2:=by
    intro c hc;obtain ⟨t,_,rfl⟩:=mem_map.1 hc;exact Tm.size_cv _
   refine aK ?_;refine aS (aB (aS (aR ?_)));refine nc (zq (H:=by assumption) (hz:=by first | assumption | exact sZ rfl | exact Tm.size_all _ | exact Bd.size_all _ | exact q9 _ | exact bys_size _ | exact Lt.size_all _)) (nc zr (nc zk (nc zo ?_)));refine aR ?_;refine nc zl (nc zy (nc zl (nc (zw (z:=(ih t htm (hr.2 t htm) (hok.2 t htm)).up hW)) (nc zD (nc zE (nc ze ?_))))));refine aR ?_;refine nc zu (nc zl ?_);refine ⟨hkl,Wk.trans (a7 (s':=[(1,.val fc),(2,.bp 2 0 []),(100002,.bx (Tm.cw ⟨f,l⟩)),(4,.bp 4 0 []),(100004,⟨5,.row [.i 0,.lst []],1,0,[1]⟩),(5,.own (.lst ((l.take (k+1)).map fun t=>(a8 img t).cv)) 300027),(300027,.tok 42 2),(16,.val (.lst (l.map Tm.cv))),(17,.val (.i (l.map Tm.cv).length)),(18,.val (.i ((k+1:Nat):Int)))]) ⟨rfl,rfl,rfl,rfl,rfl,?_,rfl,rfl,rfl,rfl,trivial⟩) (A3 300027 200027 rfl rfl rfl rfl)⟩;rw [List.take_add_one,ht,map_append];simp only [Option.toList_some,map_cons,map_nil,Tm.cv_eq];rfl
  ·have hkl:k=l.length:=by
    simp only [length_map,decide_eq_false_iff_not] at hc;omega
   subst hkl;rw [take_length];refine aE ?_;refine aS (aR ?_);refine nc zg (nc zh (nc zl (nc zn (nc zo ?_))));refine aT (And.intro (.inr rfl) ?_);unfold Tm.cw;rw [map_map];rfl
theorem X4 {v:Int} (h1:0<=v) (h2:v<=9223372036854775807):(l9 v).rng:=(Tm.rng_iff _).2 ⟨by show _ <= -1-v /\ -1-v<=_;omega,fun s hs=>by cases hs⟩
theorem K6 (v:Int):(l9 v).size=1:=by
 rw [Tm.size_eq];have:(l9 v).ps=[]:=by unfold Tm.ps l9;simp
 rw [this];rfl
theorem I7:∀ {l:List Bd} {v:Int} {t:Tm},b7 l v=some t->∃ b∈l,b.t=t/\b.v=v
 | [],v,t,h=>by cases h
 | b::l,v,t,h=>by
  rw [b7] at h;split at h
  ·rename_i e;cases h;exact ⟨b,by simp,rfl,e⟩
  ·obtain ⟨c,h1,h2⟩:=I7 h;exact ⟨c,mem_cons_of_mem _ h1,h2⟩
def bdsOk (l:List Bd):Prop:=∀ b∈l,b.t.rng/\b.t.size<=90000000000
theorem a1H {l:List Bd} (h:bdsOk l) {v:Int} (h1:0<=v) (h2:v<=9223372036854775807):(c9 l v).rng/\(c9 l v).size<=90000000000:=by
 unfold c9;cases hf:b7 l v with
 | none=>exact ⟨X4 h1 h2,by show (l9 v).size<=_;rw [K6];omega⟩
 | some t =>
  obtain ⟨b,hb,e,_⟩:=I7 hf;show t.rng/\t.size<=_;rw [<-e];exact h b hb
theorem b3F (W:World) (l:List Bd) (t:Tm) (hl:l.length<=64) (hb:bdsOk l) (hr:t.rng) (hok:t.ok):AFun Tryz.prog W 50 [.lst (l.map Bd.cv),t.cw] (.val (a8 (c9 l) t).cw):=by
 refine b9 (rs:=[(a8 (c9 l) t).cw]) Tryz.func50 Tryz.ntmps50 rfl rfl rfl rfl ?_;intro w U hW;refine aS (aR ?_);refine nc zd (nc zk ?_);refine aS (aD (by kernel_rfl) (by kernel_rfl) ?_);refine nc zy (nc zl (nc (zw (z:=b0M w l hl)) ?_));refine nc (zw (z:=a2D w _ (c9 l) (fun v h1 h2=>⟨⟨_,_,_,rfl,b3t w l v (by omega) h1 h2⟩,a1H hb h1 h2⟩) t hr hok)) ?_;refine nc zo ?_;refine ⟨by kernel_rfl,?_⟩;exact aT (And.intro (.inr rfl) rfl)
def upV (by_ v:Int):Int:=v+min by_ (9223372036854775807-v)
theorem b6x (W:World) (v by_:Int) (h1:0<=v) (h2:v<=9223372036854775807) (h3:0<=by_):AFun Tryz.prog W 60 [.i v,.ptr (.i by_)] (.val (l9 (upV by_ v)).cw):=by
 refine b9 (rs:=[(l9 (upV by_ v)).cw]) Tryz.func60 Tryz.ntmps60 rfl rfl rfl rfl ?_;intro w U hW;refine aS (aR ?_);refine nc zk ?_;refine aS (aR ?_);refine nc zl (nc zF (nc zl (nc zj (nc zG (nc zu (nc (zw (z:=I1 w (v+min by_ (9223372036854775807-v)) (by omega) (by omega))) (nc zo ?_)))))));exact aT (And.intro (.inr rfl) rfl)
theorem a8a {by_ v:Int} (h1:0<=v) (h2:v<=9223372036854775807) (h3:0<=by_):0<=upV by_ v/\upV by_ v<=9223372036854775807:=by unfold upV;omega
theorem b0l (W:World) (t:Tm) (by_:Int) (hr:t.rng) (hok:t.ok):AFun Tryz.prog W 40 [t.cw,.i by_] (.val (a8 (fun v=>l9 (upV (max by_ 0) v)) t).cw):=by
 refine b9 (rs:=[(a8 (fun v=>l9 (upV (max by_ 0) v)) t).cw]) Tryz.func40 Tryz.ntmps40 rfl rfl rfl rfl ?_;intro w U hW;refine aS (aR ?_);refine nc zd (nc zd (nc zk ?_));refine aS (aR ?_);refine nc zy (nc zH (nc zo ?_));refine AWp.wk (x9 3 rfl rfl rfl (s':=[(2,.bp 2 0 []),(100002,.bx t.cw),(4,.bp 4 0 []),(100004,⟨5,.row [.i 0,.lst []],1,0,[1]⟩)]) ⟨rfl,rfl,rfl,rfl,trivial⟩ rfl rfl rfl) ?_;refine aS (aR ?_);refine nc zy (nc zB ?_);refine nc (zw (z:=a2D w _ (fun v=>l9 (upV (max by_ 0) v)) (fun v h1 h2=>⟨⟨_,_,_,rfl,b6x w v (max by_ 0) h1 h2 (by omega)⟩,X4 (a8a h1 h2 (by omega)).1 (a8a h1 h2 (by omega)).2,by rw [K6];omega⟩) t hr hok)) ?_;refine nc zo ?_;exact aT (And.intro (.inr rfl) rfl)
def vsL (l:List Tm):List Int:=(l.filter fun s=>decide (s.f<0)).map fun s => -1-s.f
def Tm.vs (t:Tm):List Int:=vsL t.flat
theorem a3a (l m:List Tm):vsL (l++m)=vsL l++vsL m:=by simp [vsL]
theorem V7 (l:List Tm):vsL (l.flatMap Tm.flat)=l.flatMap Tm.vs:=by
 induction l with
 | nil=>rfl
 | cons t l ih=>rw [flatMap_cons,a3a,ih,flatMap_cons];rfl
theorem Tm.vs_var {t:Tm} (h:t.f<0):t.vs=[-1-t.f]:=by
 unfold Tm.vs;rw [Tm.flat_eq,Tm.ps_of_var h];simp [vsL,h]
theorem Tm.vs_sym {t:Tm} (h:¬ t.f<0):t.vs=t.l.flatMap Tm.vs:=by
 unfold Tm.vs;rw [Tm.flat_eq,Tm.ps_of_sym (by omega),show t::t.l.flatMap Tm.flat=[t]++t.l.flatMap Tm.flat from rfl,a3a,V7];simp [vsL,h];rfl
theorem Tm.strip_vs (t:Tm):t.strip.vs=t.vs:=by
 induction t using Tm.indp with
 | h t ih =>
  by_cases h:t.f<0
  ·rw [Tm.vs_var h,Tm.vs_var (by rw [Tm.strip_f];exact h),Tm.strip_f]
  ·rw [Tm.vs_sym h,Tm.vs_sym (by rw [Tm.strip_f];exact h),Tm.strip_l];rw [Tm.ps_of_sym (by omega)] at ih |-;rw [flatMap_def,flatMap_def,map_map];congr 1;exact map_congr_left fun s hs=>ih s hs
theorem Z5 (img:Int->Tm) (t:Tm):(a8 img t).vs=t.vs.flatMap fun v=>(img v).vs:=by
 induction t using Tm.indp with
 | h t ih =>
  by_cases h:t.f<0
  ·rw [i8 h,Tm.vs_var h,Tm.strip_vs];simp
  ·rw [b8 h,Tm.vs_sym h,Tm.vs_sym (t:=⟨t.f,_⟩) h];rw [Tm.ps_of_sym (by omega)] at ih;simp only;rw [List.flatMap_assoc,flatMap_def,map_map,flatMap_def];congr 1;exact map_congr_left fun s hs=>ih s hs
theorem Tm.size_sym {t:Tm} (h:¬ t.f<0):t.size=1+(t.l.map Tm.size).sum:=by
 rw [Tm.size_eq,Tm.ps_of_sym (by omega),List.length_flatMap];rfl
theorem Tm.size_var {t:Tm} (h:t.f<0):t.size=1:=by
 rw [Tm.size_eq,Tm.ps_of_var h];rfl
theorem a4W {l:List Tm} {f g:Tm->Int} (h:∀ s∈l,f s=g s):(l.map f).sum=(l.map g).sum:=by
 rw [map_congr_left h]
theorem a2K (l:List Tm) (g:Int->Int):((l.flatMap Tm.vs).map g).sum=(l.map fun s=>(s.vs.map g).sum).sum:=by
 induction l with
 | nil=>rfl
 | cons t l ih=>rw [flatMap_cons,map_append,List.sum_append_int,ih,map_cons,sum_cons]
theorem a9I (l:List Nat):((l.sum:Nat):Int)=(l.map fun n:Nat=>(n:Int)).sum:=by
 induction l with
 | nil=>rfl
 | cons n l ih=>rw [sum_cons,map_cons,sum_cons,<-ih];omega
theorem b8F (l:List Tm) (f g:Tm->Int):(l.map fun s=>f s+g s).sum=(l.map f).sum+(l.map g).sum:=by
 induction l with
 | nil=>rfl
 | cons t l ih=>simp only [map_cons,sum_cons,ih];omega
theorem a1Q (img:Int->Tm) (t:Tm):((a8 img t).size:Int)=t.size+(t.vs.map fun v=>((img v).size:Int)-1).sum:=by
 induction t using Tm.indp with
 | h t ih =>
  by_cases h:t.f<0
  ·rw [i8 h,Tm.vs_var h,Tm.strip_size,Tm.size_var h];simp;omega
  ·rw [b8 h,Tm.vs_sym h,Tm.size_sym h,Tm.size_sym (t:=⟨t.f,_⟩) h,a2K];rw [Tm.ps_of_sym (by omega)] at ih;simp only;rw [Int.natCast_add,Int.natCast_add,a9I,a9I,map_map,map_map,map_map,Int.add_assoc,<-b8F];congr 1;exact a4W fun s hs=>ih s hs
def c1M (acc:List Int) (v:Int):List Int:=if v∈acc then acc else acc++[v]
def nub (l:List Int):List Int:=l.foldl c1M []
theorem a1u (l:List Int) (v:Int):nub (l++[v])=if v∈nub l then nub l else nub l++[v]:=by
 unfold nub;rw [List.foldl_append];rfl
theorem a4v {α:Type} {Q:List α->Prop} (h0:Q []) (h1:∀ l x,Q l->Q (l++[x])):∀ l,Q l:=by
 intro l;have:∀ n (l:List α),l.length=n->Q l:=by
  intro n
  induction n with
  | zero=>intro l hl;rw [List.eq_nil_of_length_eq_zero hl];exact h0
  | succ n ih =>
   intro l hl;have hne:l≠[]:=fun e=>by rw [e] at hl;simp at hl
   rw [<-List.dropLast_concat_getLast hne];exact h1 _ _ (ih _ (by simp [hl]))
 exact this _ l rfl
theorem a6T (l:List Int):∀ v,v∈nub l↔v∈l:=by
 induction l using a4v with
 | h0=>intro v;rfl
 | h1 l x ih =>
  intro v;rw [a1u,mem_append,<-ih];split
  ·rename_i hx;simp only [mem_singleton];exact ⟨fun h => .inl h,fun h=>h.elim id fun e=>e▸hx⟩
  ·rw [mem_append]
theorem b8R (g:Int->Int) (l:List Int) (hg:∀ x∈l,∀ y∈l,g x=g y->x=y):nub (l.map g)=(nub l).map g:=by
 induction l using a4v with
 | h0=>rfl
 | h1 l x ih =>
  have ih:=ih (fun a ha b hb=>hg a (List.mem_append_left _ ha) b (List.mem_append_left _ hb));rw [map_append,map_cons,map_nil,a1u,a1u,ih];by_cases hx:x∈nub l
  ·rw [if_pos hx,if_pos (List.mem_map_of_mem hx)]
  ·rw [if_neg hx,if_neg]
   ·simp
   ·intro h;obtain ⟨y,hy,e⟩:=mem_map.1 h;have:=hg y (List.mem_append_left _ ((a6T l y).1 hy)) x (by simp) e;exact hx (this▸hy)
theorem b3e (l:List Tm):H7 l=nub (vsL l):=by
 have:∀ (l:List Tm) (acc:List Int),l.foldl a6t acc=(vsL l).foldl c1M acc:=by
  intro l
  induction l with
  | nil=>intro acc;rfl
  | cons t l ih =>
   intro acc;rw [List.foldl_cons,ih];by_cases h:t.f<0
   ·have:vsL (t::l)=(-1-t.f)::vsL l:=by simp [vsL,h]
    rw [this,List.foldl_cons];congr 1;unfold a6t c1M;rw [if_pos h]
   ·have:vsL (t::l)=vsL l:=by simp [vsL,h]
    rw [this];congr 1;unfold a6t;rw [if_neg h]
 exact this l []
theorem n9 (t:Tm):∀ v∈t.vs,0<=v:=by
 intro v hv;obtain ⟨s,hs,rfl⟩:=mem_map.1 hv;have:=(mem_filter.1 hs).2;simp at this;omega
theorem c0x {t:Tm} {B:Int} (h:∀ s∈t.flat,-B<=s.f):∀ v∈t.vs,v<B:=by
 intro v hv;obtain ⟨s,hs,rfl⟩:=mem_map.1 hv;have:=h s (mem_filter.1 hs).1;omega
def Tm.sm:Tm->Prop
 | ⟨f,l⟩=>(-1000<=f/\f<=1000)/\∀ t∈l,Tm.sm t
theorem Tm.sm_iff (t:Tm):t.sm↔(-1000<=t.f/\t.f<=1000)/\∀ s∈t.l,s.sm:=by cases t;rw [Tm.sm]
theorem b5F (t:Tm):∀ most deep,0<=n8 t most deep->t.sm:=by
 induction t using Tm.ind with
 | h f l ih =>
  intro most deep h;rw [a1U] at h;split at h
  ·omega
  ·rename_i hc;refine (Tm.sm_iff _).2 ⟨⟨by show -1000<=f;omega,by show f<=1000;omega⟩,?_⟩;have:∀ (l:List Tm) (m d:Int),(∀ t∈l,∀ most deep,0<=n8 t most deep->t.sm)->0<=H5 l m d->∀ t∈l,t.sm:=by
    intro l
    induction l with
    | nil=>intro m d _ _ t ht;cases ht
    | cons y ys ih2 =>
     intro m d hl h t ht;rw [N5] at h;split at h
     ·omega
     ·have hy:0<=n8 y m d:=by
       rcases Int.lt_or_le (n8 y m d) 0 with h1 | h1
       ·rw [a3s ys d h1] at h;omega
       ·exact h1
      rcases mem_cons.1 ht with rfl | ht
      ·exact hl t (by simp) m d hy
      ·exact ih2 (n8 y m d) d (fun s hs=>hl s (mem_cons_of_mem _ hs)) h t ht
   exact this l _ _ ih h
theorem Tm.sm_rng {t:Tm} (h:t.sm):t.rng:=by
 induction t using Tm.ind with
 | h f l ih =>
  obtain ⟨h1,h2⟩:=(Tm.sm_iff _).1 h;exact (Tm.rng_iff _).2 ⟨by simp only at h1 |-;omega,fun s hs=>ih s hs (h2 s hs)⟩
theorem Tm.wt_ok {t:Tm} (h:t.wt<=1000000):t.ok:=by
 induction t using Tm.ind with
 | h f l ih =>
  rw [Tm.wt_eq] at h;simp only at h;have:=Tm.wts_len l;exact (Tm.ok_iff _).2 ⟨by simp only;omega,fun s hs=>ih s hs (by have:s.wt<=Tm.wts l:=Tm.wts_mem hs;omega)⟩
theorem Tm.sm_flat {t:Tm} (h:t.sm):∀ s∈t.flat,-1000<=s.f/\s.f<=1000:=by
 induction t using Tm.indp with
 | h t ih =>
  intro s hs;rw [Tm.flat_eq] at hs;rcases mem_cons.1 hs with rfl | hs
  ·exact ((Tm.sm_iff _).1 h).1
  ·obtain ⟨u,hu,hs⟩:=mem_flatMap.1 hs;exact ih u hu (((Tm.sm_iff _).1 h).2 u (Tm.ps_mem hu).1) s hs
theorem Tm.strip_rng {t:Tm} (h:t.rng):t.strip.rng:=by
 induction t using Tm.indp with
 | h t ih =>
  obtain ⟨h1,h2⟩:=(Tm.rng_iff _).1 h;refine (Tm.rng_iff _).2 ⟨by rw [Tm.strip_f];exact h1,fun s hs=>?_⟩;rw [Tm.strip_l] at hs;obtain ⟨u,hu,rfl⟩:=mem_map.1 hs;exact ih u hu (h2 u (Tm.ps_mem hu).1)
theorem Tm.strip_ok {t:Tm} (h:t.ok):t.strip.ok:=by
 induction t using Tm.indp with
 | h t ih =>
  obtain ⟨h1,h2⟩:=(Tm.ok_iff _).1 h;refine (Tm.ok_iff _).2 ⟨?_,fun s hs=>?_⟩
  ·rw [Tm.strip_l,length_map];unfold Tm.ps;split
   ·simp
   ·exact h1
  ·rw [Tm.strip_l] at hs;obtain ⟨u,hu,rfl⟩:=mem_map.1 hs;exact ih u hu (h2 u (Tm.ps_mem hu).1)
theorem a9V {f:Int} (h1 : -9223372036854775808<=f) (h2:f<=9223372036854775807):(Tm.mk f []).rng:=(Tm.rng_iff _).2 ⟨⟨h1,h2⟩,fun s hs=>by cases hs⟩
theorem b9N (f:Int):(Tm.mk f []).ok:=(Tm.ok_iff _).2 ⟨by show 0<=_;omega,fun s hs=>by cases hs⟩
theorem a1q {img:Int->Tm} {t:Tm} (h:t.rng) (hi:∀ v,0<=v->v<=9223372036854775807->(img v).rng):(a8 img t).rng:=by
 induction t using Tm.ind with
 | h f l ih =>
  obtain ⟨h1,h2⟩:=(Tm.rng_iff _).1 h;simp only at h1 h2;by_cases hf:f<0
  ·rw [i8 hf];exact Tm.strip_rng (hi _ (by simp only;omega) (by simp only;omega))
  ·rw [b8 hf];refine (Tm.rng_iff _).2 ⟨h1,fun s hs=>?_⟩;obtain ⟨u,hu,rfl⟩:=mem_map.1 hs;exact ih u hu (h2 u hu)
theorem a7G {img:Int->Tm} {t:Tm} (h:t.ok) (hi:∀ v,(img v).ok):(a8 img t).ok:=by
 induction t using Tm.ind with
 | h f l ih =>
  obtain ⟨h1,h2⟩:=(Tm.ok_iff _).1 h;simp only at h1 h2;by_cases hf:f<0
  ·rw [i8 hf];exact Tm.strip_ok (hi _)
  ·rw [b8 hf];refine (Tm.ok_iff _).2 ⟨by simpa using h1,fun s hs=>?_⟩;obtain ⟨u,hu,rfl⟩:=mem_map.1 hs;exact ih u hu (h2 u hu)
theorem a7O (v:Int):(l9 v).ok:=(Tm.ok_iff _).2 ⟨by show 0<=_;omega,fun s hs=>by cases hs⟩
theorem b0h {l:List Bd} (h:∀ b∈l,b.t.ok) (v:Int):(c9 l v).ok:=by
 unfold c9;cases hf:b7 l v with
 | none=>exact a7O v
 | some t =>
  obtain ⟨b,hb,e,_⟩:=I7 hf;show t.ok;rw [<-e];exact h b hb
theorem b9O {v:Int} (h:0<=v):(l9 v).vs=[v]:=by rw [Tm.vs_var (by show -1-v<0;omega)];show [-1-(-1-v)]=[v];rw [show -1-(-1-v)=v by omega]
theorem o5 (x y:Int):(J5 x y = -1/\x<y)\/(J5 x y=0/\x=y)\/(J5 x y=1/\y<x):=by
 unfold J5;split
 ·exact .inl ⟨rfl,by assumption⟩
 ·split
  ·exact .inr (.inr ⟨rfl,by assumption⟩)
  ·exact .inr (.inl ⟨rfl,by omega⟩)
def rank (x:Int):Int×Int:=if x<0 then (0,-1-x) else (1,x)
theorem b0z (x y:Int):(a6X x y = -1/\((x<0/\y<0/\y<x)\/(¬ (x<0/\y<0)/\x<y)))\/(a6X x y=0/\x=y)\/(a6X x y=1/\((x<0/\y<0/\x<y)\/(¬ (x<0/\y<0)/\y<x))):=by
 unfold a6X;split
 ·have:=o5 (-1-x) (-1-y);omega
 ·have:=o5 x y;omega
structure c4z (c:Int):Prop where
 three:c = -1\/c=0\/c=1
theorem b4r (a:Tm):∀ b,T1 a b=0↔a.strip=b.strip:=by
 induction a using Tm.indp with
 | h a ih =>
  intro b;rw [b1T,Tm.strip_eq a,Tm.strip_eq b];have hL:∀ (l m:List Tm),(∀ s∈l,∀ b,T1 s b=0↔s.strip=b.strip)->(W9 l m=0↔l.map Tm.strip=m.map Tm.strip):=by
   intro l
   induction l with
   | nil=>intro m _;cases m<;>simp [a0W,a7a,a7L]
   | cons y ys ih2 =>
    intro m hl;cases m with
    | nil=>simp [a0W,a7a,a7L]
    | cons z zs =>
     rw [a5F,map_cons,map_cons,List.cons.injEq,<-hl y (by simp) z,<-ih2 zs (fun s hs=>hl s (mem_cons_of_mem _ hs))];by_cases h:T1 y z=0<;>simp [h]
  rw [Tm.mk.injEq];by_cases h1:a.f=b.f
  ·rw [if_neg (by simp [h1])];by_cases h2:a.ps.length=b.ps.length
   ·rw [if_neg (by simp [h2]),hL _ _ ih];simp [h1]
   ·rw [if_pos h2];constructor
    ·intro h3;have:=o5 a.ps.length b.ps.length;omega
    ·rintro ⟨_,h3⟩;exact absurd (by simpa using congrArg List.length h3) h2
  ·rw [if_pos h1];constructor
   ·intro h3;have:=b0z a.f b.f;omega
   ·rintro ⟨h3,_⟩;exact absurd h3 h1
def c5q (p q r:Int):Prop:=p<=0->q<=0->r<=0/\(r=0->p=0/\q=0)
theorem k9 (a b:Tm):s8 a b=true↔a.strip=b.strip:=by
 unfold s8;rw [beq_iff_eq];exact b4r a b
theorem Tm.rng_flat {t:Tm} (h:t.rng):∀ s∈t.flat,-9223372036854775808<=s.f/\s.f<=9223372036854775807:=by
 induction t using Tm.indp with
 | h t ih =>
  intro s hs;rw [Tm.flat_eq] at hs;rcases mem_cons.1 hs with rfl | hs
  ·exact ((Tm.rng_iff _).1 h).1
  ·obtain ⟨u,hu,hs⟩:=mem_flatMap.1 hs;exact ih u hu (((Tm.rng_iff _).1 h).2 u (Tm.ps_mem hu).1) s hs
set_option maxHeartbeats 1000000 in
theorem b6Y (W:World):∀ (t:Tm),t.ok->AFun Tryz.prog W 25 [t.cw] (.val t.cw):=by
 intro t
 induction t using Tm.ind with
 | h f l ih =>
 intro hok;obtain ⟨hl,hok⟩:=(Tm.ok_iff _).1 hok;simp only at hl hok;refine b9 (rs:=[Tm.cw ⟨f,l⟩]) Tryz.func25 Tryz.ntmps25 rfl rfl rfl rfl ?_;intro w U hW;refine aS (aR ?_);refine nc zd (nc zk ?_);refine aS (aR ?_);refine nc zg (nc zh (nc zn (nc zk (nc zo ?_))));refine aS (aS (aR ?_));refine nc ze ?_;refine aB (p6 l.length (fun k=>[(1,.bp 1 0 []),(100001,.bx (Tm.cw ⟨f,l⟩)),(2,.bp 2 0 []),(100002,⟨5,.row [.i 0,.lst []],1,0,[1]⟩),(3,.bp 3 0 []),(100003,⟨5,.row [.i f,.lst ((l.take k).map Tm.cv)],200024,0,[1]⟩),(200024,.tok 42 2),(4,.val (.i k))])
  ((K5 100003 200024 42 2 rfl rfl rfl rfl rfl rfl rfl).trans (a7 ⟨rfl,rfl,rfl,rfl,rfl,rfl,rfl,rfl,trivial⟩)) ?_)
 intro k hk;refine aS (aS (aR ?_));refine nc zl (nc zg (nc zh (nc zp (nc zi ?_))));refine aC rfl (fun hc=>?_) (fun hc=>?_)
 ·simp only [length_map,decide_eq_true_eq] at hc;have hkl:k<l.length:=by omega
  obtain ⟨t,ht⟩:∃ t,l[k]?=some t:=⟨l[k],getElem?_eq_getElem hkl⟩
  refine aK ?_;refine aS (aB (aD (by kernel_rfl) (by kernel_rfl) ?_));refine nc zg (nc zI (nc zg (nc zh (nc zl (nc (zq (j:=_) (H:=Tm.map_at ht) (hz:=Tm.size_all l)) (nc zr (nc (zw (z:=(ih t (mem_of_getElem? ht) (hok t (mem_of_getElem? ht))).up hW)) (nc zD (nc zE (nc zg (nc zJ ?_)))))))))));refine ⟨by kernel_rfl,?_⟩;refine aR ?_;refine nc zl (nc zu (nc ze ?_));refine ⟨hkl,Wk.trans (a7 (s':=[(1,.bp 1 0 []),(100001,.bx (Tm.cw ⟨f,l⟩)),(2,.bp 2 0 []),(100002,⟨5,.row [.i 0,.lst []],1,0,[1]⟩),(3,.bp 3 0 []),(100003,⟨5,.row [.i f,.lst ((l.take (k+1)).map Tm.cv)],300024,0,[1]⟩),(300024,.tok 42 2),(4,.val (.i ((k+1:Nat):Int)))]) ⟨rfl,rfl,rfl,rfl,rfl,?_,rfl,rfl,trivial⟩) (A3 300024 200024 rfl rfl rfl rfl)⟩;rw [List.take_add_one,ht,map_append];simp only [Option.toList_some,map_cons,map_nil,Tm.cv_eq];rfl
 ·refine aE ?_;have hkl:k=l.length:=by
   simp only [length_map,decide_eq_false_iff_not] at hc;omega
  subst hkl;rw [take_length];refine aS (aR ?_);refine nc zy (nc zo ?_);exact aT ⟨.inr rfl,rfl⟩
def c1t (b:Bd):Bool:=decide (0<=b.v)&&(decide (b.v<=1000)&&decide (0<=n8 b.t 20 10))
def c3A (l:List Bd):Bool:=l.all c1t&&decide (l.length<=8)
def n5 (l:List Bd):Tm->Tm
 | ⟨f,ts⟩=>if f<0 then c9 l (-1-f) else ⟨f,ts.map (n5 l)⟩
theorem a4A {l:List Bd} {t:Tm} (h:t.f<0):n5 l t=c9 l (-1-t.f):=by cases t;rw [n5,if_pos h]
theorem a4I {l:List Bd} {t:Tm} (h:¬ t.f<0):n5 l t=⟨t.f,t.l.map (n5 l)⟩:=by cases t;rw [n5,if_neg h]
theorem a7l {l:List Bd} {t:Tm} (h:t.ok) (hi:∀ b∈l,b.t.ok):(n5 l t).ok:=by
 induction t using Tm.ind with
 | h f ts ih =>
  obtain ⟨h1,h2⟩:=(Tm.ok_iff _).1 h;simp only at h1 h2;by_cases hf:f<0
  ·rw [a4A hf];exact b0h hi _
  ·rw [a4I hf];refine (Tm.ok_iff _).2 ⟨by simpa using h1,fun s hs=>?_⟩;obtain ⟨u,hu,rfl⟩:=mem_map.1 hs;exact ih u hu (h2 u hu)
theorem F5 {f g:Int->Tm} {t:Tm} (h:∀ v∈t.vs,f v=g v):a8 f t=a8 g t:=by
 induction t using Tm.indp with
 | h t ih =>
  by_cases hf:t.f<0
  ·rw [Tm.vs_var hf] at h;rw [i8 hf,i8 hf,h _ (by simp)]
  ·rw [Tm.vs_sym hf] at h;rw [Tm.ps_of_sym (by omega)] at ih;rw [b8 hf,b8 hf];congr 1;exact map_congr_left fun s hs=>ih s hs fun v hv=>h v (mem_flatMap.2 ⟨s,hs,hv⟩)
theorem r9 (v:Int):(l9 v).strip=l9 v:=by
 rw [Tm.strip_eq];have:(l9 v).ps=[]:=by unfold Tm.ps l9;simp
 rw [this];rfl
theorem b6t (img:Int->Tm) (g:Int->Int) {t:Tm} (h:∀ v∈t.vs,0<=g v):a8 img (a8 (fun v=>l9 (g v)) t)=a8 (fun v=>img (g v)) t:=by
 induction t using Tm.indp with
 | h t ih =>
  by_cases hf:t.f<0
  ·rw [Tm.vs_var hf] at h;have h:=h _ (mem_singleton.2 rfl);rw [i8 hf,i8 hf,r9,i8 (by show -1-g (-1-t.f)<0;omega)];show (img (-1-(-1-g (-1-t.f)))).strip=_;rw [show -1-(-1-g (-1-t.f))=g (-1-t.f) by omega]
  ·rw [Tm.vs_sym hf] at h;rw [Tm.ps_of_sym (by omega)] at ih;rw [b8 hf,b8 (t:=⟨t.f,_⟩) hf,b8 hf];simp only [map_map];congr 1;exact map_congr_left fun s hs=>ih s hs fun v hv=>h v (mem_flatMap.2 ⟨s,hs,hv⟩)
theorem a7Y (t:Tm):a8 l9 t=t.strip:=by
 induction t using Tm.indp with
 | h t ih =>
  by_cases hf:t.f<0
  ·rw [i8 hf,r9,Tm.strip_eq,Tm.ps_of_var hf];unfold l9;rw [show -1-(-1-t.f)=t.f by omega];rfl
  ·rw [Tm.ps_of_sym (by omega)] at ih;rw [b8 hf,Tm.strip_eq,Tm.ps_of_sym (by omega)];congr 1;exact map_congr_left fun s hs=>ih s hs
theorem C1 (img:Int->Tm) (t:Tm):a8 img t.strip=a8 img t:=by
 induction t using Tm.indp with
 | h t ih =>
  by_cases hf:t.f<0
  ·rw [i8 hf,i8 (by rw [Tm.strip_f];exact hf),Tm.strip_f]
  ·rw [Tm.ps_of_sym (by omega)] at ih;rw [b8 hf,b8 (by rw [Tm.strip_f];exact hf),Tm.strip_f,Tm.strip_l,Tm.ps_of_sym (by omega),map_map];congr 1;exact map_congr_left fun s hs=>ih s hs
theorem v8 (img:Int->Tm) (t:Tm):(a8 img t).strip=a8 img t:=by
 induction t using Tm.indp with
 | h t ih =>
  by_cases hf:t.f<0
  ·rw [i8 hf,Tm.strip_strip]
  ·rw [Tm.ps_of_sym (by omega)] at ih;rw [b8 hf,Tm.strip_eq,Tm.ps_of_sym (t:=⟨t.f,_⟩) (by show 0<=t.f;omega)];simp only [map_map];congr 1;exact map_congr_left fun s hs=>ih s hs
theorem b9b (g:Int->Int) (t:Tm) (h:∀ v∈t.vs,0<=g v):(a8 (fun v=>l9 (g v)) t).vs=t.vs.map g:=by
 rw [Z5];generalize t.vs=l at h |-
 induction l with
 | nil=>rfl
 | cons v l ih =>
  rw [flatMap_cons,ih (fun x hx=>h x (mem_cons_of_mem _ hx)),map_cons,b9O (h v (by simp))];rfl
def b7J:List Int->Int->Nat
 | [],_=>0
 | x::l,v=>if x=v then 0 else b7J l v+1
theorem b2C:∀ {l:List Int} {v:Int},v∈l->l[b7J l v]?=some v
 | x::l,v,h=>by
  rw [b7J];split
  ·rename_i e;simp [e]
  ·rename_i e;rw [List.getElem?_cons_succ];exact b2C ((mem_cons.1 h).resolve_left fun c=>e c.symm)
def a3Y (a b:List Int):List Bd:=List.zipWith (fun v u=>⟨v,l9 u⟩) a b
def b7b (n:Nat):List Int:=(List.range n).map fun i:Nat=>(i:Int)
theorem b2A:∀ {a b:List Int} {v:Int},a.length=b.length->v∈a->c9 (a3Y a b) v=l9 (b.getD (b7J a v) 0)
 | x::a,y::b,v,hl,h=>by
  show ((b7 (⟨x,l9 y⟩::a3Y a b) v).getD (l9 v))=_;rw [b7,b7J];split
  ·rfl
  ·rename_i e;have:=b2A (a:=a) (b:=b) (v:=v) (by simpa using hl) ((mem_cons.1 h).resolve_left fun c=>e c.symm);rw [List.getD_cons_succ];exact this
theorem b9z {l:List Int} {i:Nat} {v:Int} (h:l[i]?=some v):l.getD i 0=v:=by rw [List.getD_eq_getElem?_getD,h];rfl
def Tm.nv (t:Tm):List Int:=nub t.vs
theorem b9q (t:Tm):H7 t.flat=t.nv:=b3e _
def c5D (t:Tm):Tm:=a8 (c9 (a3Y t.nv (b7b t.nv.length))) t
def a7v (a b:Tm):Bool:=decide (a.nv.length=b.nv.length)&&s8 (a8 (c9 (a3Y a.nv b.nv)) a) b
theorem b8W (a:Tm) (g:Int->Int) (h0:∀ v∈a.vs,0<=g v) (hg:∀ x∈a.vs,∀ y∈a.vs,g x=g y->x=y):a7v a (a8 (fun v=>l9 (g v)) a)=true:=by
 have e:(a8 (fun v=>l9 (g v)) a).nv=a.nv.map g:=by
  unfold Tm.nv;rw [b9b g a h0,b8R g _ hg]
 unfold a7v;rw [e,Bool.and_eq_true,decide_eq_true_eq,k9];refine ⟨by simp,congrArg Tm.strip (F5 fun v hv=>?_)⟩;have hm:v∈a.nv:=(a6T a.vs v).2 hv;rw [b2A (by simp [Tm.nv]) hm];congr 1;refine b9z ?_;rw [List.getElem?_map];show Option.map g (a.nv)[b7J a.nv v]?=_;rw [b2C (l:=a.nv) hm];rfl
section
variable {α:Type} (lt:α->α->Bool) (a:Nat)
def X2:Nat->List α->List α
 | 0,L=>L
 | j+1,L=>match L[j+1]?,L[j]? with
  | some x,some y=>if a<j+1/\lt x y=true then X2 j ((L.set (j+1) y).set j x) else L
  | _,_=>L
def y5:Nat->Nat->List α->List α
 | 0,_,L=>L
 | n+1,i,L=>y5 n (i+1) (X2 lt a i L)
theorem a4z:∀ (j:Nat) (L:List α),(X2 lt a j L).length=L.length
 | 0,L=>rfl
 | j+1,L=>by
  unfold X2;split
  ·split
   ·rw [a4z j];simp
   ·rfl
  ·rfl
theorem a5Z {j:Nat} {L:List α} (h:¬ a<j):X2 lt a j L=L:=by
 cases j with
 | zero=>rfl
 | succ j=>unfold X2;split<;>simp [h]
theorem a7F {j:Nat} {L:List α} {x y:α} (hx:L[j+1]?=some x) (hy:L[j]?=some y) (h:lt x y=false):X2 lt a (j+1) L=L:=by
 unfold X2;rw [hx,hy];simp [h]
theorem a4P {j:Nat} {L:List α} {x y:α} (hx:L[j+1]?=some x) (hy:L[j]?=some y) (ha:a<j+1) (h:lt x y=true):X2 lt a (j+1) L=X2 lt a j ((L.set (j+1) y).set j x):=by
 conv=>lhs;unfold X2
 rw [hx,hy];simp [h,ha]
theorem a3r:∀ (n i:Nat) (L:List α),(y5 lt a n i L).length=L.length
 | 0,_,L=>rfl
 | n+1,i,L=>by rw [y5,a3r n,a4z]
end
def ltC (cmp:Bd->Bd->Int) (x y:Bd):Bool:=decide (cmp x y<0)
theorem w8 (l:List Bd) (j:Nat) (b:Bd):(l.map Bd.cv).set j b.cw=(l.set j b).map Bd.cv:=by rw [List.map_set];rfl
theorem a2p (cmp:Bd->Bd->Int) (fc:CV) (L0:List Bd) (a b:Nat) (ha:a<=L0.length) (hb:b<=L0.length) (hn:L0.length<=1000000000) (hc:∀ W x y,N4 Tryz.prog W fc [x.cw,y.cw] (.val (.i (cmp x y)))) :
  r7 Tryz.prog 159 [(400000,.mrow 99 3 (L0.map Bd.cv))] [.sl 400000 0 L0.length 3,.val (.i a),.val (.i b),.val fc] (.tup []) [(400000,.mrow 99 3 ((y5 (ltC cmp) a (b-(a+1)) (a+1) L0).map Bd.cv))]:=by
 refine l8 Tryz.func159 Tryz.ntmps159 rfl rfl rfl rfl rfl rfl ?_;intro w U hU;obtain ⟨T,hT⟩:∃ T,T=y5 (ltC cmp) a (b-(a+1)) (a+1) L0:=⟨_,rfl⟩
 rw [<-hT];refine aS (aR ?_);refine nc zl (nc zu (nc ze ?_))
 let st:Nat->List Bd->AS:=fun i L=>[(0,.sl 400000 0 L0.length 3),(1,.val (.i a)),(2,.val (.i b)),(3,.val fc),(8,.val (.i i)),(400000,.mrow 99 3 (L.map Bd.cv))]
 refine aB (n4 (fun m s=>∃ i L,m=(b+1)-i/\L.length=L0.length/\a+1<=i/\y5 (ltC cmp) a (b-i) i L=T/\s=st i L) (s':=st (a+1) L0) (a7 ⟨rfl,rfl,rfl,rfl,rfl,rfl,trivial⟩) ⟨a+1,L0,rfl,rfl,Nat.le_refl _,hT.symm,rfl⟩ ?_);rintro m s ⟨i,L,rfl,hL,hi,hI,rfl⟩;refine aS (aS (aR ?_));refine nc zl (nc zl (nc zi ?_));refine aC rfl (fun hlt=>?_) (fun hlt=>?_)
 ·have hib:i<b:=by simpa using hlt
  refine aK ?_;refine aS (aB (aS (aR ?_)));refine nc zl (nc ze ?_)
  let st2:Nat->List Bd->AS:=fun j L=>[(0,.sl 400000 0 L0.length 3),(1,.val (.i a)),(2,.val (.i b)),(3,.val fc),(8,.val (.i i)),(9,.val (.i j)),(400000,.mrow 99 3 (L.map Bd.cv))]
  refine aB (n4 (fun m s=>∃ j L',m=j/\L'.length=L0.length/\j<=i/\X2 (ltC cmp) a j L'=X2 (ltC cmp) a i L/\s=st2 j L') (s':=st2 i L) (a7 ⟨rfl,rfl,rfl,rfl,rfl,rfl,rfl,trivial⟩) ⟨i,L,rfl,hL,Nat.le_refl _,rfl,rfl⟩ ?_);rintro m s ⟨j,L',hmj,hL',hji,hJ,rfl⟩;by_cases hja:a<j
  ·obtain ⟨j,rfl⟩:∃ k,j=k+1:=⟨j-1,by omega⟩
   obtain ⟨x,hx⟩:∃ x,L'[j+1]?=some x:=⟨L'[j+1]'(by omega),getElem?_eq_getElem (by omega)⟩
   obtain ⟨y,hy⟩:∃ y,L'[j]?=some y:=⟨L'[j]'(by omega),getElem?_eq_getElem (by omega)⟩
   have hx':=Bd.map_at hx;have hy':=Bd.map_at hy;have g:decide (((j+1:Nat):Int)>(a:Int))=true:=by simp;omega
   refine aS (aS (aD (by kernel_rfl) (by kernel_rfl) ?_));refine nc zl (nc zl (nc zK (nc zl (nc (zl (p:=gb)) (nc (zl (p:=gb)) (nc (zl (p:=gb)) (nc (zM (k:=j+1) (p:=gb)) (nc (zN (r:=gb) (G:=hx')) (nc (zl (p:=gb)) (nc (zl (p:=gb)) (nc (zj (r:=gb)) (nc (zM (k:=j) (p:=gb)) (nc (zN (r:=gb) (G:=hy')) (nc (zO (t:=gb) (E:=hc _ x y)) (nc (zi (r:=gb)) (nc zP ?_))))))))))))))));refine ⟨by kernel_rfl,?_⟩;refine aC rfl (fun hc1=>?_) (fun hc1=>?_)
   ·have hlt2:ltC cmp x y=true:=hc1;refine aK ?_;refine AWp.wk (a7 (s':=st2 (j+1) L') ⟨rfl,rfl,rfl,rfl,rfl,rfl,rfl,trivial⟩) ?_;refine aS (aB (aD (by kernel_rfl) (by kernel_rfl) ?_));refine nc zl (nc zl (nc zl (nc zl (nc zj (nc zl (nc zl (nc zj (nc (zM (k:=j)) (nc (zN (G:=hy')) (nc zl (nc zl (nc (zM (k:=j+1)) (nc (zN (G:=hx')) (nc (zM (k:=j+1)) (nc (zQ (F:=hx')) (nc (zM (k:=j)) ?_))))))))))))))));refine nc (zQ (F:=(by rw [getElem?_set_ne (by omega)];exact hy'))) ?_;refine ⟨by kernel_rfl,?_⟩;refine aR ?_;refine nc zl (nc zj (nc ze ?_));refine ⟨j,st2 j ((L'.set (j+1) y).set j x),by omega,⟨j,_,rfl,by simp [hL'],by omega,?_,rfl⟩,a7 ⟨rfl,rfl,rfl,rfl,rfl,?_,?_,trivial⟩⟩
    ·rw [<-hJ,a4P _ _ hx hy hja hlt2]
    ·show some (AV.val (.i _))=some (AV.val (.i _));congr 3;omega
    ·show some (AV.mrow _ _ _)=some (AV.mrow _ _ _);rw [w8,w8]
   ·have hlt2:ltC cmp x y=false:=hc1;refine aE ?_;refine AWp.wk (a7 (s':=st2 (j+1) L') ⟨rfl,rfl,rfl,rfl,rfl,rfl,rfl,trivial⟩) ?_;refine aR ?_;refine nc zl (nc zu (nc ze ?_));refine ⟨(b+1)-(i+1),st (i+1) L',by omega,⟨i+1,L',rfl,hL',by omega,?_,rfl⟩,a7 ⟨rfl,rfl,rfl,rfl,rfl,rfl,trivial⟩⟩;have hs:L'=X2 (ltC cmp) a i L:=by rw [<-hJ,a7F _ _ hx hy hlt2]
    rw [<-hI,show b-i=(b-(i+1))+1 by omega,y5,hs]
  ·have g:decide ((j:Int)>(a:Int))=false:=by simp;omega
   refine aS (aS (aD (by kernel_rfl) (by kernel_rfl) ?_));refine nc zl (nc zl (nc zK (nc zl (nc zR (nc zR (nc zR (nc zR (nc zR (nc zR (nc zR (nc zR (nc zR (nc zR (nc zR (nc zR (nc zS ?_))))))))))))))));refine ⟨by kernel_rfl,?_⟩;refine aC rfl (fun hc1=>?_) (fun hc1=>?_)
   ·cases hc1
   ·refine aE ?_;refine AWp.wk (a7 (s':=st2 (j) L') ⟨rfl,rfl,rfl,rfl,rfl,rfl,rfl,trivial⟩) ?_;refine aR ?_;refine nc zl (nc zu (nc ze ?_));refine ⟨(b+1)-(i+1),st (i+1) L',by omega,⟨i+1,L',rfl,hL',by omega,?_,rfl⟩,a7 ⟨rfl,rfl,rfl,rfl,rfl,rfl,trivial⟩⟩;have hs:L'=X2 (ltC cmp) a i L:=by rw [<-hJ,a5Z _ _ hja]
    rw [<-hI,show b-i=(b-(i+1))+1 by omega,y5,hs]
 ·have hib:¬ i<b:=by simpa using hlt
  refine aE ?_;refine ⟨.inl rfl,_,Wk.refl _,rfl,?_,trivial⟩;show some (AV.mrow _ _ _)=some (AV.mrow _ _ _);rw [show b-i=0 by omega] at hI;rw [<-hI];rfl
theorem a3V (W:World) (x y:Int):AFun Tryz.prog W 120 [.i x,.i y] (.val (.i (J5 x y))):=by
 refine ⟨B8 Tryz.func120 rfl rfl,.inl rfl,rfl,?_⟩;rintro U w vs hW ⟨u1,us1,rfl,h1,u2,us2,rfl,h2,h3⟩;have h3:us2=[]:=h3;subst h3;obtain ⟨rfl,_⟩:=o6.1 h1;obtain ⟨rfl,_⟩:=o6.1 h2;refine (K8 x y w).mono ?_;rintro e w' ⟨rfl,hb⟩;exact ⟨_,rfl,o6.2 ⟨rfl,rfl⟩,hb⟩
def a9S (x y:Bd):Int:=J5 x.v y.v
theorem b6K (W:World) (x y:Bd):AFun Tryz.prog W 134 [x.cw,y.cw] (.val (.i (a9S x y))):=by
 refine b9 (rs:=[.i (a9S x y)]) Tryz.func134 Tryz.ntmps134 rfl rfl rfl rfl ?_;intro w U hW;refine aS (aR ?_);refine nc zd (nc zd (nc ze ?_));refine aS (aR ?_);refine nc zg (nc zh (nc zg (nc zh (nc (zw (z:=a3V _ x.v y.v)) (nc ze ?_)))));exact aT ⟨.inr rfl,rfl⟩
theorem b3z (W:World) (x y:Bd):AFun Tryz.prog W 136 [x.cw,y.cw] (.val (.b (decide (x.v=y.v)))):=by
 refine b9 (rs:=[.b (decide (x.v=y.v))]) Tryz.func136 Tryz.ntmps136 rfl rfl rfl rfl ?_;intro w U hW;refine aS (aR ?_);refine nc zd (nc zd (nc ze ?_));refine aS (aR ?_);refine nc zg (nc zh (nc zg (nc zh (nc zt (nc ze ?_)))));exact aT ⟨.inr rfl,rfl⟩
def R5 (b:Bd):Bool:=decide (b.t.f<0)&&decide (-1-b.t.f=b.v)
theorem b5a (W:World) (b:Bd) (h1 : -9223372036854775808<=b.t.f):AFun Tryz.prog W 109 [b.cw] (.val (.b (R5 b))):=by
 refine b9 (rs:=[.b (R5 b)]) Tryz.func109 Tryz.ntmps109 rfl rfl rfl rfl ?_;intro w U hW;refine aS (aR ?_);refine nc zd (nc ze ?_);unfold R5;by_cases hf:b.t.f<0
 ·have g:decide (b.t.f<0)=true:=by simpa using hf
  refine aS (aD (by kernel_rfl) (by kernel_rfl) ?_);refine nc zg (nc zh (nc (zw (z:=S4 _ b.t)) (nc zl (nc (zg (r:=gb)) (nc (zh (r:=gb)) (nc (zw (p:=gb) (z:=V8 _ b.t h1 hf)) (nc (zg (r:=gb)) (nc (zh (r:=gb)) (nc (zt (r:=gb)) (nc zP (nc ze ?_)))))))))));refine ⟨by kernel_rfl,?_⟩;refine aT ⟨.inr rfl,?_⟩;rw [g];rfl
 ·have g:decide (b.t.f<0)=false:=by simpa using hf
  refine aS (aD (by kernel_rfl) (by kernel_rfl) ?_);refine nc zg (nc zh (nc (zw (z:=S4 _ b.t)) (nc zl (nc zR (nc zR (nc zR (nc zR (nc zR (nc zR (nc zS (nc ze ?_)))))))))));refine ⟨by kernel_rfl,?_⟩;refine aT ⟨.inr rfl,?_⟩;rw [g];rfl
theorem b0v (L:List Bd) (hn:L.length<=1000000000) :
  r7 Tryz.prog 132 [] [.val (.lst (L.map Bd.cv))] (.sl 250007 0 L.length 3) [(250007,.mrow 99 3 (L.map Bd.cv))]:=by
 have hsz:=Bd.size_all L;refine l8 Tryz.func132 Tryz.ntmps132 rfl rfl rfl rfl rfl rfl ?_;intro w U hU;refine AWp.nil 0 rfl rfl (fun hl=>?_) ?_
 ·have hL:L=[]:=by simpa using hl
  subst hL;refine aS (aR ?_);refine nc ze ?_;refine aS (aS (aR ?_));refine nc zl (nc zU ?_);refine aC rfl (fun _=>?_) (fun h=>by cases h);refine aS (aR ?_);refine nc ze ?_;exact aT ⟨.inr rfl,_,b9y 2 250007 99 3 rfl rfl rfl rfl rfl,rfl,rfl,trivial⟩
 ·refine aS (aR ?_);refine nc ze ?_;refine aS (aS (aR ?_));refine nc zl (nc zV ?_);refine aC rfl (fun h=>by cases h) (fun _=>?_);refine aK ?_;refine AWp.wk ((c1b 0 rfl rfl).trans (a7 (s':=[(0,.val (.lst (L.map Bd.cv)))]) ⟨rfl,trivial⟩)) ?_;refine aS (aR ?_);refine nc zW (nc zl (nc (zX 250007) (nc ze ?_)));refine aT ⟨.inr rfl,_,Wk.refl _,?_,rfl,trivial⟩;show some (AV.sl _ _ _ _)=some (AV.sl _ _ _ _);rw [length_map];rfl
def a7t (q:Bd->Bool):List Bd->Nat->Int
 | [],_ => -1
 | b::l,i=>if q b then (i:Int) else a7t q l (i+1)
theorem a2b {q:Bd->Bool}:∀ {l:List Bd} {i:Nat},(∀ b∈l,q b=false)->a7t q l i = -1
 | [],_,_=>rfl
 | b::l,i,h=>by rw [a7t,h b (by simp),if_neg (by simp)];exact a2b fun c hc=>h c (mem_cons_of_mem _ hc)
theorem a7f {q:Bd->Bool}:∀ {l:List Bd} {i k:Nat} {b:Bd},l[k]?=some b->q b=true->(∀ j c,j<k->l[j]?=some c->q c=false)->a7t q l i=((i+k:Nat):Int)
 | [],_,_,_,h,_,_=>by simp at h
 | x::l,i,0,b,h,hq,_=>by simp at h;subst h;rw [a7t,if_pos hq];rfl
 | x::l,i,k+1,b,h,hq,hf=>by
  rw [a7t,hf 0 x (by omega) rfl,if_neg (by simp),a7f (k:=k) (by simpa using h) hq fun j c hj hc=>hf (j+1) c (by omega) (by simpa using hc)];congr 1;omega
theorem b0X (q:Bd->Bool) (fc:CV) (L:List Bd) (n:Nat) (hnl:n<=L.length) (hn:L.length<=1000000000) (hc:∀ W x,x∈L.take n->N4 Tryz.prog W fc [x.cw] (.val (.b (q x)))) :
  r7 Tryz.prog 131 [(400000,.mrow 99 3 (L.map Bd.cv))] [.sl 400000 0 n 3,.val fc] (.val (.i (a7t q (L.take n) 0))) [(400000,.mrow 99 3 (L.map Bd.cv))]:=by
 refine l8 Tryz.func131 Tryz.ntmps131 rfl rfl rfl rfl rfl rfl ?_;intro w U hU;refine aS (aR ?_);refine nc ze ?_;refine aS (aS (aR ?_));refine nc zl (nc zY (nc zl ?_));refine aB (y9 n (fun k=>∀ j c,j<k->(L.take n)[j]?=some c->q c=false) (fun k=>[(0,.sl 400000 0 n 3),(1,.val fc),(7,.val (.i n)),(8,.val (.i k)),(400000,.mrow 99 3 (L.map Bd.cv))]) (a7 ⟨rfl,rfl,rfl,rfl,rfl,trivial⟩) (fun j c hj=>by omega) ?_);intro k hk hI;refine aS (aR ?_);refine nc zi ?_;refine aS (aC rfl (fun hlt=>?_) (fun hlt=>?_))
 ·have hkl:k<n:=by simpa using hlt
  obtain ⟨x,hx0⟩:∃ x,L[k]?=some x:=⟨L[k]'(by omega),getElem?_eq_getElem (by omega)⟩
  have hx:(L.take n)[k]?=some x:=by rw [getElem?_take,if_pos hkl];exact hx0
  have hx':=Bd.map_at hx0;refine aK ?_;refine aS (aB (aS (aR ?_)));refine nc zl (nc ze ?_);refine aS (aR ?_);refine nc zl (nc zl (nc zl (nc (zM (k:=k)) (nc (zN (G:=hx')) (nc (zO (E:=hc _ x (mem_of_getElem? hx))) ?_)))));refine aC rfl (fun hq=>?_) (fun hq=>?_)
  ·refine aS (aR ?_);refine nc zl (nc ze ?_);refine aT ⟨.inr rfl,_,Wk.refl _,?_,rfl,trivial⟩;rw [a7f hx hq hI,Nat.zero_add];rfl
  ·refine aK ?_;refine aR ?_;refine nc zu (nc zl ?_);refine ⟨hkl,fun j c hj hc=>?_,a7 ⟨rfl,rfl,rfl,rfl,rfl,trivial⟩⟩;rcases Nat.lt_or_ge j k with h | h
   ·exact hI j c h hc
   ·have:j=k:=by omega
    subst this;rw [hx] at hc;cases hc;exact hq
 ·have hkl:¬ k<n:=by simpa using hlt
  refine aE ?_;refine aS (aR ?_);refine nc ze ?_;refine aT ⟨.inr rfl,_,Wk.refl _,?_,rfl,trivial⟩;rw [a2b fun b hb=>?_]
  ·rfl
  ·obtain ⟨j,hj⟩:=getElem?_of_mem hb;have hjl:j<n:=by
    rw [getElem?_take] at hj;split at hj
    ·assumption
    ·cases hj
   exact hI j b (by omega) hj
def Bd.zero:Bd:=⟨0,⟨0,[]⟩⟩
def F8 (q:Bd->Bd->Bool) (L:List Bd):Nat->List Bd
 | 0=>[]
 | m+1=>match L[m]?,(match m with | 0=>none | k+1=>L[k]?) with
  | some x,some y=>if q x y then F8 q L m else F8 q L m++[x]
  | some x,none=>F8 q L m++[x]
  | none,_=>F8 q L m
theorem a1k {q:Bd->Bd->Bool} {L:List Bd} {m:Nat} {x y:Bd} (hx:L[m+1]?=some x) (hy:L[m]?=some y) (h:q x y=true):F8 q L (m+2)=F8 q L (m+1):=by
 rw [F8];simp only [hx,hy,h,if_true]
theorem a3U {q:Bd->Bd->Bool} {L:List Bd} {m:Nat} {x y:Bd} (hx:L[m+1]?=some x) (hy:L[m]?=some y) (h:q x y=false):F8 q L (m+2)=F8 q L (m+1)++[x]:=by
 rw [F8];simp [hx,hy,h]
theorem a9h {q:Bd->Bd->Bool} {L:List Bd}:F8 q L 1=L.take 1:=by
 rw [F8];cases L with
 | nil=>rfl
 | cons x l=>simp [F8]
theorem I4 {α:Type} {l:List α} {k:Nat} {x:α} (h:l[k]?=some x):l.take (k+1)=l.take k++[x]:=by
 rw [List.take_add_one,h];rfl
theorem a9l {α:Type} {l:List α} {k:Nat} {x:α} (h:k<l.length):(l.set k x).take (k+1)=l.take k++[x]:=by
 rw [I4 (x:=x) (by simp [h]),List.take_set_of_le (Nat.le_refl _)]
theorem a8x (q:Bd->Bd->Bool) (fc:CV) (L:List Bd) (hn:L.length<=1000000000) (hc:∀ W x y,N4 Tryz.prog W fc [x.cw,y.cw] (.val (.b (q x y)))) :
  r7 Tryz.prog 135 [(400000,.mrow 99 3 (L.map Bd.cv))] [.sl 400000 0 L.length 3,.val fc] (.sl 400000 0 (F8 q L L.length).length 3) [(400000,.mrow 99 3 ((F8 q L L.length++List.replicate (L.length-(F8 q L L.length).length) Bd.zero).map Bd.cv))]:=by
 refine l8 Tryz.func135 Tryz.ntmps135 rfl rfl rfl rfl rfl rfl ?_;intro w U hU;have hwhole:F8 q L L.length=L->(F8 q L L.length).length=L.length/\(F8 q L L.length++List.replicate (L.length-(F8 q L L.length).length) Bd.zero)=L:=fun h=>by rw [h];simp
 refine aS (aR ?_);refine nc ze ?_;refine aS (aS (aR ?_));refine nc zl (nc zY (nc zi ?_));refine aC rfl (fun h2=>?_) (fun h2=>?_)
 ·have h2:L.length<2:=by have h2:decide ((L.length:Int)<2)=true:=h2;simp at h2;omega
  have hw:=hwhole (by
   match L,h2 with
   | [],_=>rfl
   | [x],_=>rfl)
  refine aS (aR ?_);refine nc zl (nc ze ?_);refine aT ⟨.inr rfl,_,Wk.refl _,?_,?_,trivial⟩
  ·rw [hw.1];rfl
  ·rw [hw.2];rfl
 ·have h2:2<=L.length:=by have h2:decide ((L.length:Int)<2)=false:=h2;simp at h2;omega
  refine aK ?_;refine aS (aS (aR ?_));refine nc ze ?_
  let st:Nat->AS:=fun k=>[(0,.sl 400000 0 L.length 3),(1,.val fc),(5,.val (.i ((k+1:Nat):Int))),(400000,.mrow 99 3 (L.map Bd.cv))]
  refine aB (y9 L.length (fun k=>k+1<=L.length/\F8 q L (k+1)=L.take (k+1)) st (a7 ⟨rfl,rfl,rfl,rfl,trivial⟩) ⟨by omega,a9h⟩ ?_);rintro k hk ⟨hk1,hI⟩;refine aS (aS (aR ?_));refine nc zl (nc zl (nc zY (nc zi ?_)));refine aC rfl (fun hlt=>?_) (fun hlt=>?_)
  ·have hkl:k+1<L.length:=by have h3:decide ((((k+1:Nat):Int))<(L.length:Int))=true:=hlt;simp at h3;omega
   obtain ⟨x,hx⟩:∃ x,L[k+1]?=some x:=⟨L[k+1],getElem?_eq_getElem hkl⟩
   obtain ⟨y,hy⟩:∃ y,L[k]?=some y:=⟨L[k]'(by omega),getElem?_eq_getElem (by omega)⟩
   have hx':=Bd.map_at hx;have hy':=Bd.map_at hy;refine aK ?_;refine aS (aB (aS (aD (by kernel_rfl) (by kernel_rfl) ?_)));refine nc zl (nc zl (nc zl (nc (zM (k:=k+1)) (nc (zN (G:=hx')) (nc zl (nc zl (nc zj (nc (zM (k:=k)) (nc (zN (G:=hy')) (nc (zO (E:=hc _ x y)) ?_))))))))));refine ⟨by kernel_rfl,?_⟩;refine aC rfl (fun hq=>?_) (fun hq=>?_)
   ·have hq:q x y=true:=hq;refine AWp.wk (a7 (s':=st k) ⟨rfl,rfl,rfl,rfl,trivial⟩) ?_;refine aS (aR ?_);refine nc zl (nc zl (nc (zZ (j:=k+1)) (nc ze ?_)));refine aS (aS (aR ?_));refine nc ze ?_
    let st2:Nat->Nat->List Bd->AS:=fun j kk C=>[(0,.sl 400000 0 L.length 3),(1,.val fc),(5,.val (.i kk)),(6,.sl 400000 (0+(k+1)) (L.length-(k+1)) 3),(7,.val (.i ((j+1:Nat):Int))),(400000,.mrow 99 3 (C.map Bd.cv))]
    have h0:F8 q L (k+2)=L.take (k+1):=by rw [a1k hx hy hq,hI]
    refine aB (n4 (fun m s=>∃ j kk C,m=L.length-j/\k+1+(j+1)<=L.length/\kk<=k+1+j/\C.length=L.length/\C.take kk=F8 q L (k+1+(j+1))/\(∀ i,k+1+j<=i->C[i]?=L[i]?)/\s=st2 j kk C) (s':=st2 0 (k+1) L) (a7 ⟨rfl,rfl,rfl,rfl,rfl,rfl,trivial⟩) ⟨0,k+1,L,rfl,by omega,by omega,rfl,h0.symm,fun _ _=>rfl,rfl⟩ ?_);rintro m s ⟨j,kk,C,hm,hj1,hj2,hC,hI1,hI2,rfl⟩;refine aS (aS (aR ?_));refine nc zl (nc zl (nc zY (nc zi ?_)));refine aC rfl (fun hlt2=>?_) (fun hlt2=>?_)
    ·have hjl:k+1+(j+1)<L.length:=by have h3:decide ((((j+1:Nat):Int))<((L.length-(k+1):Nat):Int))=true:=hlt2;simp at h3;omega
     obtain ⟨x2,hx2⟩:∃ x,L[k+1+(j+1)]?=some x:=⟨L[k+1+(j+1)],getElem?_eq_getElem hjl⟩
     obtain ⟨y2,hy2⟩:∃ y,L[k+1+j]?=some y:=⟨L[k+1+j]'(by omega),getElem?_eq_getElem (by omega)⟩
     have hx2':=Bd.map_at ((hI2 _ (by omega)).trans hx2);have hy2':=Bd.map_at ((hI2 _ (by omega)).trans hy2);refine aK ?_;refine aS (aB (aS (aD (by kernel_rfl) (by kernel_rfl) ?_)));refine nc zl (nc zl (nc zl (nc (zM (k:=k+1+(j+1))) (nc (zN (G:=hx2')) (nc zl (nc zl (nc zj (nc (zM (k:=k+1+j)) (nc (zN (G:=hy2')) (nc (zO (E:=hc _ x2 y2)) (nc z0 ?_)))))))))));refine ⟨by kernel_rfl,?_⟩;refine aC rfl (fun hq2=>?_) (fun hq2=>?_)
     ·have hq2:q x2 y2=false:=by simpa using hq2
      refine AWp.wk (a7 (s':=st2 j kk C) ⟨rfl,rfl,rfl,rfl,rfl,rfl,trivial⟩) ?_;obtain ⟨z2,hz2⟩:∃ z,C[kk]?=some z:=⟨C[kk]'(by omega),getElem?_eq_getElem (by omega)⟩
      have hz2':=Bd.map_at hz2;refine aS (aR ?_);refine nc zl (nc zl (nc zl (nc zl (nc (zM (k:=k+1+(j+1))) (nc (zN (G:=hx2')) (nc (zM (k:=kk)) (nc (zQ (F:=hz2')) ?_)))))));refine aR ?_;refine nc zl (nc zu (nc ze ?_));refine aR ?_;refine nc zl (nc zu (nc ze ?_));refine ⟨L.length-(j+1),st2 (j+1) (kk+1) (C.set kk x2),by omega,⟨j+1,kk+1,C.set kk x2,rfl,by omega,by omega,by simp [hC],?_,fun i hi=>?_,rfl⟩,a7 ⟨rfl,rfl,rfl,rfl,rfl,?_,trivial⟩⟩
      ·rw [a9l (by omega),hI1,show k+1+(j+1+1)=(k+1+j)+2 by omega,a3U (m:=k+1+j) hx2 hy2 hq2];rfl
      ·rw [getElem?_set_ne (by omega)];exact hI2 i (by omega)
      ·show some (AV.mrow _ _ _)=some (AV.mrow _ _ _);rw [w8]
     ·have hq2:q x2 y2=true:=by simpa using hq2
      refine aK ?_;refine AWp.wk (a7 (s':=st2 j kk C) ⟨rfl,rfl,rfl,rfl,rfl,rfl,trivial⟩) ?_;refine aR ?_;refine nc zl (nc zu (nc ze ?_));refine ⟨L.length-(j+1),st2 (j+1) kk C,by omega,⟨j+1,kk,C,rfl,by omega,by omega,hC,?_,fun i hi=>hI2 i (by omega),rfl⟩,a7 ⟨rfl,rfl,rfl,rfl,rfl,rfl,trivial⟩⟩;rw [hI1,show k+1+(j+1+1)=(k+1+j)+2 by omega,a1k (m:=k+1+j) hx2 hy2 hq2];rfl
    ·have hjl:k+1+(j+1)=L.length:=by have h3:decide ((((j+1:Nat):Int))<((L.length-(k+1):Nat):Int))=false:=hlt2;simp at h3;omega
     refine aE ?_;refine AWp.wk (a7 (s':=st2 j kk C) ⟨rfl,rfl,rfl,rfl,rfl,rfl,trivial⟩) ?_;refine aS (aR ?_);refine nc zl (nc zl (nc (zZ (j:=kk)) (nc z3 ?_)));refine aS (aR ?_);refine nc zl (nc zl (nc (z4 (j:=kk)) (nc ze ?_)));rw [hjl] at hI1;have hkk:kk=(F8 q L L.length).length:=by rw [<-hI1];simp;omega
     refine aT ⟨.inr rfl,_,Wk.refl _,?_,?_,trivial⟩
     ·rw [<-hkk];rfl
     ·show some (AV.mrow _ _ _)=some (AV.mrow _ _ _);rw [<-hkk,<-hI1,map_append,<-map_take,List.map_replicate];simp only [Nat.zero_add];rw [show kk+(L.length-kk)=(C.map Bd.cv).length by simp;omega,List.drop_length,List.append_nil];rfl
   ·have hq:q x y=false:=hq;refine aK ?_;refine AWp.wk (a7 (s':=st k) ⟨rfl,rfl,rfl,rfl,trivial⟩) ?_;refine aR ?_;refine nc zl (nc zu (nc ze ?_));refine ⟨by omega,⟨by omega,?_⟩,a7 ⟨rfl,rfl,rfl,rfl,trivial⟩⟩;rw [a3U hx hy hq,hI,I4 hx]
  ·have hkl:k+1=L.length:=by have h3:decide ((((k+1:Nat):Int))<(L.length:Int))=false:=hlt;simp at h3;omega
   refine aE ?_;rw [hkl,take_length] at hI;have hw:=hwhole hI;refine aS (aR ?_);refine nc zl (nc ze ?_);refine aT ⟨.inr rfl,_,Wk.refl _,?_,?_,trivial⟩
   ·rw [hw.1];rfl
   ·rw [hw.2];rfl
theorem b0S (q:Bd->Bool) (L:List Bd):(a7t q L 0 = -1/\L.filter (fun b=>!q b)=L)\/∃ (i:Nat) (b:Bd),a7t q L 0=(i:Int)/\L[i]?=some b/\q b=true/\(L.take (i+1)).filter (fun b=>!q b)=L.take i:=by
 by_cases h:∃ b∈L,q b=true
 ·right;obtain ⟨k,hk,hmin⟩:=b7O (fun k=>∃ b,L[k]?=some b/\q b=true) (by
   obtain ⟨b,hb,hq⟩:=h;obtain ⟨j,hj⟩:=getElem?_of_mem hb;exact ⟨j,b,hj,hq⟩)
  obtain ⟨b,hb,hq⟩:=hk;have hf:∀ j c,j<k->L[j]?=some c->q c=false:=fun j c hj hc=>by
   cases hqc:q c with
   | false=>rfl
   | true=>have:=hmin j ⟨c,hc,hqc⟩;omega
  refine ⟨k,b,by rw [a7f hb hq hf,Nat.zero_add],hb,hq,?_⟩;rw [I4 hb,filter_append];have e1:(L.take k).filter (fun b=>!q b)=L.take k:=by
   rw [List.filter_eq_self];intro c hc;obtain ⟨j,hj⟩:=getElem?_of_mem hc;rw [getElem?_take] at hj;split at hj
   ·rename_i hjk;rw [hf j c hjk hj];rfl
   ·cases hj
  rw [e1];simp [hq]
 ·left;have hf:∀ b∈L,q b=false:=fun b hb=>by
   cases hqc:q b with
   | false=>rfl
   | true=>exact absurd ⟨b,hb,hqc⟩ h
  refine ⟨a2b hf,?_⟩;rw [List.filter_eq_self];intro c hc;rw [hf c hc];rfl
theorem b0K (q:Bd->Bool) (fc:CV) (L:List Bd) (n:Nat) (hnl:n<=L.length) (hn:L.length<=1000000000) (hc:∀ W x,x∈L.take n->N4 Tryz.prog W fc [x.cw] (.val (.b (q x)))) :
  r7 Tryz.prog 107 [(400000,.mrow 99 3 (L.map Bd.cv))] [.sl 400000 0 n 3,.val fc] (.sl 400000 0 ((L.take n).filter (fun b=>!q b)).length 3) [(400000,.mrow 99 3 (((L.take n).filter (fun b=>!q b)++(List.replicate (n-((L.take n).filter (fun b=>!q b)).length) Bd.zero++L.drop n)).map Bd.cv))]:=by
 refine l8 Tryz.func107 Tryz.ntmps107 rfl rfl rfl rfl rfl rfl ?_;intro w U hU;obtain ⟨R,hR⟩:∃ R,R=(L.take n).filter (fun b=>!q b):=⟨_,rfl⟩
 rw [<-hR];have hidx:=b0X q fc L n hnl hn hc;refine aS (aR ?_);refine nc ze ?_;refine aS (aR ?_);refine nc zl (nc zl (nc (z5 (z:=hidx) (G:=j5 (by first | rfl | kernel_rfl))) (nc ze ?_)));refine aS (aS (aR ?_));refine nc zl (nc zt ?_);rcases b0S q (L.take n) with ⟨hi,hf⟩ | ⟨i,b,hi,hb,hqb,hf⟩
 ·rw [<-hR] at hf;have hl:R.length=n:=by rw [hf];simp;omega
  refine aC rfl (fun _=>?_) (fun h=>?_)
  ·refine aS (aR ?_);refine nc zl (nc ze ?_);refine aT ⟨.inr rfl,_,Wk.refl _,?_,?_,trivial⟩
   ·rw [hl];rfl
   ·rw [hl,Nat.sub_self,List.replicate_zero,List.nil_append,hf,List.take_append_drop];rfl
  ·have h:decide (a7t q (L.take n) 0 = -1)=false:=h;rw [hi] at h;cases h
 ·have hin:i<n:=by
   rw [getElem?_take] at hb;split at hb
   ·assumption
   ·cases hb
  rw [List.take_take,Nat.min_eq_left (by omega),List.take_take,Nat.min_eq_left (by omega)] at hf;refine aC rfl (fun h=>?_) (fun _=>?_)
  ·have h:decide (a7t q (L.take n) 0 = -1)=true:=h;rw [hi] at h;simp at h
  refine aK ?_;refine AWp.wk (a7 (s':=[(0,.sl 400000 0 n 3),(1,.val fc),(5,.val (.i i)),(400000,.mrow 99 3 (L.map Bd.cv))]) ⟨rfl,rfl,by rw [<-hi];rfl,rfl,trivial⟩) ?_;refine aS (aS (aR ?_));refine nc zl (nc zu (nc ze ?_))
  let st:Nat->Nat->List Bd->AS:=fun j ii C=>[(0,.sl 400000 0 n 3),(1,.val fc),(5,.val (.i ii)),(6,.val (.i ((j+1:Nat):Int))),(400000,.mrow 99 3 (C.map Bd.cv))]
  refine aB (n4 (fun m s=>∃ j ii C,m=n-j/\j+1<=n/\ii<=j/\C.length=L.length/\C.take ii=(L.take (j+1)).filter (fun b=>!q b)/\(∀ p,j+1<=p->C[p]?=L[p]?)/\s=st j ii C) (s':=st i i L) (a7 ⟨rfl,rfl,rfl,rfl,rfl,trivial⟩) ⟨i,i,L,rfl,by omega,Nat.le_refl _,rfl,hf.symm,fun _ _=>rfl,rfl⟩ ?_);rintro m s ⟨j,ii,C,hm,hj1,hj2,hC,hI1,hI2,rfl⟩;refine aS (aS (aR ?_));refine nc zl (nc zl (nc zY (nc zi ?_)));refine aC rfl (fun hlt=>?_) (fun hlt=>?_)
  ·have hjl:j+1<n:=by have h3:decide ((((j+1:Nat):Int))<(n:Int))=true:=hlt;simp at h3;omega
   obtain ⟨x,hx⟩:∃ x,L[j+1]?=some x:=⟨L[j+1]'(by omega),getElem?_eq_getElem (by omega)⟩
   have hx':=Bd.map_at ((hI2 _ (by omega)).trans hx);have hxm:x∈L.take n:=mem_of_getElem? (i:=j+1) (by rw [getElem?_take,if_pos hjl];exact hx);refine aK ?_;refine aS (aB (aS (aR ?_)));refine nc zl (nc zl (nc (zM (k:=j+1)) (nc (zN (G:=hx')) (nc zk (nc zo ?_)))));refine aS (aR ?_);refine nc zl (nc zy (nc (zO (E:=hc _ x hxm)) (nc z0 ?_)));refine aC rfl (fun hq=>?_) (fun hq=>?_)
   ·have hq:q x=false:=by simpa using hq
    obtain ⟨z,hz⟩:∃ z,C[ii]?=some z:=⟨C[ii]'(by omega),getElem?_eq_getElem (by omega)⟩
    have hz':=Bd.map_at hz;refine aS (aR ?_);refine nc zl (nc zl (nc zy (nc (zM (k:=ii)) (nc (zQ (F:=hz')) ?_))));refine aR ?_;refine nc zl (nc zu (nc ze ?_));refine aR ?_;refine nc zl (nc zu (nc ze ?_));refine ⟨n-(j+1),st (j+1) (ii+1) (C.set ii x),by omega,⟨j+1,ii+1,C.set ii x,rfl,by omega,by omega,by simp [hC],?_,fun p hp=>?_,rfl⟩,a7 ⟨rfl,rfl,rfl,rfl,?_,trivial⟩⟩
    ·rw [a9l (by omega),hI1,I4 (k:=j+1) hx,filter_append];simp [hq]
    ·rw [getElem?_set_ne (by omega)];exact hI2 p (by omega)
    ·show some (AV.mrow _ _ _)=some (AV.mrow _ _ _);rw [w8]
   ·have hq:q x=true:=by simpa using hq
    refine aK ?_;refine AWp.wk (a7 (s':=st j ii C) ⟨rfl,rfl,rfl,rfl,rfl,trivial⟩) ?_;refine aR ?_;refine nc zl (nc zu (nc ze ?_));refine ⟨n-(j+1),st (j+1) ii C,by omega,⟨j+1,ii,C,rfl,by omega,by omega,hC,?_,fun p hp=>hI2 p (by omega),rfl⟩,a7 ⟨rfl,rfl,rfl,rfl,rfl,trivial⟩⟩;rw [hI1,I4 (k:=j+1) hx,filter_append];simp [hq]
  ·have hjl:j+1=n:=by have h3:decide ((((j+1:Nat):Int))<(n:Int))=false:=hlt;simp at h3;omega
   refine aE ?_;refine AWp.wk (a7 (s':=st j ii C) ⟨rfl,rfl,rfl,rfl,rfl,trivial⟩) ?_;refine aS (aR ?_);refine nc zl (nc zl (nc (zZ (j:=ii)) (nc z3 ?_)));refine aS (aR ?_);refine nc zl (nc zl (nc (z4 (j:=ii)) (nc ze ?_)));rw [hjl,<-hR] at hI1;have hkk:ii=R.length:=by rw [<-hI1];simp;omega
   have hdrop:C.drop n=L.drop n:=by
    apply List.ext_getElem?;intro p;rw [List.getElem?_drop,List.getElem?_drop];exact hI2 _ (by omega)
   refine aT ⟨.inr rfl,_,Wk.refl _,?_,?_,trivial⟩
   ·rw [<-hkk];rfl
   ·show some (AV.mrow _ _ _)=some (AV.mrow _ _ _);rw [<-hkk,<-hI1,<-hdrop,map_append,<-map_take,map_append,List.map_replicate];simp only [Nat.zero_add];rw [show ii+(n-ii)=n by omega,List.map_drop];rfl
def a2G (x y:Bd):Bool:=decide (x.v=y.v)
def N1 (L:List Bd):List Bd:=y5 (ltC a9S) 0 (L.length-1) 1 L
def s6 (L:List Bd):List Bd:=F8 a2G (N1 L) (N1 L).length
def Bd.strip (b:Bd):Bd:=⟨b.v,b.t.strip⟩
def x7 (L:List Bd):List Bd:=((s6 L).filter fun b=>!R5 b).map Bd.strip
theorem K3 (L:List Bd):(N1 L).length=L.length:=a3r _ _ _ _ _
theorem a5M {q:Bd->Bd->Bool} {L:List Bd} (n:Nat):F8 q L (n+1)=F8 q L n\/∃ x,L[n]?=some x/\F8 q L (n+1)=F8 q L n++[x]:=by
 cases n with
 | zero =>
  cases L with
  | nil=>left;rfl
  | cons x l=>right;exact ⟨x,rfl,rfl⟩
 | succ m =>
  cases hx:L[m+1]? with
  | none=>left;rw [F8];simp only [hx]
  | some x =>
   cases hy:L[m]? with
   | none=>right;exact ⟨x,rfl,by rw [F8];simp only [hx,hy]⟩
   | some y =>
    cases hq:q x y with
    | true=>left;exact a1k hx hy hq
    | false=>right;exact ⟨x,rfl,a3U hx hy hq⟩
theorem a4r {q:Bd->Bd->Bool} {L:List Bd}:∀ {n:Nat} {x:Bd},x∈F8 q L n->x∈L
 | 0,x,h=>by simp [F8] at h
 | n+1,x,h=>by
  rcases a5M (q:=q) (L:=L) n with e | ⟨y,h1,e⟩
  ·rw [e] at h;exact a4r h
  ·rw [e] at h;rcases mem_append.1 h with h | h
   ·exact a4r h
   ·rw [mem_singleton.1 h];exact mem_of_getElem? h1
theorem a9g {q:Bd->Bd->Bool} {L:List Bd}:∀ {n:Nat},(F8 q L n).length<=n
 | 0=>Nat.le_refl _
 | n+1=>by
  have ih:=a9g (q:=q) (L:=L) (n:=n);rcases a5M (q:=q) (L:=L) n with e | ⟨y,h1,e⟩
  ·rw [e];omega
  ·rw [e];simp;omega
theorem a9N {lt:Bd->Bd->Bool} {a:Nat}:∀ {j:Nat} {L:List Bd} {z:Bd},z∈X2 lt a j L↔z∈L
 | 0,L,z=>Iff.rfl
 | j+1,L,z=>by
  rw [X2];split
  ·rename_i x y hx hy;split
   ·rw [a9N];have hj:j+1<L.length:=by
     rcases Nat.lt_or_ge (j+1) L.length with h | h
     ·exact h
     ·rw [List.getElem?_eq_none h] at hx;cases hx
    have hxe:L[j+1]=x:=by rw [getElem?_eq_getElem hj] at hx;exact Option.some.inj hx
    have hye:L[j]'(by omega)=y:=by rw [getElem?_eq_getElem (by omega)] at hy;exact Option.some.inj hy
    constructor
    ·intro h;rcases a0z h with h | rfl
     ·rcases a0z h with h | rfl
      ·exact h
      ·exact mem_of_getElem? hy
     ·exact mem_of_getElem? hx
    ·intro h;obtain ⟨i,hi⟩:=getElem?_of_mem h;by_cases e1:i=j
     ·subst e1;rw [hy] at hi;cases hi;exact mem_of_getElem? (i:=i+1) (by rw [getElem?_set_ne (by omega),List.getElem?_set_self hj])
     ·by_cases e2:i=j+1
      ·subst e2;rw [hx] at hi;cases hi;exact mem_of_getElem? (i:=j) (by rw [List.getElem?_set_self (by simp;omega)])
      ·exact mem_of_getElem? (i:=i) (by rw [getElem?_set_ne (Ne.symm e1),getElem?_set_ne (Ne.symm e2)];exact hi)
   ·exact Iff.rfl
  ·exact Iff.rfl
theorem a3y {lt:Bd->Bd->Bool} {a:Nat}:∀ {n i:Nat} {L:List Bd} {z:Bd},z∈y5 lt a n i L↔z∈L
 | 0,_,_,_=>Iff.rfl
 | n+1,i,L,z=>by rw [y5,a3y,a9N]
theorem V2 {L:List Bd} {x:Bd} (h:x∈s6 L):x∈L:=a3y.1 (a4r h)
theorem N2 (L:List Bd):(s6 L).length<=L.length:=by
 have:=a9g (q:=a2G) (L:=N1 L) (n:=(N1 L).length);rw [K3] at this;unfold s6;rw [K3];exact this
theorem a8u (L:List Bd) (hn:L.length<=1000000) (hso:r7 Tryz.prog 133 [(400000,.mrow 99 3 (L.map Bd.cv))] [.sl 400000 0 L.length 3,.val (.sc (.func (.func 134) #[] #[]))] (.tup []) [(400000,.mrow 99 3 ((N1 L).map Bd.cv))]) :
  r7 Tryz.prog 108 [] [.val (.lst (L.map Bd.cv))] (.sl 400000 0 (s6 L).length 3) [(400000,.mrow 99 3 ((s6 L++List.replicate (L.length-(s6 L).length) Bd.zero).map Bd.cv))]:=by
 refine l8 Tryz.func108 Tryz.ntmps108 rfl rfl rfl rfl rfl rfl ?_;intro w U hU;have hUf:U.f 400000=none:=by
  cases h:U.f 400000 with
  | none=>rfl
  | some v=>have:=hU _ _ h;cases this
 have hcl:=b0v L (by omega);have hco:=a8x a2G (.sc (.func (.func 136) #[] #[])) (N1 L) (by rw [K3];omega) (fun W x y => .inr ⟨_,rfl,b3z W x y⟩);refine aS (aR ?_);refine nc ze ?_;refine aS (aR ?_);refine nc zl (nc (z5 (z:=hcl) (G:=j5 (by first | rfl | kernel_rfl))) (nc ze ?_));refine AWp.wk ((a7 (s':=[(3,.sl 250007 0 L.length 3),(250007,.mrow 99 3 (L.map Bd.cv))]) ⟨rfl,rfl,trivial⟩).trans (w9 250007 400000 rfl rfl hUf rfl rfl rfl)) ?_;refine aS (aR ?_);refine nc zl (nc (z5 (z:=hso) (G:=j5 (by first | rfl | kernel_rfl))) ?_);refine AWp.wk (a7 (s':=[(3,.sl 400000 0 (N1 L).length 3),(400000,.mrow 99 3 ((N1 L).map Bd.cv))]) ⟨by rw [K3];rfl,rfl,trivial⟩) ?_;refine aS (aR ?_);refine nc zl (nc (z5 (z:=hco) (G:=j5 (by first | rfl | kernel_rfl))) (nc ze ?_));refine aT ⟨.inr rfl,_,Wk.refl _,rfl,?_,trivial⟩;show some (AV.mrow _ _ _)=some (AV.mrow _ _ _);rw [K3];unfold s6;rw [K3]
theorem b3N (W:World) (L:List Bd) (hn:L.length<=1000000) (hb:bdsOk L) (hfi:r7 Tryz.prog 108 [] [.val (.lst (L.map Bd.cv))] (.sl 400000 0 (s6 L).length 3) [(400000,.mrow 99 3 ((s6 L++List.replicate (L.length-(s6 L).length) Bd.zero).map Bd.cv))]):AFun Tryz.prog W 74 [.lst (L.map Bd.cv)] (.val (.lst ((x7 L).map Bd.cv))):=by
 refine b9 (rs:=[.lst ((x7 L).map Bd.cv)]) Tryz.func74 Tryz.ntmps74 rfl rfl rfl rfl ?_;intro w U hW;obtain ⟨F,hF⟩:∃ F,F=s6 L++List.replicate (L.length-(s6 L).length) Bd.zero:=⟨_,rfl⟩
 rw [<-hF] at hfi;have hFl:F.length=L.length:=by rw [hF];have:=N2 L;simp;omega
 have hFt:F.take (s6 L).length=s6 L:=by rw [hF];simp
 have hde:=b0K R5 (.sc (.func (.func 109) #[] #[])) F (s6 L).length (by rw [hFl];exact N2 L) (by omega) (fun W x hx => .inr ⟨_,rfl,b5a W x (by rw [hFt] at hx;exact ((Tm.rng_iff _).1 (hb x (V2 hx)).1).1.1)⟩);rw [hFt] at hde;obtain ⟨R,hR⟩:∃ R,R=(s6 L).filter fun b=>!R5 b:=⟨_,rfl⟩
 rw [<-hR] at hde;obtain ⟨Z,hZ⟩:∃ Z,Z=List.replicate ((s6 L).length-R.length) Bd.zero++F.drop (s6 L).length:=⟨_,rfl⟩
 rw [<-hZ] at hde;have hRm:∀ x∈R,x∈L:=fun x hx=>by rw [hR] at hx;exact V2 (mem_filter.1 hx).1
 have hRl:R.length<=L.length:=by rw [hR];exact Nat.le_trans (List.length_filter_le _ _) (N2 L)
 refine aS (aR ?_);refine nc ze ?_;refine aS (aR ?_);refine nc zl ?_;refine nc (z5 (z:=hfi) (G:=fun k v h=>by first | (rw [hW.1] at h;cases h) | (have h2:=hU k v h;cases h2))) ?_;refine nc (z5 (z:=hde) (G:=j5 (by first | rfl | kernel_rfl))) (nc ze ?_);refine aS (aS (aR ?_));refine nc zl (nc zY (nc zl ?_))
 let C:Nat->List Bd:=fun k=>(R.take k).map Bd.strip++(R.drop k++Z)
 refine aB (p6 R.length (fun k=>[(3,.sl 400000 0 R.length 3),(9,.sl 400000 0 R.length 3),(10,.val (.i R.length)),(11,.val (.i k)),(400000,.mrow 99 3 ((C k).map Bd.cv))]) (a7 ⟨rfl,rfl,rfl,rfl,rfl,trivial⟩) ?_);intro k hk;have hCl:(C k).length=R.length+Z.length:=by simp [C];omega
 refine aS (aR ?_);refine nc zi ?_;refine aS (aC rfl (fun hlt=>?_) (fun hlt=>?_))
 ·have hkl:k<R.length:=by simpa using hlt
  obtain ⟨x,hx⟩:∃ x,R[k]?=some x:=⟨R[k],getElem?_eq_getElem hkl⟩
  have hxC:(C k)[k]?=some x:=by
   show ((R.take k).map Bd.strip++(R.drop k++Z))[k]?=some x;rw [List.getElem?_append_right (by simp;omega),List.getElem?_append_left (by simp;omega),List.getElem?_drop];simp only [length_map,List.length_take,Nat.min_eq_left (Nat.le_of_lt hkl),Nat.sub_self,Nat.add_zero];exact hx
  have hx':=Bd.map_at hxC;have hxo:=hb x (hRm x (mem_of_getElem? hx));refine aK ?_;refine aS (aB (aS (aR ?_)));refine nc zl (nc (zM (k:=k)) (nc (zN (G:=hx')) (nc zk (nc ze (nc zo ?_)))));refine aR ?_;refine nc zl (nc zl (nc zg (nc zh (nc (zw (z:=a1R _ hxo.1 hxo.2)) (nc (zM (k:=k)) (nc z7 (nc (zQ (F:=hx')) ?_)))))));refine aR ?_;refine nc zu (nc zl ?_);refine ⟨hkl,a7 ⟨rfl,rfl,rfl,rfl,?_,trivial⟩⟩;show some (AV.mrow _ _ _)=some (AV.mrow _ _ _);have e1:((C k).map Bd.cv).set k (Bd.strip x).cw=(C (k+1)).map Bd.cv:=by
   rw [w8];congr 1;show ((R.take k).map Bd.strip++(R.drop k++Z)).set k (Bd.strip x)=(R.take (k+1)).map Bd.strip++(R.drop (k+1)++Z);rw [List.set_append_right _ _ (by simp;omega)];simp only [length_map,List.length_take,Nat.min_eq_left (Nat.le_of_lt hkl),Nat.sub_self];have e2:R.drop k=x::R.drop (k+1):=by
    rw [getElem?_eq_getElem hkl] at hx;rw [<-Option.some.inj hx,List.getElem_cons_drop]
   rw [e2,I4 hx,map_append];simp
  rw [<-e1];rfl
 ·have hkl:k=R.length:=by
   have:¬ k<R.length:=by simpa using hlt
   omega
  subst hkl;refine aE ?_;refine aS (aR ?_);refine nc zl (nc ze ?_);refine AWp.wk (a8g 2 400000 rfl rfl rfl (.inl hW.2) (by rw [length_map,hCl];omega) (s':=[]) trivial rfl) ?_;refine aT ⟨.inr rfl,?_⟩;show some [CV.lst _]=some [CV.lst _];congr 3;show (((C R.length).map Bd.cv).drop 0).take R.length=(x7 L).map Bd.cv;rw [List.drop_zero,<-map_take];congr 1;show (((R.take R.length).map Bd.strip++(R.drop R.length++Z))).take R.length=x7 L;rw [take_length,List.take_append_of_le_length (by simp),List.take_of_length_le (by simp),hR];rfl
theorem ltB (x y:Bd):ltC a9S x y=decide (x.v<y.v):=by
 unfold ltC a9S J5;by_cases h:x.v<y.v
 ·simp [h]
 ·by_cases h2:x.v>y.v
  ·simp [h,h2]
  ·simp [h,h2]
theorem b2L {α:Type} (A:List α) (x:α) (B:List α):(A++x::B)[A.length]?=some x:=by simp
theorem b3Y (lt:Bd->Bd->Bool) (x:Bd) (B:List Bd):∀ (n:Nat) (A:List Bd),A.length=n->∃ A1 A2,A=A1++A2/\X2 lt 0 A.length (A++x::B)=A1++x::(A2++B)/\(∀ y∈A2,lt x y=true)/\∀ y,A1.getLast?=some y->lt x y=false:=by
 intro n
 induction n generalizing x B with
 | zero =>
  intro A hA;have:A=[]:=List.eq_nil_of_length_eq_zero hA;subst this;exact ⟨[],[],rfl,rfl,by simp,by simp⟩
 | succ n ih =>
  intro A hA;obtain ⟨A',y,rfl⟩:∃ A' y,A=A'++[y]:=⟨A.dropLast,A.getLast (by intro h;rw [h] at hA;simp at hA),(List.dropLast_concat_getLast _).symm⟩
  have hl:A'.length=n:=by simp at hA;omega
  have hx:(A'++[y]++x::B)[A'.length+1]?=some x:=by
   have:=b2L (A'++[y]) x B
   rwa [length_append,List.length_singleton] at this
  have hy:(A'++[y]++x::B)[A'.length]?=some y:=by
   rw [append_assoc];exact b2L A' y (x::B)
  rw [length_append,List.length_singleton];cases h:lt x y with
  | false =>
   refine ⟨A'++[y],[],by simp,?_,by simp,fun z hz=>?_⟩
   ·rw [a7F lt 0 hx hy h];simp
   ·rw [List.getLast?_append] at hz;simp at hz;subst hz;exact h
  | true =>
   rw [a4P lt 0 hx hy (by omega) h];have hsw:((A'++[y]++x::B).set (A'.length+1) y).set A'.length x=A'++x::(y::B):=by
    rw [append_assoc,List.set_append_right _ _ (by omega),show A'.length+1-A'.length=1 by omega,List.set_append_right _ _ (by simp)];simp
   rw [hsw];obtain ⟨A1,A2,e1,e2,e3,e4⟩:=ih x (y::B) A' hl;refine ⟨A1,A2++[y],by rw [e1];simp,by rw [e2];simp,fun z hz=>?_,e4⟩;rcases mem_append.1 hz with hz | hz
   ·exact e3 z hz
   ·rw [mem_singleton.1 hz];exact h
def b2c (l:List Bd):Prop:=l.Pairwise fun x y=>x.v<=y.v
theorem b9v {A1 A2:List Bd} {x:Bd} (h:b2c (A1++A2)) (h2:∀ y∈A2,x.v<y.v) (h1:∀ y,A1.getLast?=some y->¬ x.v<y.v):b2c (A1++x::A2):=by
 unfold b2c at h |-;rw [List.pairwise_append] at h |-;refine ⟨h.1,List.pairwise_cons.2 ⟨fun y hy=>Int.le_of_lt (h2 y hy),h.2.1⟩,fun a ha b hb=>?_⟩;rcases mem_cons.1 hb with rfl | hb
 ·
  obtain ⟨A',z,rfl⟩:∃ A' z,A1=A'++[z]:=⟨A1.dropLast,A1.getLast (List.ne_nil_of_mem ha),(List.dropLast_concat_getLast _).symm⟩
  have hz:=h1 z (by simp);rcases mem_append.1 ha with ha | ha
  ·have:=(List.pairwise_append.1 h.1).2.2 a ha z (by simp);omega
  ·rw [mem_singleton.1 ha];omega
 ·exact h.2.2 a ha b hb
theorem b6d {A1 A2:List Bd} {x:Bd} (h2:∀ y∈A2,x.v<y.v) (v:Int):(A1++x::A2).filter (fun b=>decide (b.v=v))=(A1++A2++[x]).filter (fun b=>decide (b.v=v)):=by
 simp only [filter_append,List.filter_cons,List.filter_nil,append_assoc];by_cases h:x.v=v
 ·have:A2.filter (fun b=>decide (b.v=v))=[]:=by
   rw [List.filter_eq_nil_iff];intro y hy hv;have:=h2 y hy;simp at hv;omega
  rw [this];simp [h]
 ·simp [h]
theorem a2o:∀ (n:Nat) (A B:List Bd),b2c A->n<=B.length->∃ A',y5 (ltC a9S) 0 n A.length (A++B)=A'++B.drop n/\b2c A'/\A'.length=A.length+n/\∀ v,A'.filter (fun b=>decide (b.v=v))=(A++B.take n).filter (fun b=>decide (b.v=v))
 | 0,A,B,hA,_=>⟨A,by simp [y5],hA,rfl,fun v=>by simp⟩
 | n+1,A,[],hA,hn=>by simp at hn
 | n+1,A,x::B,hA,hn=>by
  obtain ⟨A1,A2,e1,e2,e3,e4⟩:=b3Y (ltC a9S) x B A.length A rfl;have h2:∀ y∈A2,x.v<y.v:=fun y hy=>by have:=e3 y hy;rw [ltB] at this;simpa using this
  have h1:∀ y,A1.getLast?=some y->¬ x.v<y.v:=fun y hy=>by have:=e4 y hy;rw [ltB] at this;simpa using this
  have hs:b2c (A1++x::A2):=b9v (by rw [<-e1];exact hA) h2 h1;obtain ⟨A',f1,f2,f3,f4⟩:=a2o n (A1++x::A2) B hs (by simpa using hn);have hl:(A1++x::A2).length=A.length+1:=by rw [e1];simp;omega
  refine ⟨A',?_,f2,by rw [f3,hl];omega,fun v=>?_⟩
  ·rw [y5,e2,show A1++x::(A2++B)=(A1++x::A2)++B by simp,<-hl,f1];rfl
  ·rw [f4 v,filter_append,b6d h2 v,<-e1,List.take_succ_cons,<-filter_append,append_assoc];rfl
theorem a3P (L:List Bd):b2c (N1 L)/\∀ v,(N1 L).filter (fun b=>decide (b.v=v))=L.filter (fun b=>decide (b.v=v)):=by
 cases L with
 | nil=>exact ⟨List.Pairwise.nil,fun v=>rfl⟩
 | cons x l =>
  obtain ⟨A',f1,f2,f3,f4⟩:=a2o l.length [x] l (List.pairwise_singleton _ _) (Nat.le_refl _);have e:N1 (x::l)=A':=by
   unfold N1;rw [List.length_cons,Nat.add_sub_cancel];have:=f1;rw [List.drop_length,List.append_nil] at this;exact this
  rw [e];exact ⟨f2,fun v=>by rw [f4 v,take_length];rfl⟩
theorem R0:∀ (L:List Bd) (v:Int),b7 L v=(L.filter (fun b=>decide (b.v=v))).head?.map Bd.t
 | [],_=>rfl
 | b::L,v=>by
  rw [b7];by_cases h:b.v=v
  ·simp [h]
  ·rw [if_neg h,R0 L v];simp [h]
theorem b1j (L:List Bd) (v:Int):b7 (N1 L) v=b7 L v:=by rw [R0,R0,(a3P L).2]
theorem a0D (L:List Bd) (x:Bd) (v:Int):b7 (L++[x]) v=(b7 L v).or (if x.v=v then some x.t else none):=by
 induction L with
 | nil=>simp only [List.nil_append,b7];split<;>rfl
 | cons b L ih =>
  rw [List.cons_append,b7,b7];split
  ·rfl
  ·exact ih
theorem a0F {L:List Bd} {x:Bd} (h:x∈L):∃ t,b7 L x.v=some t:=by
 induction L with
 | nil=>cases h
 | cons b L ih =>
  rw [b7];split
  ·exact ⟨_,rfl⟩
  ·rename_i hne;rcases mem_cons.1 h with rfl | h
   ·exact absurd rfl hne
   ·exact ih h
theorem a9n {S:List Bd} (hS:b2c S):∀ (m:Nat),m<=S.length->(∀ v,b7 (F8 a2G S m) v=b7 (S.take m) v)/\(F8 a2G S m).Pairwise (fun x y=>x.v<y.v)/\∀ (k:Nat) (y:Bd),m=k+1->S[k]?=some y->∀ x∈F8 a2G S m,x.v<=y.v
 | 0,_=>⟨fun v=>rfl,List.Pairwise.nil,fun k y h=>by omega⟩
 | 1,h=>by
  cases S with
  | nil=>simp at h
  | cons x l =>
   rw [a9h];exact ⟨fun v=>rfl,List.pairwise_singleton _ _,fun k y hk hy z hz=>by
    have:k=0:=by omega
    subst this;simp at hy hz;subst hy;subst hz;exact Int.le_refl _⟩
 | m+2,h=>by
  obtain ⟨ih1,ih2,ih3⟩:=a9n hS (m+1) (by omega);obtain ⟨x,hx⟩:∃ x,S[m+1]?=some x:=⟨S[m+1],getElem?_eq_getElem (by omega)⟩
  obtain ⟨y,hy⟩:∃ y,S[m]?=some y:=⟨S[m]'(by omega),getElem?_eq_getElem (by omega)⟩
  have hle:y.v<=x.v:=by
   have:=List.pairwise_iff_getElem.1 hS m (m+1) (by omega) (by omega) (by omega);rw [getElem?_eq_getElem (by omega)] at hx hy;rw [<-Option.some.inj hx,<-Option.some.inj hy];exact this
  have htk:=I4 hx;cases hq:a2G x y with
  | true =>
   have hv:x.v=y.v:=by simpa [a2G] using hq
   rw [a1k hx hy hq];refine ⟨fun v=>?_,ih2,fun k z hk hz w hw=>?_⟩
   ·rw [ih1 v,htk,a0D];by_cases e:x.v=v
    ·obtain ⟨t,ht⟩:=a0F (L:=S.take (m+1)) (x:=y) (mem_of_getElem? (i:=m) (by rw [getElem?_take,if_pos (by omega)];exact hy));rw [<-e,hv,ht];rfl
    ·rw [if_neg e];simp
   ·have:k=m+1:=by omega
    subst this;rw [hx] at hz;cases hz;rw [hv];exact ih3 m y rfl hy w hw
  | false =>
   have hv:x.v≠y.v:=by simpa [a2G] using hq
   rw [a3U hx hy hq];refine ⟨fun v=>by rw [a0D,ih1 v,htk,a0D],?_,fun k z hk hz w hw=>?_⟩
   ·rw [List.pairwise_append];refine ⟨ih2,List.pairwise_singleton _ _,fun a ha b hb=>?_⟩;rw [mem_singleton.1 hb];have:=ih3 m y rfl hy a ha;omega
   ·have:k=m+1:=by omega
    subst this;rw [hx] at hz;cases hz;rcases mem_append.1 hw with hw | hw
    ·have:=ih3 m y rfl hy w hw;omega
    ·rw [mem_singleton.1 hw];exact Int.le_refl _
theorem R3 (L:List Bd):(∀ v,b7 (s6 L) v=b7 L v)/\(s6 L).Pairwise (fun x y=>x.v<y.v):=by
 obtain ⟨h1,h2,_⟩:=a9n (a3P L).1 (N1 L).length (Nat.le_refl _);refine ⟨fun v=>?_,h2⟩;have:=h1 v;rw [take_length,b1j] at this;exact this
theorem b4E {L:List Bd} (v:Int):b7 (L.map Bd.strip) v=(b7 L v).map Tm.strip:=by
 induction L with
 | nil=>rfl
 | cons b L ih =>
  rw [map_cons,b7,b7];show (if b.v=v then _ else _)=_;split
  ·rfl
  ·exact ih
theorem b1o {L:List Bd} (h:L.Pairwise (fun x y=>x.v<y.v)) (v:Int):b7 (L.filter fun b=>!R5 b) v=match b7 L v with | some t=>if R5 ⟨v,t⟩ then none else some t | none=>none:=by
 induction L with
 | nil=>rfl
 | cons b L ih =>
  rw [List.pairwise_cons] at h;rw [List.filter_cons];by_cases hv:b.v=v
  ·have hno:∀ c∈L,c.v≠v:=fun c hc=>by have:=h.1 c hc;omega
   have hb:(⟨v,b.t⟩:Bd)=b:=by rw [<-hv]
   rw [b7,if_pos hv];simp only;rw [hb];cases hi:R5 b with
   | true =>
    simp only [Bool.not_true,Bool.false_eq_true,if_false,if_true];exact B1 fun c hc=>hno c (mem_filter.1 hc).1
   | false =>
    simp only [Bool.not_false,if_true,Bool.false_eq_true,if_false];rw [b7,if_pos hv]
  ·rw [b7,if_neg hv];split
   ·rw [b7,if_neg hv];exact ih h.2
   ·exact ih h.2
theorem a0x (L:List Bd) (v:Int):b7 (x7 L) v=match b7 L v with | some t=>if R5 ⟨v,t⟩ then none else some t.strip | none=>none:=by
 unfold x7;rw [b4E,b1o (R3 L).2,(R3 L).1];cases b7 L v with
 | none=>rfl
 | some t=>simp only;split<;>rfl
theorem Z2 (L:List Bd):(x7 L).Pairwise (fun x y=>x.v<y.v):=by
 unfold x7;rw [List.pairwise_map];exact ((R3 L).2.filter _).imp (fun h=>h)
theorem a0J {t:Tm} (h:t.f<0):t.strip=⟨t.f,[]⟩:=by
 rw [Tm.strip_eq];have:t.ps=[]:=by unfold Tm.ps;rw [if_pos h]
 rw [this];rfl
end Go.Proofs.YtglmoficcjphaaaGreat
