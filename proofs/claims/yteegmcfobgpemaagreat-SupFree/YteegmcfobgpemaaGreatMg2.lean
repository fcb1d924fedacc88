/-
 AbTok AbFn AbLit TmMath AbTm TmMem TmSmall TmCmp FrRange TmIter TmCount TmApp TmClone TmConcat TmPlaces TmVars TmOf TmFine AbBr SbMath TmSm TmPlA TmPlB TmPlC AbOff
-/
import Derived.Test.YteegmcfobgpemaaGreatMg1
import Derived.Test.YteegmcfobgpemaaGreatChecked
import Derived.Deep.QuietTactic
import Derived.BigQuiet
import Derived.Deep.RegionHeld3
import Derived.RangeFuncNested
import Derived.RangeFuncBound
import Derived.RangeFuncCalls
import Derived.RangeFuncLeaves
import Derived.RangeFuncBox
import Derived.Shelf.Abstract
import Derived.Shelf.RegionOpen
import Derived.WalkKit
import Derived.OwnWalkIn
import Derived.TacticsInMore
import Derived.LoopNIn
import Derived.LoopIn
import Derived.RangeFuncWrites
import Derived.Maps.AppendAt
import Derived.Lib.AppendZeros
import Derived.Maps.OwnIn
import Derived.Maps.OwnSet
import Derived.Maps.Views
import Derived.Deep.RegionLaw
namespace Go.Proofs.YteegmcfobgpemaaGreat
open List (append_toArray cons_append flatMap_cons getElem?_eq_getElem length_append length_cons length_map length_nil map_append map_cons mem_append_left mem_append_right mem_cons mem_cons_of_mem mem_map mem_of_getElem? nil_append push_toArray size_toArray take_add_one)
open Go.RowKit
set_option linter.unusedVariables false
set_option linter.unusedSimpArgs false
set_option maxRecDepth 100000
section
variable{P:Program}{w0:World}{U0:UX}{nt:Nat}{s:AS}
theorem X8{a b:Nat}(h:a≠b):Nat.beq a b=false:=by
 cases e:Nat.beq a b with
 | false=>rfl
 | true=>exact absurd (Nat.eq_of_beq_eq_true e) h
theorem rnB{n:Nat}(h:(Nat.ble 200000 n&&Nat.blt n 400000)=true):200000<=n/\n<400000:=by
 rw[Bool.and_eq_true]at h;exact⟨Nat.le_of_ble_eq_true h.1,bL h.2⟩
theorem b8A{hv:Nat->Value}:J1 hv 1=.slice none 0 0:=rfl
theorem M9(kk n e z:Nat){av:AV}(hk:look s kk=some av)(h1:av.n=1)(dB:(Nat.beq av.t 0||Nat.beq av.t 5)=true)(gF:Nat.blt kk 200000=true)(hn:(Nat.ble 200000 n&&Nat.blt n 400000)=true)(hz:Nat.blt 0 z=true)(hr:A6 s [(n,[])]=true):Wk w0 U0 nt s ((n,.tok e z)::(kk,{ av with n:=n })::s):=by
 rintro a w ⟨D,hv,h⟩;obtain⟨hn,jB⟩:=rnB hn;have gF:=bL gF;have hz:=bL hz;have hr:=(q9 hr (n,[]) (by simp)).nr;have ht2:av.t=0\/av.t=5:=by rw[Bool.or_eq_true]at dB;exact dB.imp Nat.eq_of_beq_eq_true Nat.eq_of_beq_eq_true
 obtain⟨gA,gJ⟩:∃gA:Nat->Value,gA=λx=>if x=n then .slice none 0 0 else hv x:=⟨_,rfl⟩
 have hG:SimG w0 U0 nt ((n,.tok e z)::s) a w D gA:=by rw[gJ];exact h.newrow (X:=λ_=>False) (v':=.slice none 0 0) ⟨hn,jB⟩ hr (by simp) (BelowX.refl _ _) (λb hb=>hb.elim) (λg hg=>by cases hg) (λb o hd => .inl hd) h.dlt (λb o u h1 h2=>⟨h1,h2⟩) (λhv lv=>by unfold OC;exact⟨0,[],World.ownsRow_nil _ _ _ _,hz⟩)
 have kR:gA n=.slice none 0 0:=by rw[gJ];simp
 obtain⟨t,ht⟩:∃t,t=(n,AV.tok e z)::(kk,{ av with n:=n })::s:=⟨_,rfl⟩
 obtain⟨t0,lE⟩:∃t0,t0=(n,AV.tok e z)::s:=⟨_,rfl⟩
 rw[<-ht];rw[<-lE]at hG;have kB:∀k,k≠kk->look t k=look t0 k:=λk h2=>by
  rw[ht,lE];by_cases e:n=k
  ·subst e;rw[lS,lS]
  ·rw[lN e,lN e,lN (Ne.symm h2)]
 have kA:look t kk=some { av with n:=n }:=by rw[ht,lN (by omega),lS]
 have iL:look t0 kk=some av:=by rw[lE,lN (by omega)];exact hk
 have hl:∀m f,v8 t m f↔v8 t0 m f:=λm f=>by
  unfold v8;by_cases e:m=kk
  ·constructor<;>rintro⟨_,h3,_⟩<;>omega
  ·rw[kB m e]
 have kM:a9 t=a9 t0:=by funext m;simp only[a9,hl]
 have bU:a9 t0 n:=.inr ⟨(e,z),by rw[lE];exact⟨lS _ _ _,hn,jB⟩⟩;have eB:∀us,Tk gA (a9 t0) av us->Tk gA (a9 t0) { av with n:=n } us:=λus h2 _=>by obtain⟨m,c,g1,g2⟩:=h2 (.inl h1);refine⟨m,c,g1,?_⟩;rw[g2,h1,b8A];unfold J1;simp only;rw[if_neg (by omega),kR]
 refine⟨D,gA,hG.below,hG.dfr,hG.size,λd av' h2 h3=>?_,λm o av' h2 h3 h4 h6=>?_,λm o o' av1 av2 h2 h3=>?_,λk av' h2 h3=>?_,λk av' g h2 h3 h4 h6=>?_,λk k' av1 av2 g h2 h3 h4 h6 h7 h8 kF=>?_,hG.fix,hG.dlt⟩
 ·rw[kM];by_cases e:d=kk
  ·subst e;rw[kA]at h2;cases h2;obtain⟨v,g4,g5⟩:=hG.slot d av iL h3;refine⟨v,g4,?_⟩;unfold AVRep at g5 |-;simp only;rcases ht2 with ht2 | ht2
   ·rw[if_pos ht2]at g5 |-;exact⟨g5.1,eB _ g5.2⟩
   ·rw[if_neg (by omega),if_neg (by omega),if_neg (by omega),if_neg (by omega),if_neg (by omega),if_neg (by omega),if_neg (by omega),if_neg (by omega),if_neg (by omega),if_neg (by omega)]
    first | trivial | exact b6J (by simp only;omega)
  ·rw[kB d e]at h2;exact hG.slot d av' h2 h3
 ·rw[kM];rw[kB _ (by unfold i7;omega)]at h2;have kF:100000+m≠kk:=λe=>by rw[e,kA]at h4;injection h4 with h4;rcases ht2 with ht2 | ht2<;>(have:=congrArg AV.t h4;simp only at this;omega)
  rw[kB _ kF]at h4;exact hG.fld m o av' h2 h3 h4 h6
 ·rw[kB _ (by unfold i7;omega)]at h2 h3;exact hG.fdis m o o' av1 av2 h2 h3
 ·rw[kM];by_cases e:k=kk
  ·subst e;rw[kA]at h2;cases h2;have g5:=hG.obj k av iL h3;unfold OC at g5 |-;simp only;rcases ht2 with ht2 | ht2
   ·rw[if_neg (by omega),if_neg (by omega),if_neg (by omega),if_neg (by omega),if_neg (by omega)]
    first | trivial | exact b6J (by simp only;omega)
   ·rw[if_pos ht2]at g5 |-;obtain⟨g,xs,ty,e1,e2,e3,e4⟩:=g5;exact⟨g,xs,ty,e1,e2,e3,eB _ e4⟩
  ·rw[kB k e]at h2;exact hG.obj k av' h2 h3
 ·by_cases e:k=kk
  ·subst e;rw[kA]at h2;cases h2;have:=hG.blk k av g iL h3 h4 h6;exact this
  ·rw[kB k e]at h2;exact hG.blk k av' g h2 h3 h4 h6
 ·have conv:∀q (aq:AV),look t q=some aq->aq.t≠7->∃aq',look t0 q=some aq'/\aq'.t≠7:=λq aq f1 f2=>by
   by_cases e:q=kk
   ·subst e;rw[kA]at f1;cases f1;exact⟨av,iL,f2⟩
   ·rw[kB q e]at f1;exact⟨aq,f1,f2⟩
  obtain⟨a1,b1,c1⟩:=conv k av1 h2 h7
  obtain⟨a2,b2,c2⟩:=conv k' av2 h3 h8
  exact hG.disj k k' a1 a2 g b1 b2 h4 h6 c1 c2 kF
def c1b(k:Nat):AS->AS
 | []=>[]
 | (d,av)::s=>(d,match Nat.beq d k with | true=>(match Nat.beq av.t 0||Nat.beq av.t 5 with | false=>av | true=>⟨av.t,av.c,0,av.o,av.p⟩) | false=>av)::c1b k s
def r6(n n':Nat)(av:AV):AV:=⟨av.t,av.c,match Nat.beq av.t 2,Nat.beq av.n n with | false,true=>n' | _,_=>av.n,av.o,av.p⟩
def ren(n n':Nat):AS->AS
 | []=>[]
 | (k,av)::s=>(match Nat.beq k n with | true=>n' | false=>k,r6 n n' av)::ren n n' s
def V4(s:AS)(n:Nat):Bool:=s.all λp=>!Nat.beq p.1 n
theorem a5B{n n':Nat}:∀{s:AS},V4 s n'=true->∀{k:Nat} {av:AV},look (ren n n' s) k=some av->∃k0 av0,look s k0=some av0/\av=r6 n n' av0/\((k0=n/\k=n')\/(k0≠n/\k0≠n'/\k=k0))
 | [],_,k,av,h=>by simp[ren,look]at h
 | (d,x)::s,kZ,k,av,h=>by
  unfold V4 at kZ;rw[List.all_cons,Bool.and_eq_true]at kZ;have eD:d≠n':=λe=>by have:=kZ.1;rw[e]at this;simp at this
  obtain⟨kd,hkd⟩:∃kd,kd=(match Nat.beq d n with | true=>n' | false=>d):=⟨_,rfl⟩
  rw[ren,<-hkd,k9]at h;split at h
  ·rename_i e;rw[hkd]at e;cases h;by_cases hd:d=n
   ·subst hd;refine⟨d,x,lS _ _ _,rfl,.inl ⟨rfl,?_⟩⟩;rw[<-e,Nat.beq_refl]
   ·refine⟨d,x,lS _ _ _,rfl,.inr ⟨hd,eD,?_⟩⟩;rw[<-e,X8 hd]
  ·rename_i e;rw[hkd]at e;obtain⟨k0,av0,h1,h2,h3⟩:=a5B (s:=s) kZ.2 h;refine⟨k0,av0,?_,h2,h3⟩;rw[lN]
   ·exact h1
   ·rintro rfl;apply e;rcases h3 with⟨h4,h5⟩ | ⟨h4,h5,h6⟩
    ·rw[h4,Nat.beq_refl,h5]
    ·rw[X8 h4,h6]
theorem a6U{n n':Nat}{av:AV}(hn:n≠0)(gQ:n'≠0)(h:r6 n n' av=.obj):av=.obj:=by
 obtain⟨t,c,n0,o,p⟩:=av;unfold r6 at h;injection h with e1 e2 e3 e4 e5;simp only at e1 e2 e3 e4 e5;subst e1;subst e2;subst e4;subst e5;by_cases e:n0=n
 ·subst e;rw[Nat.beq_refl]at e3;exact absurd e3 gQ
 ·rw[X8 e]at e3;rw[show n0=0 from e3]
theorem a2B{n n' e z:Nat}{av:AV}(hn:n≠0)(gQ:n'≠0)(h:r6 n n' av=.tok e z):av=.tok e z:=by
 obtain⟨t,c,n0,o,p⟩:=av;unfold r6 at h;injection h with e1 e2 e3 e4 e5;simp only at e1 e2 e3 e4 e5;subst e1;subst e2;subst e4;subst e5;by_cases e:n0=n
 ·subst e;rw[Nat.beq_refl]at e3;exact absurd e3 gQ
 ·rw[X8 e]at e3;rw[show n0=0 from e3]
def rOk(s:AS)(n n':Nat):Bool:=match look s n with | some av=>Nat.beq av.t 6||Nat.blt n 300000||Nat.ble 300000 n' | none=>true
theorem rnF{n:Nat}(h:(Nat.ble 200000 n&&Nat.blt n 450000)=true):200000<=n/\n<450000:=by
 rw[Bool.and_eq_true]at h;exact⟨Nat.le_of_ble_eq_true h.1,bL h.2⟩
theorem B1(n n':Nat)(hn:(Nat.ble 200000 n&&Nat.blt n 400000)=true)(gQ:(Nat.ble 200000 n'&&Nat.blt n' 400000)=true)(hr:A6 s [(n',[])]=true)(vI:(V4 s n'&&rOk s n n')=true):Wk w0 U0 nt s (ren n n' s):=by
 rintro a w ⟨D,hv,h⟩;have hn:=rnB hn;have gQ:=rnB gQ;rw[Bool.and_eq_true]at vI;obtain⟨hk,fP⟩:=vI;have hr:=(q9 hr (n',[]) (by simp)).nr;obtain⟨t,ht⟩:∃t,t=ren n n' s:=⟨_,rfl⟩
 rw[<-ht];have kB:∀{k av},look t k=some av->∃k0 av0,look s k0=some av0/\av=r6 n n' av0/\((k0=n/\k=n')\/(k0≠n/\k0≠n'/\k=k0)):=fun{k av} h1=>by rw[ht]at h1;exact a5B hk h1
 have kV:∀{k av},look t k=some av->(k<200000\/400000<=k)->∃av0,look s k=some av0/\av=r6 n n' av0:=fun{k av} h1 h2=>by
  obtain⟨k0,av0,g1,g2,g3⟩:=kB h1;rcases g3 with⟨g4,g5⟩ | ⟨g4,g5,g6⟩
  ·omega
  ·rw[g6];exact⟨av0,g1,g2⟩
 have kI:∀{m f},v8 t m f->∃m0,v8 s m0 f/\((m0=n/\m=n')\/(m0≠n/\m0≠n'/\m=m0)):=fun{m f} h1=>by
  obtain⟨k0,av0,g1,g2,g3⟩:=kB h1.1;refine⟨k0,⟨?_,?_⟩,g3⟩
  ·rw[g1,a2B (by omega) (by omega) g2.symm]
  ·have:=h1.2;rcases g3 with⟨g4,g5⟩ | ⟨g4,g5,g6⟩<;>omega
 obtain⟨gA,gJ⟩:∃gA:Nat->Value,gA=λx=>if x=n' then hv n else hv x:=⟨_,rfl⟩
 have kR:∀k,k≠n'->gA k=hv k:=λk hk=>by rw[gJ];simp only[if_neg hk]
 have bM:gA n'=hv n:=by rw[gJ];simp
 have hid:∀b o v,Us w0 U0 D b o->w.cell? ⟨b,o,none⟩=some v->Us w0 U0 D b o/\w.cell? ⟨b,o,none⟩=some v:=λ_ _ _ h1 h2=>⟨h1,h2⟩
 have oZ:∀{k av0},look s k=some av0->(av0.t≠2/\av0.n=n/\(r6 n n' av0).n=n')\/((av0.t=2\/av0.n≠n)/\(r6 n n' av0).n=av0.n):=fun{k av0} h1=>by
  unfold r6;by_cases e:av0.n=n
  ·by_cases e2:av0.t=2
   ·right;exact⟨.inl e2,by simp only[e2,Nat.beq_refl]⟩
   ·left;exact⟨e2,e,by simp only[e,Nat.beq_refl,X8 e2]⟩
  ·right;refine⟨.inr e,?_⟩;simp only[X8 e];cases Nat.beq av0.t 2<;>rfl
 have bU:∀{k av0},look s k=some av0->a9 t (r6 n n' av0).n->av0.t≠2->a9 s av0.n/\J1 gA (r6 n n' av0).n=J1 hv av0.n:=fun{k av0} h1 h2 h3=>by
  have kF:=(hr k av0 h1).1;rcases oZ h1 with⟨g1,g2,g3⟩ | ⟨g1,g3⟩
  ·rw[g3]at h2 |-;rw[g2];refine⟨?_,?_⟩
   ·rcases h2 with h2 | ⟨f,hf⟩
    ·omega
    ·obtain⟨m0,f1,f2⟩:=kI hf;rcases f2 with⟨f3,_⟩ | ⟨f3,f4,f5⟩
     ·exact .inr ⟨f,f3▸f1⟩
     ·omega
   ·unfold J1;rw[if_neg (by omega),if_neg (by omega),bM]
  ·rw[g3]at h2 |-;refine⟨?_,?_⟩
   ·rcases h2 with h2 | ⟨f,hf⟩
    ·exact .inl h2
    ·obtain⟨m0,f1,f2⟩:=kI hf;rcases f2 with⟨_,f4⟩ | ⟨_,_,f5⟩
     ·exact absurd f4 kF
     ·rw[f5];exact .inr ⟨f,f1⟩
   ·unfold J1;rw[kR _ kF]
 have bJ:∀{k av0 v},look s k=some av0->AVRep (Us w0 U0 D) w hv (a9 s) av0 v->AVRep (Us w0 U0 D) w gA (a9 t) (r6 n n' av0) v:=fun{k av0 v} h1 h2=>by
  have kF:=(hr k av0 h1).1;unfold AVRep at h2 |-;rw[show(r6 n n' av0).t=av0.t from rfl,show(r6 n n' av0).c=av0.c from rfl,show(r6 n n' av0).o=av0.o from rfl];have ez:zOf (r6 n n' av0)=zOf av0/\zSl (r6 n n' av0)=zSl av0:=⟨rfl,rfl⟩
  rw[ez.1,ez.2];by_cases t0:av0.t=0
  ·rw[if_pos t0]at h2 |-;refine⟨h2.1,λhe=>?_⟩;obtain⟨f1,f2⟩:=bU h1 he (by omega);obtain⟨m,c,f3,f4⟩:=h2.2 f1;exact⟨m,c,f3,by rw[f4,f2]⟩
  rw[if_neg t0]at h2 |-;by_cases t2:av0.t=2
  ·rw[if_pos t2]at h2 |-;have e:(r6 n n' av0).n=av0.n:=by
    rcases oZ h1 with⟨g1,_⟩ | ⟨_,g⟩
    ·exact absurd t2 g1
    ·exact g
   have hb:=h2.1;unfold BN at hb;rw[e,kR _ (by omega)];exact h2
  rw[if_neg t2]at h2 |-;by_cases t3:av0.t=3
  ·rw[if_pos t3]at h2 |-;exact h2
  rw[if_neg t3]at h2 |-;by_cases t4:av0.t=4
  ·rw[if_pos t4]at h2 |-;exact h2
  rw[if_neg t4]at h2 |-;have hR:RN av0.n->RN (r6 n n' av0).n/\gA (r6 n n' av0).n=hv av0.n:=λh3=>by
   rcases oZ h1 with⟨g1,g2,g3⟩ | ⟨g1,g3⟩
   ·rw[g3,g2];exact⟨RW.rn gQ,bM⟩
   ·rw[g3];exact⟨h3,kR _ kF⟩
  by_cases t11:av0.t=11
  ·rw[if_pos t11]at h2 |-;obtain⟨f1,f2⟩:=hR h2.1;rw[f2];exact⟨f1,h2.2⟩
  rw[if_neg t11]at h2 |-;by_cases t12:av0.t=12
  ·rw[if_pos t12]at h2 |-;obtain⟨f1,f2⟩:=hR h2.1;rw[f2];exact⟨f1,h2.2⟩
  rw[if_neg t12]at h2 |-;by_cases t15:av0.t=15
  ·rw[if_pos t15]at h2 |-;obtain⟨f1,f2⟩:=hR h2.1;rw[f2];exact⟨f1,h2.2⟩
  rw[if_neg t15]at h2 |-;by_cases t16:av0.t=16
  ·rw[if_pos t16]at h2 |-;exact h2
  rw[if_neg t16]at h2 |-;by_cases t18:av0.t=18
  ·rw[if_pos t18]at h2 |-;exact h2
  rw[if_neg t18]at h2 |-;by_cases t19:av0.t=19
  ·rw[if_pos t19]at h2 |-;obtain⟨f1,f2⟩:=hR h2.1;rw[f2];exact⟨f1,h2.2⟩
  rw[if_neg t19];trivial
 have cH:∀{k k0},((k0=n/\k=n')\/(k0≠n/\k0≠n'/\k=k0))->gA k=hv k0/\(n4 k->n4 k0):=fun{k k0} h1=>by
  unfold n4;rcases h1 with⟨rfl,rfl⟩ | ⟨h2,h3,rfl⟩
  ·exact⟨bM,λ_=>by omega⟩
  ·exact⟨kR _ h3,λh=>h⟩
 refine⟨D,gA,h.below,h.dfr,h.size,λd av h1 h2=>?_,λm o av h1 h2 h3 h4=>?_,λm o o' av av' h1 h2=>?_,λk av h1 h2=>?_,λk av g h1 h2 h3 h4=>?_,λk k' av av' g h1 h2 h3 h4 h5 h6 kF=>?_,λm g h1=>?_,h.dlt⟩
 ·obtain⟨av0,g1,rfl⟩:=kV h1 (by omega);obtain⟨v,g4,g5⟩:=h.slot d av0 g1 h2;exact⟨v,g4,bJ g1 g5⟩
 ·obtain⟨av0,g1,rfl⟩:=kV h1 (by unfold i7;omega);obtain⟨k0,av1,f1,f2,f3⟩:=kB h3;have f2:=a6U (by omega) (by omega) f2.symm;subst f2;rcases f3 with⟨f4,f5⟩ | ⟨f4,f5,f6⟩
  ·unfold BN at h4;omega
  ·rw[<-f6]at f1;obtain⟨v,g4,g5,g6⟩:=h.fld m o av0 g1 h2 f1 h4;exact⟨v,bJ g1 g4,g5,by rw[kR _ (by omega)];exact g6⟩
 ·obtain⟨av0,g1,rfl⟩:=kV h1 (by unfold i7;omega);obtain⟨av1,g2,rfl⟩:=kV h2 (by unfold i7;omega);exact h.fdis m o o' av0 av1 g1 g2
 ·obtain⟨k0,av0,g1,rfl,g3⟩:=kB h1;obtain⟨e1,e2⟩:=cH g3;rw[e1];have g5:=h.obj k0 av0 g1 (e2 h2);unfold OC at g5 |-;rw[show(r6 n n' av0).t=av0.t from rfl,show(r6 n n' av0).c=av0.c from rfl,show(r6 n n' av0).o=av0.o from rfl];have ez:zOf (r6 n n' av0)=zOf av0:=rfl;rw[ez];by_cases t5:av0.t=5
  ·rw[if_pos t5]at g5 |-;obtain⟨g,xs,ty,f1,f2,f3,f4⟩:=g5;refine⟨g,xs,ty,f1,f2,f3,λhe=>?_⟩;obtain⟨f5,f6⟩:=bU g1 he (by omega);obtain⟨m,c,f7,f8⟩:=f4 f5;exact⟨m,c,f7,by rw[f8,f6]⟩
  ·rw[if_neg t5]at g5 |-;exact g5
 ·obtain⟨k0,av0,g1,rfl,g3⟩:=kB h1;obtain⟨e1,e2⟩:=cH g3;rw[e1]at h4 |-;obtain⟨f1,f2,f3⟩:=h.blk k0 av0 g g1 (e2 h2) h3 h4;refine⟨?_,f2,f3⟩;rcases g3 with⟨rfl,rfl⟩ | ⟨_,_,rfl⟩
  ·unfold rOk at fP;rw[g1]at fP;simp only[Bool.or_eq_true]at fP;have e3:(r6 k0 k av0).t=av0.t:=rfl;rcases fP with(h6 | h6) | h6
   ·rw[N9 (Nat.eq_of_beq_eq_true h6)]at f1;rw[N9 (e3.trans (Nat.eq_of_beq_eq_true h6))];exact f1
   ·rw[a2e (bL h6)]at f1;rcases f1 with f1 | f1
    ·exact .inl f1
    ·exact absurd rfl f1.1
   ·have h7:=Nat.le_of_ble_eq_true h6;rw[Q5 h7];rcases f1 with f1 | f1
    ·exact .inl f1
    ·refine .inr ⟨?_,f1.2⟩;intro e4;exact f1.1 (N9 e4)
  ·exact f1
 ·obtain⟨k0,av0,g1,rfl,g3⟩:=kB h1;obtain⟨k1,av1,g4,rfl,g6⟩:=kB h2;obtain⟨e1,e2⟩:=cH g3;obtain⟨e3,e4⟩:=cH g6;rw[e1,e3];refine h.disj k0 k1 av0 av1 g g1 g4 (e2 h3) (e4 h4) h5 h6 λe=>kF ?_;rcases g3 with⟨f1,f2⟩ | ⟨f1,f2,f3⟩<;>rcases g6 with⟨f4,f5⟩ | ⟨f4,f5,f6⟩<;>omega
 ·have:=U0.hf m g h1;rw[kR _ (by omega)];exact h.fix m g h1
def b9C(s:AS)(n:Nat):Bool:=match look s n with | some av=>!Nat.beq av.t 6 | none=>true
theorem y6(n n':Nat)(hn:(Nat.ble 200000 n&&Nat.blt n 450000)=true)(gQ:(Nat.ble 200000 n'&&Nat.blt n' 450000)=true)(hf:U0.f n'=none)(cG:b9C s n=true)(hr:A6 s [(n',[])]=true)(vI:(V4 s n'&&rOk s n n')=true):Wk w0 U0 nt s (ren n n' s):=by
 rintro a w ⟨D,hv,h⟩;have hn:=rnF hn;have gQ:=rnF gQ;rw[Bool.and_eq_true]at vI;obtain⟨hk,fP⟩:=vI;have hr:=(q9 hr (n',[]) (by simp)).nr;obtain⟨t,ht⟩:∃t,t=ren n n' s:=⟨_,rfl⟩
 rw[<-ht];have kB:∀{k av},look t k=some av->∃k0 av0,look s k0=some av0/\av=r6 n n' av0/\((k0=n/\k=n')\/(k0≠n/\k0≠n'/\k=k0)):=fun{k av} h1=>by rw[ht]at h1;exact a5B hk h1
 have kV:∀{k av},look t k=some av->(k<200000\/450000<=k)->∃av0,look s k=some av0/\av=r6 n n' av0:=fun{k av} h1 h2=>by
  obtain⟨k0,av0,g1,g2,g3⟩:=kB h1;rcases g3 with⟨g4,g5⟩ | ⟨g4,g5,g6⟩
  ·omega
  ·rw[g6];exact⟨av0,g1,g2⟩
 have kI:∀{m f},v8 t m f->∃m0,v8 s m0 f/\((m0=n/\m=n')\/(m0≠n/\m0≠n'/\m=m0)):=fun{m f} h1=>by
  obtain⟨k0,av0,g1,g2,g3⟩:=kB h1.1;refine⟨k0,⟨?_,?_⟩,g3⟩
  ·rw[g1,a2B (by omega) (by omega) g2.symm]
  ·have:=h1.2;rcases g3 with⟨g4,g5⟩ | ⟨g4,g5,g6⟩
   ·exfalso;have g7:=a2B (by omega) (by omega) g2.symm;rw[g4,g7]at g1;unfold b9C at cG;rw[g1]at cG;cases cG
   ·omega
 obtain⟨gA,gJ⟩:∃gA:Nat->Value,gA=λx=>if x=n' then hv n else hv x:=⟨_,rfl⟩
 have kR:∀k,k≠n'->gA k=hv k:=λk hk=>by rw[gJ];simp only[if_neg hk]
 have bM:gA n'=hv n:=by rw[gJ];simp
 have hid:∀b o v,Us w0 U0 D b o->w.cell? ⟨b,o,none⟩=some v->Us w0 U0 D b o/\w.cell? ⟨b,o,none⟩=some v:=λ_ _ _ h1 h2=>⟨h1,h2⟩
 have oZ:∀{k av0},look s k=some av0->(av0.t≠2/\av0.n=n/\(r6 n n' av0).n=n')\/((av0.t=2\/av0.n≠n)/\(r6 n n' av0).n=av0.n):=fun{k av0} h1=>by
  unfold r6;by_cases e:av0.n=n
  ·by_cases e2:av0.t=2
   ·right;exact⟨.inl e2,by simp only[e2,Nat.beq_refl]⟩
   ·left;exact⟨e2,e,by simp only[e,Nat.beq_refl,X8 e2]⟩
  ·right;refine⟨.inr e,?_⟩;simp only[X8 e];cases Nat.beq av0.t 2<;>rfl
 have bU:∀{k av0},look s k=some av0->a9 t (r6 n n' av0).n->av0.t≠2->a9 s av0.n/\J1 gA (r6 n n' av0).n=J1 hv av0.n:=fun{k av0} h1 h2 h3=>by
  have kF:=(hr k av0 h1).1;rcases oZ h1 with⟨g1,g2,g3⟩ | ⟨g1,g3⟩
  ·rw[g3]at h2 |-;rw[g2];refine⟨?_,?_⟩
   ·rcases h2 with h2 | ⟨f,hf⟩
    ·omega
    ·obtain⟨m0,f1,f2⟩:=kI hf;rcases f2 with⟨f3,_⟩ | ⟨f3,f4,f5⟩
     ·exact .inr ⟨f,f3▸f1⟩
     ·omega
   ·unfold J1;rw[if_neg (by omega),if_neg (by omega),bM]
  ·rw[g3]at h2 |-;refine⟨?_,?_⟩
   ·rcases h2 with h2 | ⟨f,hf⟩
    ·exact .inl h2
    ·obtain⟨m0,f1,f2⟩:=kI hf;rcases f2 with⟨_,f4⟩ | ⟨_,_,f5⟩
     ·exact absurd f4 kF
     ·rw[f5];exact .inr ⟨f,f1⟩
   ·unfold J1;rw[kR _ kF]
 have bJ:∀{k av0 v},look s k=some av0->AVRep (Us w0 U0 D) w hv (a9 s) av0 v->AVRep (Us w0 U0 D) w gA (a9 t) (r6 n n' av0) v:=fun{k av0 v} h1 h2=>by
  have kF:=(hr k av0 h1).1;unfold AVRep at h2 |-;rw[show(r6 n n' av0).t=av0.t from rfl,show(r6 n n' av0).c=av0.c from rfl,show(r6 n n' av0).o=av0.o from rfl];have ez:zOf (r6 n n' av0)=zOf av0/\zSl (r6 n n' av0)=zSl av0:=⟨rfl,rfl⟩
  rw[ez.1,ez.2];by_cases t0:av0.t=0
  ·rw[if_pos t0]at h2 |-;refine⟨h2.1,λhe=>?_⟩;obtain⟨f1,f2⟩:=bU h1 he (by omega);obtain⟨m,c,f3,f4⟩:=h2.2 f1;exact⟨m,c,f3,by rw[f4,f2]⟩
  rw[if_neg t0]at h2 |-;by_cases t2:av0.t=2
  ·rw[if_pos t2]at h2 |-;have e:(r6 n n' av0).n=av0.n:=by
    rcases oZ h1 with⟨g1,_⟩ | ⟨_,g⟩
    ·exact absurd t2 g1
    ·exact g
   have hb:=h2.1;unfold BN at hb;rw[e,kR _ (by omega)];exact h2
  rw[if_neg t2]at h2 |-;by_cases t3:av0.t=3
  ·rw[if_pos t3]at h2 |-;exact h2
  rw[if_neg t3]at h2 |-;by_cases t4:av0.t=4
  ·rw[if_pos t4]at h2 |-;exact h2
  rw[if_neg t4]at h2 |-;have hR:RN av0.n->RN (r6 n n' av0).n/\gA (r6 n n' av0).n=hv av0.n:=λh3=>by
   rcases oZ h1 with⟨g1,g2,g3⟩ | ⟨g1,g3⟩
   ·rw[g3,g2];exact⟨gQ,bM⟩
   ·rw[g3];exact⟨h3,kR _ kF⟩
  by_cases t11:av0.t=11
  ·rw[if_pos t11]at h2 |-;obtain⟨f1,f2⟩:=hR h2.1;rw[f2];exact⟨f1,h2.2⟩
  rw[if_neg t11]at h2 |-;by_cases t12:av0.t=12
  ·rw[if_pos t12]at h2 |-;obtain⟨f1,f2⟩:=hR h2.1;rw[f2];exact⟨f1,h2.2⟩
  rw[if_neg t12]at h2 |-;by_cases t15:av0.t=15
  ·rw[if_pos t15]at h2 |-;obtain⟨f1,f2⟩:=hR h2.1;rw[f2];exact⟨f1,h2.2⟩
  rw[if_neg t15]at h2 |-;by_cases t16:av0.t=16
  ·rw[if_pos t16]at h2 |-;exact h2
  rw[if_neg t16]at h2 |-;by_cases t18:av0.t=18
  ·rw[if_pos t18]at h2 |-;exact h2
  rw[if_neg t18]at h2 |-;by_cases t19:av0.t=19
  ·rw[if_pos t19]at h2 |-;obtain⟨f1,f2⟩:=hR h2.1;rw[f2];exact⟨f1,h2.2⟩
  rw[if_neg t19];trivial
 have cH:∀{k k0},((k0=n/\k=n')\/(k0≠n/\k0≠n'/\k=k0))->gA k=hv k0/\(n4 k->n4 k0):=fun{k k0} h1=>by
  unfold n4;rcases h1 with⟨rfl,rfl⟩ | ⟨h2,h3,rfl⟩
  ·exact⟨bM,λ_=>by omega⟩
  ·exact⟨kR _ h3,λh=>h⟩
 refine⟨D,gA,h.below,h.dfr,h.size,λd av h1 h2=>?_,λm o av h1 h2 h3 h4=>?_,λm o o' av av' h1 h2=>?_,λk av h1 h2=>?_,λk av g h1 h2 h3 h4=>?_,λk k' av av' g h1 h2 h3 h4 h5 h6 kF=>?_,λm g h1=>?_,h.dlt⟩
 ·obtain⟨av0,g1,rfl⟩:=kV h1 (by omega);obtain⟨v,g4,g5⟩:=h.slot d av0 g1 h2;exact⟨v,g4,bJ g1 g5⟩
 ·obtain⟨av0,g1,rfl⟩:=kV h1 (by unfold i7;omega);obtain⟨k0,av1,f1,f2,f3⟩:=kB h3;have f2:=a6U (by omega) (by omega) f2.symm;subst f2;rcases f3 with⟨f4,f5⟩ | ⟨f4,f5,f6⟩
  ·unfold BN at h4;omega
  ·rw[<-f6]at f1;obtain⟨v,g4,g5,g6⟩:=h.fld m o av0 g1 h2 f1 h4;exact⟨v,bJ g1 g4,g5,by rw[kR _ (by omega)];exact g6⟩
 ·obtain⟨av0,g1,rfl⟩:=kV h1 (by unfold i7;omega);obtain⟨av1,g2,rfl⟩:=kV h2 (by unfold i7;omega);exact h.fdis m o o' av0 av1 g1 g2
 ·obtain⟨k0,av0,g1,rfl,g3⟩:=kB h1;obtain⟨e1,e2⟩:=cH g3;rw[e1];have g5:=h.obj k0 av0 g1 (e2 h2);unfold OC at g5 |-;rw[show(r6 n n' av0).t=av0.t from rfl,show(r6 n n' av0).c=av0.c from rfl,show(r6 n n' av0).o=av0.o from rfl];have ez:zOf (r6 n n' av0)=zOf av0:=rfl;rw[ez];by_cases t5:av0.t=5
  ·rw[if_pos t5]at g5 |-;obtain⟨g,xs,ty,f1,f2,f3,f4⟩:=g5;refine⟨g,xs,ty,f1,f2,f3,λhe=>?_⟩;obtain⟨f5,f6⟩:=bU g1 he (by omega);obtain⟨m,c,f7,f8⟩:=f4 f5;exact⟨m,c,f7,by rw[f8,f6]⟩
  ·rw[if_neg t5]at g5 |-;exact g5
 ·obtain⟨k0,av0,g1,rfl,g3⟩:=kB h1;obtain⟨e1,e2⟩:=cH g3;rw[e1]at h4 |-;obtain⟨f1,f2,f3⟩:=h.blk k0 av0 g g1 (e2 h2) h3 h4;refine⟨?_,f2,f3⟩;rcases g3 with⟨rfl,rfl⟩ | ⟨_,_,rfl⟩
  ·unfold rOk at fP;rw[g1]at fP;simp only[Bool.or_eq_true]at fP;have e3:(r6 k0 k av0).t=av0.t:=rfl;rcases fP with(h6 | h6) | h6
   ·rw[N9 (Nat.eq_of_beq_eq_true h6)]at f1;rw[N9 (e3.trans (Nat.eq_of_beq_eq_true h6))];exact f1
   ·rw[a2e (bL h6)]at f1;rcases f1 with f1 | f1
    ·exact .inl f1
    ·exact absurd rfl f1.1
   ·have h7:=Nat.le_of_ble_eq_true h6;rw[Q5 h7];rcases f1 with f1 | f1
    ·exact .inl f1
    ·refine .inr ⟨?_,f1.2⟩;intro e4;exact f1.1 (N9 e4)
  ·exact f1
 ·obtain⟨k0,av0,g1,rfl,g3⟩:=kB h1;obtain⟨k1,av1,g4,rfl,g6⟩:=kB h2;obtain⟨e1,e2⟩:=cH g3;obtain⟨e3,e4⟩:=cH g6;rw[e1,e3];refine h.disj k0 k1 av0 av1 g g1 g4 (e2 h3) (e4 h4) h5 h6 λe=>kF ?_;rcases g3 with⟨f1,f2⟩ | ⟨f1,f2,f3⟩<;>rcases g6 with⟨f4,f5⟩ | ⟨f4,f5,f6⟩<;>omega
 ·have hm:m≠n':=λe=>by rw[e,hf]at h1;cases h1
  rw[kR _ hm];exact h.fix m g h1
end
section
variable{P:Program}{w0:World}{U0:UX}{nt:Nat}{ops:Array Oper}{o:Oper}{S:Nat->Option AV}{gs:List Nat}{d:Nat}{s:AS}{a:Act}{w:World}{D:Nat->Nat->Prop}{hv:Nat->Value}
theorem a0g{U:Nat->Nat->Prop}{c:CV}{u:Value}:VRep U w (.ptr c) u↔∃b off ys,u=.pointer (some ⟨b,off,none⟩)/\Rep U w c ys/\∀i,i<ys.length->U b (off+i)/\w.cell? ⟨b,off+i,none⟩=ys[i]?:=by
 rw[show VRep U w (.ptr c) u=Rep U w (.ptr c) [u]from rfl,c1D];simp
theorem X0{U:Nat->Nat->Prop}{f n:Nat}{l:List CV}{u:Value}:VRep U w (.fn f n l) u↔∃(ys zs:List Value),u=.func (.func f) ys.toArray zs.toArray/\ys.length=n/\Sq (l.map λc=>Rep U w c) (ys++zs)/\∀c∈l,c.k≠2:=by
 rw[show VRep U w (.fn f n l) u=if 10+n=2 then ∃xs:List Value,u=.agg xs.toArray/\Rep U w (.fn f n l) xs else Rep U w (.fn f n l) [u]from rfl,if_neg (by omega),b9q];simp
theorem S5{U:Nat->Nat->Prop}:∀{l:List CV} {xs:List Value},(∀c∈l,c.k≠2)->Sq (l.map λc=>Rep U w c) xs->VReps U w l xs
 | [],xs,_,h=>h
 | c::cs,xs,hk,⟨ys,zs,e,h1,h2⟩=>by
  have hc:=hk c (by simp);have kD:=h1.len;have h1c:c.size=1:=by cases c with | mk k v l=>rw[CV.size_mk,if_neg hc]
  rw[h1c]at kD
  match ys,kD with
  | [u],_=>exact⟨u,zs,e,by unfold VRep;rw[if_neg hc];exact h1,S5 (λx hx=>hk x (mem_cons_of_mem _ hx)) h2⟩
theorem b0y{U:Nat->Nat->Prop}:∀{l:List CV} {xs:List Value},(∀c∈l,c.k≠2)->VReps U w l xs->Sq (l.map λc=>Rep U w c) xs
 | [],xs,_,h=>h
 | c::cs,xs,hk,⟨u,us,e,h1,h2⟩=>by
  refine⟨[u],us,e,?_,b0y (λx hx=>hk x (mem_cons_of_mem _ hx)) h2⟩;unfold VRep at h1;rw[if_neg (hk c (by simp))]at h1;exact h1
theorem VReps.append{U:Nat->Nat->Prop}:∀{l m:List CV} {xs ys:List Value},VReps U w l xs->VReps U w m ys->VReps U w (l++m) (xs++ys)
 | [],m,xs,ys,h,h2=>by have h:xs=[]:=h;rw[h];exact h2
 | c::cs,m,xs,ys,⟨u,us,e,h1,h3⟩,h2=>⟨u,us++ys,by rw[e];rfl,h1,VReps.append h3 h2⟩
theorem VReps.split{U:Nat->Nat->Prop}:∀{l:List CV} {xs ys:List Value},VReps U w l (xs++ys)->VReps U w (l.take xs.length) xs/\VReps U w (l.drop xs.length) ys
 | l,[],ys,h=>⟨rfl,h⟩
 | [],x::xs,ys,h=>by have h:x::xs++ys=[]:=h;simp at h
 | c::cs,x::xs,ys,⟨u,us,e,h1,h3⟩=>by
  injection e with e1 e2;subst e1;subst e2;obtain⟨h4,h5⟩:=VReps.split h3;exact⟨⟨x,xs,rfl,h1,h4⟩,h5⟩
def a6e:List CV->Bool
 | []=>true
 | c::cs=>match Nat.beq c.k 2 with | true=>false | false=>a6e cs
theorem Z4:∀{l:List CV},a6e l=true->∀c∈l,c.k≠2
 | [],_,c,hc=>by simp at hc
 | x::l,h,c,hc=>by
  unfold a6e at h;split at h
  ·cases h
  ·rename_i hb;rcases mem_cons.1 hc with rfl | hc
   ·exact λe=>by rw[e]at hb;cases hb
   ·exact Z4 h c hc
def AFunV(P:Program)(W:World)(fc:CV)(args:List CV)(r:AV):Prop:=∃f n l,fc=.fn f n l/\AFun P W f (l.take n++(args++l.drop n)) r
theorem AFunV.up{W w:World}{fc:CV}{args:List CV}{r:AV}{U:UX}(h:AFunV P W fc args r)(hW:Hw W w U):AFunV P w fc args r:=by
 obtain⟨f,n,l,h1,h2⟩:=h;exact⟨f,n,l,h1,h2.up hW⟩
theorem a8v{x:Operand}{xs:Array Operand}{ts:Array TypeId}{fc:CV}{cs:List CV}{r:AV}{n q p}(hg:Gd w0 U0 nt ops o gs S)(hd:o.dst=some d)(hn:Nat.blt d nt=true)(h5:Nat.blt d 100000=true)
  (ho:o.op=.call { callee:=.value x,args:=xs,argTypes:=ts }) (hf:ev S x=some ⟨0,fc,n,q,p⟩) (hx:a0K S xs.toList=some cs) (hc:AFunV P w0 fc cs r):AOp P w0 U0 nt ops o (gs++(rd x++rdl xs.toList)) [] S [(d,r)]:=by
 intro s hs _ a w ⟨D,hv,h⟩ Q K hK;rw[if_pos (hg s (λk hk=>hs k (mem_append_left _ hk)) a w D hv h)];have hargs:=I8 h (λk hk=>hs k (mem_append_right _ (mem_append_right _ hk))) hx;have nI:=A7 h (λk hk=>hs k (mem_append_right _ (mem_append_left _ hk))) hf;obtain⟨f,m,l,rfl,h1,h2,h3,h4⟩:=hc;obtain⟨ys,zs,e1,e2,e3,e4⟩:=X0.1 nI;obtain⟨s1,s2⟩:=VReps.split (S5 e4 e3);rw[e2]at s1 s2;have kK:=h4 _ w _ trivial (s1.append (hargs.append s2));have he:(execOp a.eval o).run P w=.ok (.enter f (ys++(xs.toList.map a.eval++zs)).toArray) w:=by
  have cW:=h1 (ys.toArray++(xs.map a.eval++zs.toArray)) w;have gT:(ys++(xs.toList.map a.eval++zs)).toArray=ys.toArray++(xs.map a.eval++zs.toArray):=by apply Array.ext';simp
  rw[gT];generalize a.eval=ρ at e1 cW |-;simp[execOp,ho,resolve,invoke,Deferred.ofValue,e1,cW]
 unfold Oper.wp;rw[he,Oper.upon_enter];refine kK.mono ?_;rintro e w' ⟨v,rfl,h6,h7⟩;rw[hd];refine hK _ _ ⟨Dn D w w',hv,(h.growN h7).put (bL hn) (bL h5) (S7 h2 h3 (a0h rfl h7.size h.below.size h6))⟩
theorem zH{P:Program}{w0:World}{U0:UX}{nt:Nat}{ops:Array Oper}{o:Oper}{S:Nat->Option AV}{gs:List Nat}{d:Nat}{x:Operand}{xs:Array Operand}{ts:Array TypeId}{fc:CV}{cs:List CV}{r:AV}{n}{q}{p}(t:Gd w0 U0 nt ops o gs S:=by exact gN rfl)(u:o.dst=some d:=by exact rfl)(y:Nat.blt d nt=true:=by exact rfl)(z:Nat.blt d 100000=true:=by exact rfl)(A:o.op=.call { callee:=.value x,args:=xs,argTypes:=ts }:=by exact rfl)(B:ev S x=some ⟨0,fc,n,q,p⟩:=by exact rfl)(C:a0K S xs.toList=some cs:=by exact rfl)(E:AFunV P w0 fc cs r):AOp P w0 U0 nt ops o (gs++(rd x++rdl xs.toList)) [] S [(d,r)]:=a8v t u y z A B C E
section
variable(hg:Gd w0 U0 nt ops o gs S)(hd:o.dst=some d)(hn:Nat.blt d nt=true)(h5:Nat.blt d 100000=true)
include hg hd hn h5
theorem b7I{f:Nat}{xs ys:Array Operand}{cs:List CV}(ho:o.op=.makeFunc (.func f) xs ys)(hx:a0K S (xs.toList++ys.toList)=some cs)(hk:a6e cs=true):AOp P w0 U0 nt ops o (gs++rdl (xs.toList++ys.toList)) [] S [(d,.val (.fn f xs.size cs))]:=
 l4 hg hd hn h5 (λk hk=>mem_append_left _ hk) λs hs a w D hv hm=>by
  have hargs:=I8 hm (λk hk=>hs k (mem_append_right _ hk)) hx;rw[map_append]at hargs;refine⟨.func (.func f) (xs.toList.map a.eval).toArray (ys.toList.map a.eval).toArray,?_,n9 (X0.2 ⟨_,_,rfl,by simp,b0y (Z4 hk) hargs,Z4 hk⟩)⟩;have e1:(xs.toList.map a.eval).toArray=xs.map a.eval:=by apply Array.ext';simp
  have e2:(ys.toList.map a.eval).toArray=ys.map a.eval:=by apply Array.ext';simp
  rw[e1,e2];generalize a.eval=ρ;simp[execOp,ho,Instr.makeFunc]
theorem G5{x:Operand}{ty:TypeId}{ds:TypeDesc}{z:Nat}{c:CV}{n q p}(ho:o.op=.load ty x)(hu:P.underlying ty=some ds)(hi:(P.info? ty).map (·.size)=some z)(hx:ev S x=some ⟨0,.ptr c,n,q,p⟩)(hk:X1 ds=Nat.beq c.k 2)(hz:c.size=z):AOp P w0 U0 nt ops o (gs++rd x) [] S [(d,.val c)]:=
 l4 hg hd hn h5 (λk hk=>mem_append_left _ hk) λs hs a w D hv hm=>by have h0:=A7 hm (λk hk=>hs k (mem_append_right _ hk)) hx;obtain⟨b,off,xs,h1,h2,h3⟩:∃b off xs,a.eval x=.pointer (some ⟨b,off,none⟩)/\Rep (Us w0 U0 D) w c xs/\∀i,i<xs.length->Us w0 U0 D b (off+i)/\w.cell? ⟨b,off+i,none⟩=xs[i]?:=a0g.1 h0;obtain⟨v,h4,h6,_⟩:=D9 hu hi hk hz h2 (λi hi=>(h3 i hi).2);refine⟨v,?_,n9 h6⟩;generalize a.eval=ρ at h1 |-;simp[execOp,ho,Instr.loadAt,Instr.sureAddr,h1,h4]
theorem c4S{x y:Operand}{ts:Array TypeId}{k:IntKind}{i j:Int}{n q p n' q' p'}(ho:o.op=.call { callee:=.builtin .max,args := #[x,y],argTypes:=ts })(hx:ev S x=some ⟨0,.sc (.int k i),n,q,p⟩)(hy:ev S y=some ⟨0,.sc (.int k j),n',q',p'⟩):AOp P w0 U0 nt ops o (gs++(rd x++rd y)) [] S [(d,.val (.sc (.int k (max i j))))]:=
 l4 hg hd hn h5 (λk hk=>mem_append_left _ hk) λs hs a w D hv hm=>by
  have e1:=v9 hm (λk hk=>hs k (mem_append_right _ (mem_append_left _ hk))) hx;have e2:=v9 hm (λk hk=>hs k (mem_append_right _ (mem_append_right _ hk))) hy;refine⟨.int k (max i j),?_,o9 rfl⟩;have e3:(if j>i then j else i)=max i j:=by split<;>omega
  generalize a.eval=ρ at e1 e2 |-;simp[execOp,ho,resolve,invoke,builtin,Builtin.max_,Builtin.max2,e1,e2];exact e3
theorem c4t{x y:Operand}{ts:Array TypeId}{k:IntKind}{i j:Int}{n q p n' q' p'}(ho:o.op=.call { callee:=.builtin .min,args := #[x,y],argTypes:=ts })(hx:ev S x=some ⟨0,.sc (.int k i),n,q,p⟩)(hy:ev S y=some ⟨0,.sc (.int k j),n',q',p'⟩):AOp P w0 U0 nt ops o (gs++(rd x++rd y)) [] S [(d,.val (.sc (.int k (min i j))))]:=
 l4 hg hd hn h5 (λk hk=>mem_append_left _ hk) λs hs a w D hv hm=>by
  have e1:=v9 hm (λk hk=>hs k (mem_append_right _ (mem_append_left _ hk))) hx;have e2:=v9 hm (λk hk=>hs k (mem_append_right _ (mem_append_right _ hk))) hy;refine⟨.int k (min i j),?_,o9 rfl⟩;have e3:(if j<i then j else i)=min i j:=by split<;>omega
  generalize a.eval=ρ at e1 e2 |-;simp[execOp,ho,resolve,invoke,builtin,Builtin.min_,Builtin.min2,e1,e2];exact e3
omit hg hd hn h5 in
theorem b4w{U:Nat->Nat->Prop}{l:List CV}{ao:Option Addr}{m cap z lo hi:Nat}(hz:∀c∈l,c.size=z)(h:VRep U w (.lst l) (.slice ao m cap))(h1:lo<=hi)(h2:hi<=l.length):VRep U w (.lst ((l.drop lo).take (hi-lo))) (.slice (if cap=lo then ao else ao.map (·.add (lo*z))) (hi-lo) (cap-lo)):=by
 obtain⟨ao',m',cap',e,e2,e3,e4,e5,ys,e6,e7⟩:=l5.1 h;injection e with e8 e9 e10;subst e8;subst e9;subst e10;have gU:l=l.take lo++((l.drop lo).take (hi-lo)++(l.drop lo).drop (hi-lo)):=by rw[List.take_append_drop,List.take_append_drop]
 have e7':=e7;rw[gU,map_append,map_append]at e7';obtain⟨y1,y2,f1,f2,f3⟩:=y5 e7';obtain⟨z1,z2,f4,f5,f6⟩:=y5 f3;have lT:y1.length=lo*z:=by rw[B0 (n:=CV.size) (λc _ xs h=>h.len) f2,s5 (λc hc=>hz c (List.mem_of_mem_take hc)),List.length_take,Nat.min_eq_left (by omega)]
 refine l5.2 ⟨_,hi-lo,cap-lo,rfl,by simp;omega,by omega,by omega,?_,z1,?_,f5⟩
 ·intro hn;split at hn
  ·have:=e5 hn;omega
  ·cases ao with
   | none=>have:=e5 rfl;omega
   | some a=>cases hn
 ·rcases e6 with e6 | ⟨b,off,rfl,hc⟩
  ·left;have:=congrArg List.length f1;rw[e6,f4]at this;simp at this;exact List.eq_nil_of_length_eq_zero (by omega)
  ·by_cases iJ:z1=[]
   ·exact .inl iJ
   ·right;have kF:cap≠lo:=λe=>by
     have:(l.drop lo).take (hi-lo)=[]:=by rw[show hi-lo=0 by omega];rfl
     rw[this]at f5;exact iJ f5
    refine⟨b,off+lo*z,?_,λi gH=>?_⟩
    ·rw[if_neg kF];simp[Addr.add]
    ·have:=hc (y1.length+i) (by rw[f1,f4];simp;omega);rw[f1,f4,List.getElem?_append_right (by omega),show y1.length+i-y1.length=i by omega,List.getElem?_append_left gH]at this;rw[Nat.add_assoc,<-lT];exact this
omit hg hd hn h5 in
theorem E6{k:IntKind}{j y:Nat}{code:BoundsCode}(h:j<=y):(Instr.sliceBound (.int k (j:Int)) y code).run P w=.ok j w:=by
 have:(0:Int)<=(j:Int)/\(j:Int)<=(y:Int):=⟨by omega,by omega⟩
 simp[Instr.sliceBound,asIntOf,h]
theorem c3a{x y:Operand}{t e:TypeId}{z:Nat}{l:List CV}{k:IntKind}{i:Int}{lo:Nat}{n q p n' q' p'}(ho:o.op=.slice t x (some y) none none)(hu:P.underlying t=some (.slice e))(hi:(P.info? e).map (·.size)=some z)(hx:ev S x=some ⟨0,.lst l,n,q,p⟩)(hy:ev S y=some ⟨0,.sc (.int k i),n',q',p'⟩)(lC:i=(lo:Int))(fQ:lo<=l.length)(hz:∀c∈l,c.size=z):AOp P w0 U0 nt ops o (gs++(rd x++rd y)) [] S [(d,.val (.lst (l.drop lo)))]:=
 l4 hg hd hn h5 (λk hk=>mem_append_left _ hk) λs hs a w D hv hm=>by
  have hv:=A7 hm (λk hk=>hs k (mem_append_right _ (mem_append_left _ hk))) hx;have e2:=v9 hm (λk hk=>hs k (mem_append_right _ (mem_append_right _ hk))) hy;obtain⟨ao,m,cap,h1,h2,h3,_⟩:=l5.1 hv;rw[h1]at hv;have nJ:=b4w hz hv (lo:=lo) (hi:=l.length) fQ (Nat.le_refl _);rw[List.take_of_length_le (by simp)]at nJ;have kC:(sizeOf e).run P w=.ok z w:=by
   cases gH:P.info? e with
   | none=>rw[gH]at hi;simp at hi
   | some i=>rw[gH]at hi;simp at hi;simp[sizeOf,typeInfo,gH,hi]
  subst lC;refine⟨_,?_,n9 nJ⟩;have hb:=E6 (P:=P) (w:=w) (k:=k) (j:=lo) (y:=l.length) (code:=.sliceB) fQ;subst h2;generalize a.eval=ρ at h1 e2 |-;simp[execOp,ho,Instr.sliceAt,Instr.slice,run_underlying hu,h1,e2,Instr.sliceBounds,hb,kC]
theorem c2K{x y:Operand}{t e:TypeId}{z:Nat}{l:List CV}{k:IntKind}{i:Int}{gH:Nat}{n q p n' q' p'}(ho:o.op=.slice t x none (some y) none)(hu:P.underlying t=some (.slice e))(hi:(P.info? e).map (·.size)=some z)(hx:ev S x=some ⟨0,.lst l,n,q,p⟩)(hy:ev S y=some ⟨0,.sc (.int k i),n',q',p'⟩)(lC:i=(gH:Int))(hhi:gH<=l.length)(hz:∀c∈l,c.size=z):AOp P w0 U0 nt ops o (gs++(rd x++rd y)) [] S [(d,.val (.lst (l.take gH)))]:=
 l4 hg hd hn h5 (λk hk=>mem_append_left _ hk) λs hs a w D hv hm=>by
  have hv:=A7 hm (λk hk=>hs k (mem_append_right _ (mem_append_left _ hk))) hx;have e2:=v9 hm (λk hk=>hs k (mem_append_right _ (mem_append_right _ hk))) hy;obtain⟨ao,m,cap,h1,h2,h3,_⟩:=l5.1 hv;rw[h1]at hv;have nJ:=b4w hz hv (lo:=0) (hi:=gH) (Nat.zero_le _) hhi;rw[List.drop_zero,Nat.sub_zero,Nat.sub_zero]at nJ;have kC:(sizeOf e).run P w=.ok z w:=by
   cases gH:P.info? e with
   | none=>rw[gH]at hi;simp at hi
   | some i=>rw[gH]at hi;simp at hi;simp[sizeOf,typeInfo,gH,hi]
  subst lC;refine⟨_,?_,n9 nJ⟩;have hb:=E6 (P:=P) (w:=w) (k:=k) (j:=gH) (y:=cap) (code:=.sliceAcap) (by omega);generalize a.eval=ρ at h1 e2 |-;simp[execOp,ho,Instr.sliceAt,Instr.slice,run_underlying hu,h1,e2,Instr.sliceBounds,hb,kC]
end
theorem zG{P:Program}{w0:World}{U0:UX}{nt:Nat}{ops:Array Oper}{o:Oper}{S:Nat->Option AV}{gs:List Nat}{d:Nat}{f:Nat}{xs:Array Operand}{ys:Array Operand}{cs:List CV}(p:Gd w0 U0 nt ops o gs S:=by exact gN rfl)(q:o.dst=some d:=by exact rfl)(r:Nat.blt d nt=true:=by exact rfl)(t:Nat.blt d 100000=true:=by exact rfl)(u:o.op=.makeFunc (.func f) xs ys:=by exact rfl)(v:a0K S (xs.toList++ys.toList)=some cs:=by exact rfl)(x:a6e cs=true:=by exact rfl):AOp P w0 U0 nt ops o (gs++rdl (xs.toList++ys.toList)) [] S [(d,.val (.fn f xs.size cs))]:=b7I p q r t u v x
theorem zI{P:Program}{w0:World}{U0:UX}{nt:Nat}{ops:Array Oper}{o:Oper}{S:Nat->Option AV}{gs:List Nat}{d:Nat}{x:Operand}{ty:TypeId}{ds:TypeDesc}{z:Nat}{c:CV}{n}{q}{p}(r:Gd w0 U0 nt ops o gs S:=by exact gN rfl)(t:o.dst=some d:=by exact rfl)(u:Nat.blt d nt=true:=by exact rfl)(y:Nat.blt d 100000=true:=by exact rfl)(A:o.op=.load ty x:=by exact rfl)(B:P.underlying ty=some ds:=by exact rfl)(C:(P.info? ty).map (·.size)=some z:=by exact rfl)(E:ev S x=some ⟨0,.ptr c,n,q,p⟩:=by exact rfl)(F:X1 ds=Nat.beq c.k 2:=by exact rfl)(G:c.size=z:=by exact rfl):AOp P w0 U0 nt ops o (gs++rd x) [] S [(d,.val c)]:=G5 r t u y A B C E F G
theorem zJ{P:Program}{w0:World}{U0:UX}{nt:Nat}{ops:Array Oper}{o:Oper}{S:Nat->Option AV}{gs:List Nat}{d:Nat}{x:Operand}{y:Operand}{ts:Array TypeId}{k:IntKind}{i:Int}{j:Int}{n}{q}{p}{n'}{q'}{p'}(r:Gd w0 U0 nt ops o gs S:=by exact gN rfl)(t:o.dst=some d:=by exact rfl)(u:Nat.blt d nt=true:=by exact rfl)(v:Nat.blt d 100000=true:=by exact rfl)(z:o.op=.call { callee:=.builtin .min,args := #[x,y],argTypes:=ts }:=by exact rfl)(A:ev S x=some ⟨0,.sc (.int k i),n,q,p⟩:=by exact rfl)(B:ev S y=some ⟨0,.sc (.int k j),n',q',p'⟩:=by exact rfl):AOp P w0 U0 nt ops o (gs++(rd x++rd y)) [] S [(d,.val (.sc (.int k (min i j))))]:=c4t r t u v z A B
theorem zK{P:Program}{w0:World}{U0:UX}{nt:Nat}{ops:Array Oper}{o:Oper}{S:Nat->Option AV}{gs:List Nat}{d:Nat}{x:Operand}{y:Operand}{ts:Array TypeId}{k:IntKind}{i:Int}{j:Int}{n}{q}{p}{n'}{q'}{p'}(r:Gd w0 U0 nt ops o gs S:=by exact gN rfl)(t:o.dst=some d:=by exact rfl)(u:Nat.blt d nt=true:=by exact rfl)(v:Nat.blt d 100000=true:=by exact rfl)(z:o.op=.call { callee:=.builtin .max,args := #[x,y],argTypes:=ts }:=by exact rfl)(A:ev S x=some ⟨0,.sc (.int k i),n,q,p⟩:=by exact rfl)(B:ev S y=some ⟨0,.sc (.int k j),n',q',p'⟩:=by exact rfl):AOp P w0 U0 nt ops o (gs++(rd x++rd y)) [] S [(d,.val (.sc (.int k (max i j))))]:=c4S r t u v z A B
theorem zbu{P:Program}{w0:World}{U0:UX}{nt:Nat}{ops:Array Oper}{o:Oper}{S:Nat->Option AV}{gs:List Nat}{d:Nat}{x:Operand}{y:Operand}{t:TypeId}{e:TypeId}{z:Nat}{l:List CV}{k:IntKind}{i:Int}{lo:Nat}{n}{q}{p}{n'}{q'}{p'}(r:Gd w0 U0 nt ops o gs S:=by exact gN rfl)(u:o.dst=some d:=by exact rfl)(v:Nat.blt d nt=true:=by exact rfl)(A:Nat.blt d 100000=true:=by exact rfl)(B:o.op=.slice t x (some y) none none:=by exact rfl)(C:P.underlying t=some (.slice e):=by exact rfl)(E:(P.info? e).map (·.size)=some z:=by exact rfl)(F:ev S x=some ⟨0,.lst l,n,q,p⟩:=by exact rfl)(G:ev S y=some ⟨0,.sc (.int k i),n',q',p'⟩:=by exact rfl)(H:i=(lo:Int):=by exact rfl)(fQ:lo<=l.length:=by omega)(hz:∀c∈l,c.size=z:=by first | assumption | exact sZ rfl | exact Tm.size_all _ | exact Bd.size_all _ | exact n8 _ | exact bys_size _ | exact Lt.size_all _):AOp P w0 U0 nt ops o (gs++(rd x++rd y)) [] S [(d,.val (.lst (l.drop lo)))]:=c3a r u v A B C E F G H fQ hz
theorem zbI{P:Program}{w0:World}{U0:UX}{nt:Nat}{ops:Array Oper}{o:Oper}{S:Nat->Option AV}{gs:List Nat}{d:Nat}{x:Operand}{y:Operand}{t:TypeId}{e:TypeId}{z:Nat}{l:List CV}{k:IntKind}{i:Int}{gH:Nat}{n}{q}{p}{n'}{q'}{p'}(r:Gd w0 U0 nt ops o gs S:=by exact gN rfl)(u:o.dst=some d:=by exact rfl)(v:Nat.blt d nt=true:=by exact rfl)(A:Nat.blt d 100000=true:=by exact rfl)(B:o.op=.slice t x none (some y) none:=by exact rfl)(C:P.underlying t=some (.slice e):=by exact rfl)(E:(P.info? e).map (·.size)=some z:=by exact rfl)(F:ev S x=some ⟨0,.lst l,n,q,p⟩:=by exact rfl)(G:ev S y=some ⟨0,.sc (.int k i),n',q',p'⟩:=by exact rfl)(H:i=(gH:Int):=by exact rfl)(hhi:gH<=l.length:=by omega)(hz:∀c∈l,c.size=z:=by first | assumption | exact sZ rfl | exact Tm.size_all _ | exact Bd.size_all _ | exact n8 _ | exact bys_size _ | exact Lt.size_all _):AOp P w0 U0 nt ops o (gs++(rd x++rd y)) [] S [(d,.val (.lst (l.take gH)))]:=c2K r u v A B C E F G H hhi hz
theorem SimG.moreD(h:SimG w0 U0 nt s a w D hv){g:Nat}(hg:g<w.heap.size)(kZ:∀k av,look s k=some av->n4 k->av.t≠7->hb (hv k)≠some g):SimG w0 U0 nt s a w (λb o=>D b o\/b=g) hv:=by
 have kL:∀b o v,Us w0 U0 D b o->w.cell? ⟨b,o,none⟩=some v->Us w0 U0 (λb o=>D b o\/b=g) b o/\w.cell? ⟨b,o,none⟩=some v:=λb o v hu hc=>⟨hu.imp id λh=>⟨h.1,.inl h.2⟩,hc⟩
 refine⟨h.below,h.dfr,h.size,λd av h1 h2=>?_,λm o av h1 h2 h3 h4=>?_,h.fdis,λk av h1 h2=>?_,λk av g' h1 h2 h3 h4=>?_,h.disj,h.fix,λb o hd=>?_⟩
 ·obtain⟨v,h3,h4⟩:=h.slot d av h1 h2;exact⟨v,h3,h4.keep kL⟩
 ·obtain⟨v,h5,h6⟩:=h.fld m o av h1 h2 h3 h4;exact⟨v,h5.keep kL,h6⟩
 ·exact(h.obj k av h1 h2).move kL (λ_ h3=>⟨h3,rfl⟩) λ_ _=>rfl
 ·obtain⟨f1,f2,f3⟩:=h.blk k av g' h1 h2 h3 h4;refine⟨f1,f2,λo ho hd=>?_⟩;rcases hd with hd | hd
  ·exact f3 o ho hd
  ·exact kZ k av h1 h2 h3 (by rw[h4,hd])
 ·rcases hd with hd | hd
  ·exact h.dlt b o hd
  ·rw[hd];exact hg
theorem SimG.know(h:SimG w0 U0 nt s a w D hv){d:Nat}{av:AV}{v:Value}(h5:d<100000)(gA:a.tmps[d]?=some v)(bJ:AVRep (Us w0 U0 D) w hv (a9 s) av v):SimG w0 U0 nt ((d,av)::s) a w D hv:=by
 have kA:d<nt:=by
  rw[<-h.size];rcases Nat.lt_or_ge d a.tmps.size with h1 | h1
  ·exact h1
  ·rw[Array.getElem?_eq_none h1]at gA;cases gA
 have:=h.put kA h5 bJ;have e:a.put (some d) v=a:=by
  have:a.tmps.setIfInBounds d v=a.tmps:=by
   apply Array.ext_getElem?;intro i;rw[Array.getElem?_setIfInBounds];split
   ·rename_i e;subst e;rw[if_pos (by rw[h.size];exact kA),gA]
   ·rfl
  show{ a with tmps:=a.tmps.setIfInBounds d v }=a;rw[this]
 rw[e]at this;exact this
theorem q7(n:Nat){c:CV}{k q p v l q1}(hb:look s (100000+n)=some ⟨5,c,k,q,p⟩)(hs:look s n=some ⟨2,⟨q1,v,l⟩,n,0,[]⟩)(jH:Nat.blt n 100000=true){s':AS}(kJ:SubL s s')(hk:V4 s' (100000+n)=true)(gY:V4 s' n=true)(hr:A6 s' [(n,[])]=true):Wk w0 U0 nt s ((n,.val (.ptr c))::s'):=by
 rintro a w ⟨D,hv,h⟩;have hn:=bL jH;obtain⟨g,xs,ty,g0,g1,g2,g5⟩:=h.box hb (by omega);obtain⟨v',g6,g7⟩:=h.slot n _ hs hn;have g7:v'=.pointer (some ⟨q6 (hv (100000+n)),0,none⟩):=g7.2;have jI:Go.Proofs.YteegmcfobgpemaaGreat.hb (hv (100000+n))=some g:=by rw[g0];rfl
 have sH:q6 (hv (100000+n))=g:=by rw[g0];rfl
 rw[sH]at g7;have kJ:=kJ.sub;obtain⟨f1,f2,f3⟩:=h.blk (100000+n) _ g hb ⟨by omega,by omega⟩ (by simp) jI;have nokey:∀{t:AS} {m:Nat},V4 t m=true->∀av,look t m≠some av:=fun{t m} h1 av h2=>by have h3:=E0 h2;unfold V4 at h1;rw[List.all_eq_true]at h1;have:=h1 _ h3;simp at this
 have pX:∀av,look s' (100000+n)≠some av:=nokey hk;have h2:=(h.sub kJ).moreD (g:=g) f2 λk av h3 h4 h5 h6=>h.disj (100000+n) k _ av g hb (kJ _ _ h3) ⟨by omega,by omega⟩ h4 (by simp) h5 (λe=>pX av (e▸h3)) jI h6;rcases f1 with f1 | f1
 ·refine⟨_,hv,h2.know hn g6 (n9 ?_)⟩;rw[g7];refine a0g.2 ⟨g,0,xs,rfl,g2.keep λb o v hu hc=>⟨hu.imp id λh=>⟨h.1,.inl h.2⟩,hc⟩,λi hi=>⟨.inr ⟨f1,.inr rfl⟩,?_⟩⟩;have:=H5 (ys:=[]) (us:=[]) g1 (by simp) i hi;simpa using this
 ·exact absurd (a2e (by omega) _) f1.1
end
section
variable{P:Program}{w0:World}{U0:UX}{nt:Nat}{ops:Array Oper}{o:Oper}{S:Nat->Option AV}{gs:List Nat}{d:Nat}{s:AS}{a:Act}{w:World}{D:Nat->Nat->Prop}{hv:Nat->Value}
theorem a3a(w:World)(o:Obj):w.grownBy (w.alloc o) none:=⟨rfl,rfl,rfl,by simp,λk hk _=>Below.heap_alloc _ _ _ hk⟩
theorem SimG.lit(h:SimG w0 U0 nt s a w D hv)(hd:d<nt)(h5:d<100000){n e z len:Nat}(hn:RW n)(hr:W6 s n)(hz:0<z)(kD:len<=maxLen){r:Array Value}(iB:r.size=len*z){cs:List CV}(eF:cs.length=len)(sI:Sq (cs.map λc=>Rep (Us w0 U0 D) w c) r.toList) :
  Sim w0 U0 nt ((d,.own (.lst cs) n)::(n,.tok e z)::s) (a.put (some d) (.slice (some ⟨w.heap.size,0,none⟩) len len)) (w.alloc (.cells r e)):=by
 have hb:Below w.heap.size w (w.alloc (.cells r e)):=(Below.refl _ _).alloc (Nat.le_refl _) _;have ho:(w.alloc (.cells r e)).ownsRow 0 e z (.slice (some ⟨w.heap.size,0,none⟩) len len) (0+len) ([]++r.toList):=by refine⟨by simp[iB],.inr ⟨w.heap.size,len,r,by simp,Nat.zero_le _,x8 _ _,by simp,kD,iB,?_⟩⟩;rw[Nat.zero_add,nil_append,List.take_of_length_le (by simp[iB])]
 obtain⟨s1,s2⟩:=h.app (v:=.slice none 0 0) hn hr (World.ownsRow_nil _ _ e z) hz (λg hg=>by cases hg) ho (a3a w _) (.inr ⟨a3a w _,λg hg=>by cases hg;exact Nat.le_refl _⟩);refine⟨_,_,s1.put hd h5 ⟨?_,λ_=>?_⟩⟩
 ·refine l5.2 ⟨_,len,len,rfl,eF.symm,Nat.le_refl _,kD,(λh=>by cases h),r.toList,?_,sI.keep s2⟩;have:=At.new (U:=Us w0 U0 (Da D (.slice (some ⟨w.heap.size,0,none⟩) len len) ((0+len)*z))) w r.toList e (λi hi => .inr ⟨h.below.size,.inr ⟨rfl,by rw[Nat.zero_add,<-iB];simpa using hi⟩⟩);rw[Array.toArray_toList]at this;exact this
 ·refine⟨0,.lst cs,rfl,?_⟩;unfold J1;rw[if_neg (by show n≠1;unfold RW at hn;omega)];simp[Value.cells]
theorem b6l(hg:Gd w0 U0 nt ops o gs S)(hd:o.dst=some d)(hn:Nat.blt d nt=true)(h5:Nat.blt d 100000=true){t e:TypeId}{ie:TypeInfo}{sz:Nat}(ho:o.op=.buildSlice t 0 #[])(hu:P.underlying t=some (.slice e))(hi:P.info? e=some ie)(sJ:ie.size=sz)(hp:Nat.blt 0 sz=true) :
  AOp P w0 U0 nt ops o gs [(300000+d,[])] S [(d,.own (.lst []) (300000+d)),(300000+d,.tok e sz)]:=by
 subst sJ;intro s hs hN a w ⟨D,hv,h⟩ Q K hK;rw[if_pos (hg s hs a w D hv h)];have he:(execOp a.eval o).run P w=.ok (.value (.slice (some ⟨w.heap.size,0,none⟩) 0 0)) (w.alloc (.cells #[] e)):=by simp[execOp,ho,Instr.buildSlice,run_underlying hu,sizeOf,typeInfo,hi,Instr.fill,newRow];congr 2;apply Array.ext';simp
 unfold Oper.wp;rw[he,Oper.upon_value,hd];exact hK _ _ (h.lit (bL hn) (bL h5) ⟨by omega,by have:=bL h5;omega⟩ (hN (300000+d,[]) (by simp)).nr (bL hp) (by unfold maxLen;omega) (by simp) rfl rfl)
theorem zU{P:Program}{w0:World}{U0:UX}{nt:Nat}{ops:Array Oper}{o:Oper}{S:Nat->Option AV}{gs:List Nat}{d:Nat}{t:TypeId}{e:TypeId}{ie:TypeInfo}{sz:Nat}(p:Gd w0 U0 nt ops o gs S:=by exact gN rfl)(q:o.dst=some d:=by exact rfl)(r:Nat.blt d nt=true:=by exact rfl)(u:Nat.blt d 100000=true:=by exact rfl)(v:o.op=.buildSlice t 0 #[]:=by exact rfl)(x:P.underlying t=some (.slice e):=by exact rfl)(y:P.info? e=some ie:=by exact rfl)(z:ie.size=sz:=by exact rfl)(A:Nat.blt 0 sz=true:=by exact rfl):AOp P w0 U0 nt ops o gs [(300000+d,[])] S [(d,.own (.lst []) (300000+d)),(300000+d,.tok e sz)]:=b6l p q r u v x y z A
end
structure Tm where
 f:Int
 l:List Tm
def Tm.ps(t:Tm):List Tm:=if t.f<0 then[]else t.l
theorem Tm.ind{P:Tm->Prop}(h:∀f l,(∀t∈l,P t)->P (.mk f l)):∀t,P t:=by
 intro t
 induction hn:SizeOf.sizeOf t using Nat.strongRecOn generalizing t with
 | ind n ih =>
  cases t with
  | mk f l =>
   refine h f l λs hs=>ih (SizeOf.sizeOf s) ?_ s rfl;have:=List.sizeOf_lt_of_mem hs;simp at hn;omega
theorem Tm.ps_mem{t s:Tm}(h:s∈t.ps):s∈t.l/\0<=t.f:=by
 unfold Tm.ps at h;split at h
 ·cases h
 ·exact⟨h,by omega⟩
theorem Tm.ps_of_var{t:Tm}(h:t.f<0):t.ps=[]:=if_pos h
theorem Tm.ps_of_sym{t:Tm}(h:0<=t.f):t.ps=t.l:=if_neg (by omega)
theorem Tm.indp{P:Tm->Prop}(h:∀t,(∀s∈t.ps,P s)->P t):∀t,P t:=
 Tm.ind λf l ih=>h _ λs hs=>ih s (Tm.ps_mem hs).1
def Tm.flat:Tm->List Tm
 | ⟨f,l⟩=>⟨f,l⟩::(if f<0 then[] else(l.map Tm.flat).flatten)
theorem Tm.flat_eq(t:Tm):t.flat=t::t.ps.flatMap Tm.flat:=by
 cases t with
 | mk f l =>
  rw[Tm.flat,<-List.flatMap_def];unfold Tm.ps;simp only;by_cases h:f<0<;>simp[h]
def Tm.size(t:Tm):Nat:=t.flat.length
theorem Tm.size_eq(t:Tm):t.size=1+(t.ps.flatMap Tm.flat).length:=by
 unfold Tm.size;rw[Tm.flat_eq,length_cons];omega
theorem w7{α β:Type}(g:α->List β){l:List α}{x:α}(h:x∈l):(g x).length<=(l.flatMap g).length:=by
 induction l with
 | nil=>cases h
 | cons y ys ih =>
  rw[flatMap_cons,length_append];rcases mem_cons.1 h with rfl | h
  ·omega
  ·have:=ih h;omega
theorem Tm.size_pos(t:Tm):1<=t.size:=by rw[Tm.size_eq];omega
theorem Tm.size_part{t s:Tm}(h:s∈t.ps):s.size<t.size:=by
 have:=w7 Tm.flat h;rw[t.size_eq];unfold Tm.size;omega
theorem Tm.len_ps(t:Tm):t.ps.length<t.size:=by
 rw[t.size_eq];have:∀l:List Tm,l.length<=(l.flatMap Tm.flat).length:=by
  intro l
  induction l with
  | nil=>simp
  | cons y ys ih =>
   have:=y.size_pos;unfold Tm.size at this;rw[flatMap_cons,length_append,length_cons];omega
 have:=this t.ps;omega
def Tm.strip:Tm->Tm
 | ⟨f,l⟩=>⟨f,if f<0 then[]else l.map Tm.strip⟩
theorem Tm.strip_eq(t:Tm):t.strip=.mk t.f (t.ps.map Tm.strip):=by
 cases t with
 | mk f l =>
  rw[Tm.strip];unfold Tm.ps;simp only;by_cases h:f<0<;>simp[h]
theorem Tm.strip_f(t:Tm):t.strip.f=t.f:=by rw[Tm.strip_eq]
theorem Tm.strip_l(t:Tm):t.strip.l=t.ps.map Tm.strip:=by rw[Tm.strip_eq]
theorem Tm.strip_ps(t:Tm):t.strip.ps=t.ps.map Tm.strip:=by
 unfold Tm.ps;rw[Tm.strip_f,Tm.strip_l];split
 ·rfl
 ·unfold Tm.ps;rw[if_neg (by assumption)]
theorem Tm.strip_strip(t:Tm):t.strip.strip=t.strip:=by
 induction t using Tm.indp with
 | h t ih =>
  rw[Tm.strip_eq t.strip,Tm.strip_f,Tm.strip_ps,List.map_map,Tm.strip_eq t];congr 1;exact List.map_congr_left λs hs=>ih s hs
theorem Tm.strip_size(t:Tm):t.strip.size=t.size:=by
 induction t using Tm.indp with
 | h t ih =>
  rw[Tm.size_eq,Tm.size_eq,Tm.strip_ps];congr 1;have:∀l:List Tm,(∀s∈l,s.strip.size=s.size)->((l.map Tm.strip).flatMap Tm.flat).length=(l.flatMap Tm.flat).length:=by
   intro l hl
   induction l with
   | nil=>rfl
   | cons y ys ih2 =>
    have h1:=hl y (by simp);unfold Tm.size at h1;rw[map_cons,flatMap_cons,flatMap_cons,length_append,length_append,h1,ih2 (λs hs=>hl s (mem_cons_of_mem _ hs))]
  exact this _ ih
noncomputable def Tm.cv(t:Tm):CV:=Tm.rec (motive_1:=λ_=>CV) (motive_2:=λ_=>List CV) (λf _ ih => .row [.i f,.lst ih]) [] (λ_ _ a b=>a::b) t
noncomputable abbrev Tm.cw(t:Tm):CV:=.row [.i t.f,.lst (t.l.map Tm.cv)]
theorem Tm.cv_eq(t:Tm):t.cv=t.cw:=by
 cases t with
 | mk f l =>
  have hl:∀l:List Tm,Tm.rec_1 (motive_1:=λ_=>CV) (motive_2:=λ_=>List CV) (λf _ ih => .row [.i f,.lst ih]) [] (λ_ _ a b=>a::b) l=l.map Tm.cv:=by
   intro l
   induction l with
   | nil=>rfl
   | cons c cs ih=>rw[map_cons,<-ih];rfl
  show CV.row [.i f,.lst _]=CV.row [.i f,.lst _];rw[<-hl]
theorem Tm.size_cv(t:Tm):t.cv.size=2:=by rw[Tm.cv_eq];rfl
theorem Tm.size_all(l:List Tm):∀c∈l.map Tm.cv,c.size=2:=by
 intro c hc;obtain⟨t,_,rfl⟩:=mem_map.1 hc;exact t.size_cv
theorem Tm.map_at{l:List Tm}{i:Nat}{t:Tm}(h:l[i]?=some t):(l.map Tm.cv)[i]?=some t.cw:=by rw[List.getElem?_map,h,Option.map_some,Tm.cv_eq]
def Tm.ok:Tm->Prop
 | ⟨f,l⟩=>l.length<=10000000000/\∀t∈l,Tm.ok t
theorem Tm.ok_iff(t:Tm):t.ok↔t.l.length<=10000000000/\∀s∈t.l,s.ok:=by cases t;rw[Tm.ok]
set_option maxHeartbeats 1000000 in
theorem n8(l:List Int):∀c∈l.map CV.i,c.size=1:=by
 intro c hc;obtain⟨z,_,rfl⟩:=mem_map.1 hc;rfl
theorem b4a{l:List Int}{i:Nat}{z:Int}(h:l[i]?=some z):(l.map CV.i)[i]?=some (.i z):=by rw[List.getElem?_map,h];rfl
def Cu(U:Nat->Prop)(w:World)(a:Option Addr)(xs:List Value):Prop:=
 xs=[]\/∃b off,a=some ⟨b,off,none⟩/\U b/\b<w.heap.size/\∀i,i<xs.length->w.cell? ⟨b,off+i,none⟩=xs[i]?
def c4n:List (Int×(Option Addr->Nat->Nat->Prop))->List Value->Prop
 | [],xs=>xs=[]
 | t::ts,xs=>∃a n c ys,xs=.int .i64 t.1 :: .slice a n c::ys/\t.2 a n c/\c4n ts ys
def Tat(U:Nat->Prop)(w:World):Tm->Option Addr->Nat->Nat->Prop
 | ⟨f,l⟩,a,n,c=>(-9223372036854775808<=f/\f<=9223372036854775807)/\(n=l.length/\n<=c/\c<=maxLen/\(a=none->n=0/\c=0)/\∃xs,Cu U w a xs/\c4n (l.map λs=>(s.f,λa n c=>Tat U w s a n c)) xs)
def Ecs(U:Nat->Prop)(w:World)(l:List Tm)(xs:List Value):Prop:=c4n (l.map λs=>(s.f,λa n c=>Tat U w s a n c)) xs
def Las(U:Nat->Prop)(w:World)(l:List Tm)(a:Option Addr)(n c:Nat):Prop:=
 n=l.length/\n<=c/\c<=maxLen/\(a=none->n=0/\c=0)/\∃xs,Cu U w a xs/\Ecs U w l xs
theorem a0L{U:Nat->Prop}{w:World}{t:Tm}{a:Option Addr}{n c:Nat}:Tat U w t a n c↔(-9223372036854775808<=t.f/\t.f<=9223372036854775807)/\Las U w t.l a n c:=by
 cases t with
 | mk f l=>rw[Tat];rfl
theorem Ecs.nil_iff{U:Nat->Prop}{w:World}{xs:List Value}:Ecs U w [] xs↔xs=[]:=Iff.rfl
theorem Ecs.cons_iff{U:Nat->Prop}{w:World}{t:Tm}{ts:List Tm}{xs:List Value}:Ecs U w (t::ts) xs↔∃a n c ys,xs=.int .i64 t.f :: .slice a n c::ys/\Tat U w t a n c/\Ecs U w ts ys:=Iff.rfl
theorem Las.nil(U:Nat->Prop)(w:World):Las U w [] none 0 0:=⟨rfl,Nat.le_refl _,by unfold maxLen;omega,λ_=>⟨rfl,rfl⟩,[],.inl rfl,Ecs.nil_iff.2 rfl⟩
theorem Ecs.length{U:Nat->Prop}{w:World}:∀{l:List Tm} {xs:List Value},Ecs U w l xs->xs.length=l.length*2
 | [],_,h=>by rw[Ecs.nil_iff.1 h];rfl
 | t::ts,_,h=>by
  obtain⟨a,n,c,ys,rfl,_,h2⟩:=Ecs.cons_iff.1 h;have:=Ecs.length h2;simp only[length_cons];omega
theorem Ecs.at{U:Nat->Prop}{w:World}:∀{l:List Tm} {xs:List Value},Ecs U w l xs->∀{i:Nat},i<l.length->∃s a n c,l[i]?=some s/\Tat U w s a n c/\xs[i*2]?=some (.int .i64 s.f)/\xs[i*2+1]?=some (.slice a n c)
 | [],_,h,i,hi=>by simp at hi
 | t::ts,_,h,i,hi=>by
  obtain⟨a,n,c,ys,rfl,h1,h2⟩:=Ecs.cons_iff.1 h;cases i with
  | zero=>exact⟨t,a,n,c,rfl,h1,rfl,rfl⟩
  | succ i =>
   obtain⟨s,a',n',c',e1,e2,e3,e4⟩:=Ecs.at h2 (i:=i) (by simpa using hi);refine⟨s,a',n',c',by simpa using e1,e2,?_,?_⟩
   ·rw[show(i+1)*2=i*2+1+1 by omega];simpa using e3
   ·rw[show(i+1)*2+1=i*2+1+1+1 by omega];simpa using e4
theorem Ecs.append{U:Nat->Prop}{w:World}:∀{l m:List Tm} {xs ys:List Value},Ecs U w l xs->Ecs U w m ys->Ecs U w (l++m) (xs++ys)
 | [],m,xs,ys,h,h2=>by rw[Ecs.nil_iff.1 h];exact h2
 | t::ts,m,xs,ys,h,h2=>by
  obtain⟨a,n,c,zs,rfl,h1,h3⟩:=Ecs.cons_iff.1 h;exact Ecs.cons_iff.2 ⟨a,n,c,zs++ys,rfl,h1,Ecs.append h3 h2⟩
theorem Ecs.single{U:Nat->Prop}{w:World}{t:Tm}{a:Option Addr}{n c:Nat}(h:Tat U w t a n c):Ecs U w [t] [.int .i64 t.f,.slice a n c]:=Ecs.cons_iff.2 ⟨a,n,c,[],rfl,h,Ecs.nil_iff.2 rfl⟩
theorem Las.at{U:Nat->Prop}{w:World}{l:List Tm}{a:Option Addr}{n c:Nat}(h:Las U w l a n c){i:Nat}(hi:i<n) :
  ∃b off s a' n' c',a=some ⟨b,off,none⟩/\U b/\b<w.heap.size/\l[i]?=some s/\Tat U w s a' n' c'/\w.cell? ⟨b,off+i*2,none⟩=some (.int .i64 s.f)/\w.cell? ⟨b,off+i*2+1,none⟩=some (.slice a' n' c'):=by
 obtain⟨h1,_,_,_,xs,h2,h3⟩:=h;obtain⟨s,a',n',c',e1,e2,e3,e4⟩:=h3.at (i:=i) (by omega);have hl:=h3.length;rcases h2 with rfl | ⟨b,off,rfl,hu,kA,hc⟩
 ·simp at e3
 ·refine⟨b,off,s,a',n',c',rfl,hu,kA,e1,e2,?_,?_⟩
  ·rw[hc (i*2) (by omega),e3]
  ·rw[Nat.add_assoc,hc (i*2+1) (by omega),e4]
theorem a0X{w w':World}{b o:Nat}(h:w'.heap[b]?=w.heap[b]?):w'.cell? ⟨b,o,none⟩=w.cell? ⟨b,o,none⟩:=by simp[World.cell?,h]
theorem Cu.keep{U V:Nat->Prop}{w w':World}{a:Option Addr}{xs:List Value}(h:Cu U w a xs)(hs:∀b,U b->b<w.heap.size->V b/\w'.heap[b]?=w.heap[b]?):Cu V w' a xs:=by
 rcases h with h | ⟨b,off,ha,hu,kA,hc⟩
 ·exact .inl h
 ·obtain⟨h1,h2⟩:=hs b hu kA;refine .inr ⟨b,off,ha,h1,?_,λi hi=>?_⟩
  ·rw[Array.getElem?_eq_getElem kA]at h2;exact(Array.getElem?_eq_some_iff.1 h2).1
  ·rw[a0X h2];exact hc i hi
theorem a5z{U V:Nat->Prop}{w w':World}:∀{l:List Tm} {xs:List Value},(∀t∈l,∀a n c,Tat U w t a n c->Tat V w' t a n c)->Ecs U w l xs->Ecs V w' l xs
 | [],_,_,h=>h
 | t::ts,_,ht,h=>by
  obtain⟨a,n,c,ys,h1,h2,h3⟩:=Ecs.cons_iff.1 h;exact Ecs.cons_iff.2 ⟨a,n,c,ys,h1,ht t (by simp) a n c h2,a5z (λs hs=>ht s (mem_cons_of_mem _ hs)) h3⟩
theorem Tat.keep{U V:Nat->Prop}{w w':World}(hs:∀b,U b->b<w.heap.size->V b/\w'.heap[b]?=w.heap[b]?):∀{t:Tm} {a:Option Addr} {n c:Nat},Tat U w t a n c->Tat V w' t a n c:=by
 intro t
 induction t using Tm.ind with
 | h f l ih =>
  intro a n c h;rw[a0L]at h |-;obtain⟨h1,h2,h3,h4,h5,xs,h6,h7⟩:=h;exact⟨h1,h2,h3,h4,h5,xs,h6.keep hs,a5z (λs gC a n c=>ih s gC) h7⟩
theorem Ecs.keep{U V:Nat->Prop}{w w':World}(hs:∀b,U b->b<w.heap.size->V b/\w'.heap[b]?=w.heap[b]?){l:List Tm}{xs:List Value}(h:Ecs U w l xs):Ecs V w' l xs:=a5z (λs _ a n c h'=>h'.keep hs) h
theorem Las.keep{U V:Nat->Prop}{w w':World}(hs:∀b,U b->b<w.heap.size->V b/\w'.heap[b]?=w.heap[b]?){l:List Tm}{a:Option Addr}{n c:Nat}(h:Las U w l a n c):Las V w' l a n c:=by
 obtain⟨h2,h3,h4,h5,xs,h6,h7⟩:=h;exact⟨h2,h3,h4,h5,xs,h6.keep hs,Ecs.keep hs h7⟩
theorem Tat.below{U:Nat->Prop}{B:Nat}{w w':World}(hb:Below B w w')(hU:∀b,U b->b<w.heap.size->b<B){t:Tm}{a:Option Addr}{n c:Nat}(h:Tat U w t a n c):Tat U w' t a n c:=
 h.keep λb h1 h2=>⟨h1,hb.block b (hU b h1 h2)⟩
theorem Las.below{U:Nat->Prop}{B:Nat}{w w':World}(hb:Below B w w')(hU:∀b,U b->b<w.heap.size->b<B){l:List Tm}{a:Option Addr}{n c:Nat}(h:Las U w l a n c):Las U w' l a n c:=
 h.keep λb h1 h2=>⟨h1,hb.block b (hU b h1 h2)⟩
theorem Ecs.below{U:Nat->Prop}{B:Nat}{w w':World}(hb:Below B w w')(hU:∀b,U b->b<w.heap.size->b<B){l:List Tm}{xs:List Value}(h:Ecs U w l xs):Ecs U w' l xs:=
 h.keep λb h1 h2=>⟨h1,hb.block b (hU b h1 h2)⟩
theorem Tat.mono{U V:Nat->Prop}{w:World}(hU:∀b,U b->b<w.heap.size->V b){t:Tm}{a:Option Addr}{n c:Nat}(h:Tat U w t a n c):Tat V w t a n c:=
 h.keep λb h1 h2=>⟨hU b h1 h2,rfl⟩
theorem Ecs.mono{U V:Nat->Prop}{w:World}(hU:∀b,U b->b<w.heap.size->V b){l:List Tm}{xs:List Value}(h:Ecs U w l xs):Ecs V w l xs:=
 h.keep λb h1 h2=>⟨hU b h1 h2,rfl⟩
theorem Tat.las{U:Nat->Prop}{w:World}{t:Tm}{a:Option Addr}{n c:Nat}(h:Tat U w t a n c):Las U w t.l a n c:=(a0L.1 h).2
theorem Tat.wf{U:Nat->Prop}{w:World}{t:Tm}{a:Option Addr}{n c:Nat}(h:Tat U w t a n c) : -9223372036854775808<=t.f/\t.f<=9223372036854775807:=(a0L.1 h).1
theorem Las.len{U:Nat->Prop}{w:World}{l:List Tm}{a:Option Addr}{n c:Nat}(h:Las U w l a n c):n=l.length/\n<=c/\c<=maxLen:=⟨h.1,h.2.1,h.2.2.1⟩
theorem hid{p:Prop}(h:p):Hid p:=h
theorem bW(w:World):Below w.heap.size w w:=Below.refl _ _
theorem bA{w w':World}(h:Below w.heap.size w w')(o:Obj):Below w.heap.size w (w'.alloc o):=h.alloc h.size o
theorem bN{w w' w'':World}(h:Below w.heap.size w w')(h2:Below w'.heap.size w' w''):Below w.heap.size w w'':=h.trans (h2.mono h.size)
theorem bD{w w':World}(h:Below w.heap.size w w'):Below w.heap.size w w'.drew:=h.drew
theorem Tat.bw{U:Nat->Prop}{w w':World}{t:Tm}{a:Option Addr}{n c:Nat}(h:Tat U w t a n c)(hb:Below w.heap.size w w'):Tat U w' t a n c:=h.below hb λ_ _ h=>h
theorem Las.bw{U:Nat->Prop}{w w':World}{l:List Tm}{a:Option Addr}{n c:Nat}(h:Las U w l a n c)(hb:Below w.heap.size w w'):Las U w' l a n c:=h.below hb λ_ _ h=>h
theorem E4(f:Int)(a:Option Addr)(n c:Nat)(w:World) :
  Calls Tryz.prog 103 #[.agg #[.int .i64 f,.slice a n c]] w λe w'=>e=.returned (.bool (decide (f<0)))/\Below w.heap.size w w':=by
 go_enter Tryz.func103,Tryz.ntmps103
 go_wp2
 go_ret
 exact⟨rfl,bA (bW _) _⟩
theorem U9(f:Int)(a:Option Addr)(n c:Nat)(w:World)(h1 : -9223372036854775808<=f)(h2:f<0) :
  Calls Tryz.prog 104 #[.agg #[.int .i64 f,.slice a n c]] w λe w'=>e=.returned (.int .i64 (-1-f))/\Below w.heap.size w w':=by
 go_enter Tryz.func104,Tryz.ntmps104
 go_wp2
 go_ret
 exact⟨rfl,bA (bW _) _⟩
set_option maxHeartbeats 400000 in
theorem b5x(f:Int)(a:Option Addr)(n c:Nat)(w:World)(h:f<0) :
  Calls Tryz.prog 134 #[.agg #[.int .i64 f,.slice a n c]] w λe w'=>e=.returned (.slice none 0 0)/\Below w.heap.size w w':=by
 go_enter Tryz.func134,Tryz.ntmps134
 go_wp2_with (go_at_call 103;refine(E4 _ _ _ _ _).mono ?_;rintro e w1 ⟨rfl,kP⟩)
 go_wp2
 go_ret
 exact⟨rfl,bN (bA (bW _) _) kP⟩
set_option maxHeartbeats 400000 in
theorem b5q(f:Int)(a:Option Addr)(n c:Nat)(w:World)(h:0<=f) :
  Calls Tryz.prog 134 #[.agg #[.int .i64 f,.slice a n c]] w λe w'=>e=.returned (.slice a n c)/\Below w.heap.size w w':=by
 have h':¬ f<0:=by omega
 have vJ:∀w1,Below (w.alloc (.cells #[.int .i64 f,.slice a n c] 41)).heap.size (w.alloc (.cells #[.int .i64 f,.slice a n c] 41)) w1->w1.cell? ⟨w.heap.size,1,none⟩=some (.slice a n c):=λw1 hb=>by rw[hb.cell (by simp),World.cell?_alloc_mark];rfl
 go_enter Tryz.func134,Tryz.ntmps134
 go_wp2_with (go_at_call 103;refine(E4 _ _ _ _ _).mono ?_;rintro e w1 ⟨rfl,kP⟩;have gP:=vJ w1 kP)
 go_wp2
 go_ret
 exact⟨rfl,bN (bA (bW _) _) kP⟩
theorem a0m{U:Nat->Prop}{t:Tm}{a:Option Addr}{n c:Nat}{w:World}(h:Tat U w t a n c) :
  Calls Tryz.prog 134 #[.agg #[.int .i64 t.f,.slice a n c]] w λe w'=>Below w.heap.size w w'/\∃a' n' c',e=.returned (.slice a' n' c')/\Las U w' t.ps a' n' c':=by
 by_cases hf:t.f<0
 ·refine(b5x _ _ _ _ _ hf).mono ?_;rintro e w' ⟨rfl,hb⟩;exact⟨hb,_,_,_,rfl,by rw[Tm.ps_of_var hf];exact Las.nil _ _⟩
 ·refine(b5q _ _ _ _ _ (by omega)).mono ?_;rintro e w' ⟨rfl,hb⟩;exact⟨hb,_,_,_,rfl,by rw[Tm.ps_of_sym (by omega)];exact h.las.bw hb⟩
theorem a2z(x:Int)(w:World) :
  Calls Tryz.prog 164 #[.int .i64 x] w λe w'=>e=.returned (.bool false)/\w'=w:=by
 go_enter Tryz.func164,Tryz.ntmps164
 go_wp2
 go_ret
 exact⟨by simp,rfl⟩
def G2(x y:Int):Int:=if x<y then -1 else if y<x then 1 else 0
set_option maxHeartbeats 400000 in
theorem N3(x y:Int)(w:World) :
  Calls Tryz.prog 137 #[.int .i64 x,.int .i64 y] w λe w'=>e=.returned (.int .i64 (G2 x y))/\Below w.heap.size w w':=by
 rcases Int.lt_trichotomy x y with h | h | h
 ·have h2:G2 x y = -1:=if_pos h;rw[h2];clear h2
  go_enter Tryz.func137,Tryz.ntmps137
  go_wp2_with (go_at_call 164;refine(a2z _ _).mono ?_;rintro e w1 ⟨rfl,rfl⟩)
  go_ret
  exact⟨rfl,bW _⟩
 ·subst h;have h2:G2 x x=0:=by simp[G2]
  rw[h2];clear h2
  go_enter Tryz.func137,Tryz.ntmps137
  go_wp2_with (go_at_call 164;refine(a2z _ _).mono ?_;rintro e w1 ⟨rfl,rfl⟩)
  go_ret
  exact⟨rfl,bW _⟩
 ·have h2:G2 x y=1:=by unfold G2;rw[if_neg (by omega),if_pos h]
  rw[h2];clear h2
  go_enter Tryz.func137,Tryz.ntmps137
  go_wp2_with (go_at_call 164;refine(a2z _ _).mono ?_;rintro e w1 ⟨rfl,rfl⟩)
  go_ret
  exact⟨rfl,bW _⟩
def a8S(x y:Int):Int:=if x<0/\y<0 then G2 (-1-x) (-1-y)else G2 x y
theorem c5r{w w1:World}{x y:Value}{t:TypeId}(hb:Below (w.alloc (.cells #[x,y] t)).heap.size (w.alloc (.cells #[x,y] t)) w1):w1.cell? ⟨w.heap.size,0,none⟩=some x/\w1.cell? ⟨w.heap.size,1,none⟩=some y:=by
 constructor
 ·rw[hb.cell (by simp),World.cell?_alloc_mark];rfl
 ·rw[hb.cell (by simp),World.cell?_alloc_mark];rfl
theorem c4i{w w1:World}{x y x' y':Value}{t t':TypeId}(hb:Below ((w.alloc (.cells #[x,y] t)).alloc (.cells #[x',y'] t')).heap.size ((w.alloc (.cells #[x,y] t)).alloc (.cells #[x',y'] t')) w1) :
  (w1.cell? ⟨w.heap.size,0,none⟩=some x/\w1.cell? ⟨w.heap.size,1,none⟩=some y)/\(w1.cell? ⟨w.heap.size+1,0,none⟩=some x'/\w1.cell? ⟨w.heap.size+1,1,none⟩=some y'):=by
 refine⟨c5r (bN (bA (bW _) _) hb),?_⟩;have:=c5r hb;rw[World.size_alloc]at this;exact this
set_option maxHeartbeats 800000 in
theorem b6t(f g:Int)(a b:Option Addr)(n c m d:Nat)(w:World)(hf : -9223372036854775808<=f)(hg : -9223372036854775808<=g) :
  Calls Tryz.prog 136 #[.agg #[.int .i64 f,.slice a n c],.agg #[.int .i64 g,.slice b m d]] w λe w'=>e=.returned (.int .i64 (a8S f g))/\Below w.heap.size w w':=by
 obtain⟨w0,eS⟩:∃w0,w0=(w.alloc (.cells #[.int .i64 f,.slice a n c] 41)).alloc (.cells #[.int .i64 g,.slice b m d] 41):=⟨_,rfl⟩
 have HB:Hid (∀w1,Below w0.heap.size w0 w1->(w1.cell? ⟨w.heap.size,0,none⟩=some (.int .i64 f)/\w1.cell? ⟨w.heap.size,1,none⟩=some (.slice a n c))/\(w1.cell? ⟨w.heap.size+1,0,none⟩=some (.int .i64 g)/\w1.cell? ⟨w.heap.size+1,1,none⟩=some (.slice b m d))):=λw1 hb=>by rw[eS]at hb;exact c4i hb
 have HW:Hid (w0=(w.alloc (.cells #[.int .i64 f,.slice a n c] 41)).alloc (.cells #[.int .i64 g,.slice b m d] 41)):=eS;have HB0:Hid (Below w.heap.size w w0):=by rw[eS];exact bA (bA (bW _) _) _
 clear eS;have hq:Below w0.heap.size w0 w0:=bW _;obtain⟨⟨c1,c2⟩,c3,c4⟩:=HB.out w0 hq;by_cases h1:f<0
 ·by_cases h2:g<0
  ·have h3:a8S f g=G2 (-1-f) (-1-g):=if_pos ⟨h1,h2⟩;rw[h3];clear h3;have rA:g <= -1:=by omega
   have h1':f <= -1:=by omega
   go_enter Tryz.func136,Tryz.ntmps136
   go_wp2_with fail
   rw[<-HW.out]
   go_wp2_with (go_at_call 103;refine(E4 _ _ _ _ _).mono ?_;rintro e w1 ⟨rfl,kP⟩;replace hq:=bN hq kP;clear c1 c2 c3 c4 kP;obtain⟨⟨c1,c2⟩,c3,c4⟩:=HB.out _ hq)
   go_region_held3 (λw'=>(w'.cell? ⟨w.heap.size,0,none⟩=some (.int .i64 f)/\w'.cell? ⟨w.heap.size,1,none⟩=some (.slice a n c))/\(w'.cell? ⟨w.heap.size+1,0,none⟩=some (.int .i64 g)/\w'.cell? ⟨w.heap.size+1,1,none⟩=some (.slice b m d))) (exact HB.out _ (by first | with_reducible exact hq | with_reducible exact bD hq))
    (first
     | (go_at_call 104;refine(U9 _ _ _ _ _ (by assumption) (by assumption)).mono ?_;rintro e w2 ⟨rfl,gL⟩;replace hq:=bN (by first | with_reducible exact hq | with_reducible exact bD hq) gL;clear gL;dsimp only)
     | (go_at_call 137;refine(N3 _ _ _).mono ?_;rintro e w2 ⟨rfl,gL⟩;replace hq:=bN (by first | with_reducible exact hq | with_reducible exact bD hq) gL;clear gL;dsimp only))
   go_wp2_with fail
   go_ret
   exact⟨rfl,bN HB0.out hq⟩
  ·have h3:a8S f g=G2 f g:=if_neg (by omega);rw[h3];clear h3
   go_enter Tryz.func136,Tryz.ntmps136
   go_wp2_with fail
   rw[<-HW.out]
   go_wp2_with (first
    | (go_at_call 103;refine(E4 _ _ _ _ _).mono ?_;rintro e w1 ⟨rfl,kP⟩;replace hq:=bN hq kP;clear c1 c2 c3 c4 kP;obtain⟨⟨c1,c2⟩,c3,c4⟩:=HB.out _ hq)
    | (go_at_call 137;refine(N3 _ _ _).mono ?_;rintro e w1 ⟨rfl,kP⟩))
   go_ret
   exact⟨rfl,bN (bN HB0.out hq) kP⟩
 ·have h3:a8S f g=G2 f g:=if_neg (by omega);rw[h3];clear h3
  go_enter Tryz.func136,Tryz.ntmps136
  go_wp2_with fail
  rw[<-HW.out]
  go_wp2_with (first
   | (go_at_call 103;refine(E4 _ _ _ _ _).mono ?_;rintro e w1 ⟨rfl,kP⟩;replace hq:=bN hq kP;clear c1 c2 c3 c4 kP;obtain⟨⟨c1,c2⟩,c3,c4⟩:=HB.out _ hq)
   | (go_at_call 137;refine(N3 _ _ _).mono ?_;rintro e w1 ⟨rfl,kP⟩))
  go_ret
  exact⟨rfl,bN (bN HB0.out hq) kP⟩
def c4m:List (Tm->Int)->List Tm->Int
 | [],[]=>0
 | [],_::_ => -1
 | _::_,[]=>1
 | c::cs,s::ss=>if c s≠0 then c s else c4m cs ss
def S1:Tm->Tm->Int
 | ⟨f,l⟩,b=>if f≠b.f then a8S f b.f else if f<0 then 0 else if l.length≠b.l.length then G2 l.length b.l.length else c4m (l.map λs=>λb=>S1 s b) b.l
def a0c(l m:List Tm):Int:=c4m (l.map λs=>λb=>S1 s b) m
theorem a1H:a0c [] []=0:=rfl
theorem a8x(s:Tm)(ss:List Tm):a0c [] (s::ss) = -1:=rfl
theorem a8V(t:Tm)(ts:List Tm):a0c (t::ts) []=1:=rfl
theorem a7r(t s:Tm)(ts ss:List Tm):a0c (t::ts) (s::ss)=if S1 t s≠0 then S1 t s else a0c ts ss:=rfl
theorem b4l(a b:Tm):S1 a b=if a.f≠b.f then a8S a.f b.f else if a.ps.length≠b.ps.length then G2 a.ps.length b.ps.length else a0c a.ps b.ps:=by
 cases a with
 | mk f l =>
  cases b with
  | mk g m =>
   rw[S1];unfold Tm.ps;show _=if ¬ f=g then _ else if ¬ (if f<0 then[]else l).length=(if g<0 then[]else m).length then _ else a0c (if f<0 then[]else l) (if g<0 then[]else m)
   simp only;by_cases h:f=g
   ·subst h;by_cases h2:f<0
    ·simp[h2,a1H]
    ·by_cases h3:l.length=m.length<;>simp[h2,h3,a0c]
   ·simp[h]
theorem Q4{α:Type}{l:List α}{k:Nat}{x:α}(h:l[k]?=some x):l.drop k=x::l.drop (k+1):=by
 obtain⟨kA,rfl⟩:=List.getElem?_eq_some_iff.1 h;exact List.drop_eq_getElem_cons kA
set_option maxRecDepth 100000 in
set_option maxHeartbeats 800000 in
theorem a3z{U:Nat->Prop}{la lb:List Tm}{a1 a2:Option Addr}{n1 c1 n2 c2:Nat}{w:World}(h1:Las U w la a1 n1 c1)(h2:Las U w lb a2 n2 c2)
  (hC:∀t∈la,∀(s:Tm) (a a':Option Addr) (n c n' c':Nat) (w':World),Tat U w' t a n c->Tat U w' s a' n' c'->Calls Tryz.prog 105 #[.agg #[.int .i64 t.f,.slice a n c],.agg #[.int .i64 s.f,.slice a' n' c']] w' λe w''=>e=.returned (.int .i64 (S1 t s))/\Below w'.heap.size w' w'') :
  Calls Tryz.prog 138 #[.slice a1 n1 c1,.slice a2 n2 c2,.func (.func 105) #[] #[]] w λe w'=>e=.returned (.int .i64 (a0c la lb))/\Below w.heap.size w w':=by
 have HL1:Hid (n1=la.length/\n1<=c1/\c1<=maxLen):=h1.len;have HL2:Hid (n2=lb.length/\n2<=c2/\c2<=maxLen):=h2.len;have bI:n1<=9223372036854775807:=by have:=HL1.out;unfold maxLen at this;omega
 have bH:n2<=9223372036854775807:=by have:=HL2.out;unfold maxLen at this;omega
 have HA1:Hid (∀w',Below w.heap.size w w'->Las U w' la a1 n1 c1):=λw' hb=>h1.bw hb;have HA2:Hid (∀w',Below w.heap.size w w'->Las U w' lb a2 n2 c2):=λw' hb=>h2.bw hb;have HC:=hid hC;clear h1 h2 hC
 go_enter Tryz.func138,Tryz.ntmps138
 go_wp2
 go_loopw [13] (λi wr=>∃k:Nat,i=.int .i64 (k:Int)/\k<=n1/\Below w.heap.size w wr/\a0c (la.drop k) (lb.drop k)=a0c la lb) (λi _=>n1-(intOf i).toNat)
 case atStart=>exact⟨0,rfl,by omega,bW _,by simp⟩
 case round =>
  obtain⟨k,rfl,hk,cM,mQ⟩:=hrel;have HCM:=hid mQ;clear mQ;by_cases kA:k<n1
  ·obtain⟨b,off,t,a',n',c',rfl,hU,sK,ht,hT,e1,e2⟩:=(HA1.out wr cM).at kA;have HT:=hid ht;clear ht;by_cases h2:k<n2
   ·obtain⟨b2,off2,s,a2',n2',c2',rfl,hU2,hlt2',hs,hS,e3,e4⟩:=(HA2.out wr cM).at h2;have HS:=hid hs;clear hs;have HCall:Hid (∀w',Below wr.heap.size wr w'->Calls Tryz.prog 105 #[.agg #[.int .i64 t.f,.slice a' n' c'],.agg #[.int .i64 s.f,.slice a2' n2' c2']] w' λe w''=>e=.returned (.int .i64 (S1 t s))/\Below w'.heap.size w' w''):=λw' hb=>HC.out t (mem_of_getElem? HT.out) s _ _ _ _ _ _ w' (hT.bw hb) (hS.bw hb);have HD:Hid (a0c (la.drop k) (lb.drop k)=if S1 t s≠0 then S1 t s else a0c (la.drop (k+1)) (lb.drop (k+1))):=by show _=_;rw[Q4 HT.out,Q4 HS.out,a7r]
    obtain⟨z,hz⟩:∃z,z=S1 t s:=⟨_,rfl⟩
    rw[<-hz]at HD HCall;clear hz;by_cases hz0:z=0
    ·subst hz0;have HE:Hid (a0c (la.drop (k+1)) (lb.drop (k+1))=a0c la lb):=by show _=_;rw[<-HCM.out,HD.out];simp
     go_wp2_with (go_at_call 105;refine(HCall.out _ (bA (bA (bW _) _) _)).mono ?_;rintro e w1 ⟨rfl,kP⟩)
     go_roundw
     case rel=>exact⟨k+1,by go_num,by omega,bN cM (bN (bA (bA (bW _) _) _) kP),HE.out⟩
     case measure=>simp[intOf];omega
    ·have HE:Hid (a0c la lb=z):=by show _=_;rw[<-HCM.out,HD.out];simp[hz0]
     go_wp2_with (go_at_call 105;refine(HCall.out _ (bA (bA (bW _) _) _)).mono ?_;rintro e w1 ⟨rfl,kP⟩)
     go_ret
     exact⟨by rw[HE.out];rfl,bN cM (bN (bA (bA (bW _) _) _) kP)⟩
   ·have HE:Hid (a0c la lb=1):=by show _=_;rw[<-HCM.out,Q4 HT.out,show lb.drop k=[]from List.drop_eq_nil_of_le (by have:=HL2.out;omega),a8V]
    go_wp2
    go_ret
    exact⟨by rw[HE.out];rfl,bN cM (bA (bW _) _)⟩
  ·have HE:Hid (a0c la lb=if n1<n2 then -1 else 0):=by
    show _=_;rw[<-HCM.out,show la.drop k=[]from List.drop_eq_nil_of_le (by have:=HL1.out;omega)];cases hd:lb.drop k with
    | nil =>
     rw[a1H,if_neg];have:=List.drop_eq_nil_iff.1 hd;have:=HL2.out;omega
    | cons x xs =>
     rw[a8x,if_pos];have h3:¬ lb.drop k=[]:=by rw[hd];simp
     rw[List.drop_eq_nil_iff]at h3;have:=HL2.out;have:=HL1.out;omega
   by_cases h3:n1<n2
   ·go_wp2
    go_ret
    exact⟨by rw[HE.out,if_pos h3];rfl,cM⟩
   ·go_wp2
    go_ret
    exact⟨by rw[HE.out,if_neg (by omega)];rfl,cM⟩
set_option maxRecDepth 100000 in
set_option maxHeartbeats 800000 in
theorem a3d{U:Nat->Prop}:∀(t s:Tm) (a a':Option Addr) (n c n' c':Nat) (w:World),Tat U w t a n c->Tat U w s a' n' c' ->
  Calls Tryz.prog 105 #[.agg #[.int .i64 t.f,.slice a n c],.agg #[.int .i64 s.f,.slice a' n' c']] w λe w'=>e=.returned (.int .i64 (S1 t s))/\Below w.heap.size w w':=by
 intro t
 induction t using Tm.indp with
 | h t ih =>
  intro s a a' n c n' c' w ht hs;obtain⟨w0,eS⟩:∃w0,w0=(w.alloc (.cells #[.int .i64 t.f,.slice a n c] 41)).alloc (.cells #[.int .i64 s.f,.slice a' n' c'] 41):=⟨_,rfl⟩
  have HB:Hid (∀w1,Below w0.heap.size w0 w1->(w1.cell? ⟨w.heap.size,0,none⟩=some (.int .i64 t.f)/\w1.cell? ⟨w.heap.size,1,none⟩=some (.slice a n c))/\(w1.cell? ⟨w.heap.size+1,0,none⟩=some (.int .i64 s.f)/\w1.cell? ⟨w.heap.size+1,1,none⟩=some (.slice a' n' c'))):=λw1 hb=>by rw[eS]at hb;exact c4i hb
  have HW:=hid eS;have HB0:Hid (Below w.heap.size w w0):=by rw[eS];exact bA (bA (bW _) _) _
  clear eS;have HT:Hid (∀w1,Below w0.heap.size w0 w1->Tat U w1 t a n c/\Tat U w1 s a' n' c'):=λw1 hb=>⟨ht.bw (bN HB0.out hb),hs.bw (bN HB0.out hb)⟩
  have HF:=hid (And.intro ht.wf hs.wf);have HE:=hid (b4l t s);have HI:=hid ih;have hq:Below w0.heap.size w0 w0:=bW _;obtain⟨z,hz⟩:∃z,z=S1 t s:=⟨_,rfl⟩
  rw[<-hz]at HE |-;clear hz ht hs ih;by_cases hf:t.f=s.f
  ·have HE2:Hid (z=if t.ps.length≠s.ps.length then G2 t.ps.length s.ps.length else a0c t.ps s.ps):=by show _=_;rw[HE.out,if_neg (by simp[hf])]
   have HP1:Hid (∀w1,Below w0.heap.size w0 w1->Calls Tryz.prog 134 #[.agg #[.int .i64 t.f,.slice a n c]] w1 λe w'=>Below w1.heap.size w1 w'/\∃a' n' c',e=.returned (.slice a' n' c')/\Las U w' t.ps a' n' c'):=λw1 hb=>a0m (HT.out w1 hb).1;have HP2:Hid (∀w1,Below w0.heap.size w0 w1->Calls Tryz.prog 134 #[.agg #[.int .i64 t.f,.slice a' n' c']] w1 λe w'=>Below w1.heap.size w1 w'/\∃a' n' c',e=.returned (.slice a' n' c')/\Las U w' s.ps a' n' c'):=λw1 hb=>by have:=a0m (HT.out w1 hb).2;rw[<-hf]at this;exact this
   rw[<-hf]at HB HW |-;obtain⟨f,lU⟩:∃f,f=t.f:=⟨_,rfl⟩
   rw[<-lU]at HB HW HP1 HP2 |-;clear HE lU hf HF HT;obtain⟨⟨c1,c2⟩,c3,c4⟩:=HB.out w0 hq
   go_enter Tryz.func105,Tryz.ntmps105
   go_wp2_with fail
   rw[<-HW.out]
   go_region_held3 (λw'=>(w'.cell? ⟨w.heap.size,0,none⟩=some (.int .i64 f)/\w'.cell? ⟨w.heap.size,1,none⟩=some (.slice a n c))/\(w'.cell? ⟨w.heap.size+1,0,none⟩=some (.int .i64 f)/\w'.cell? ⟨w.heap.size+1,1,none⟩=some (.slice a' n' c'))) (exact HB.out _ (by first | with_reducible exact hq | with_reducible exact bD hq))
    (first
     | (go_at_call_of 134 (Value.agg #[Value.int .i64 f,Value.slice a n c]);refine(HP1.out _ (by first | with_reducible exact hq | with_reducible exact bD hq)).mono ?_;rintro e w2 ⟨gL,a2,n2,c2,rfl,kM⟩;replace hq:=bN (by first | with_reducible exact hq | with_reducible exact bD hq) gL;clear gL;dsimp only)
     | (go_at_call_of 134 (Value.agg #[Value.int .i64 f,Value.slice a' n' c']);refine(HP2.out _ (by first | with_reducible exact hq | with_reducible exact bD hq)).mono ?_;rintro e w3 ⟨dY,a3,n3,c3,rfl,iD⟩;replace hq:=bN (by first | with_reducible exact hq | with_reducible exact bD hq) dY;replace kM:=kM.bw (by first | with_reducible exact dY | with_reducible exact bN (bD (bW _)) dY);dsimp only))
   have HN:Hid (n2=t.ps.length/\n3=s.ps.length):=⟨kM.1,iD.1⟩
   by_cases hn:n2=n3
   ·subst hn;have HE3:Hid (z=a0c t.ps s.ps):=by show _=_;rw[HE2.out,if_neg (by have:=HN.out;omega)]
    go_wp2_with (go_at_call 138;refine(a3z kM iD HI.out).mono ?_;rintro e w4 ⟨rfl,eT⟩)
    go_ret
    exact⟨by rw[HE3.out];rfl,bN (bN HB0.out hq) eT⟩
   ·have HE3:Hid (z=G2 n2 n3):=by show _=_;rw[HE2.out,if_pos (by have:=HN.out;omega),HN.out.1,HN.out.2]
    go_wp2_with (go_at_call 137;refine(N3 _ _ _).mono ?_;rintro e w4 ⟨rfl,eT⟩)
    go_ret
    exact⟨by rw[HE3.out];rfl,bN (bN HB0.out hq) eT⟩
  ·have HE2:Hid (z=a8S t.f s.f):=by show _=_;rw[HE.out,if_pos hf]
   have yJ:=HF.out.1.1;have pY:=HF.out.2.1;obtain⟨f,lU⟩:∃f,f=t.f:=⟨_,rfl⟩
   obtain⟨g,sL⟩:∃g,g=s.f:=⟨_,rfl⟩
   rw[<-lU,<-sL]at HB HW HE2 hf |-;rw[<-lU]at yJ;rw[<-sL]at pY;clear HE lU sL HF HT;obtain⟨⟨c1,c2⟩,c3,c4⟩:=HB.out w0 hq
   go_enter Tryz.func105,Tryz.ntmps105
   go_wp2_with fail
   rw[<-HW.out]
   go_wp2_with (go_at_call 136;refine(b6t _ _ _ _ _ _ _ _ _ yJ pY).mono ?_;rintro e w1 ⟨rfl,kP⟩)
   go_ret
   exact⟨by rw[HE2.out];rfl,bN (bN HB0.out hq) kP⟩
def y0(t s:Tm):Bool:=S1 t s == 0
set_option maxHeartbeats 400000 in
theorem b7b{U:Nat->Prop}(t s:Tm)(a a':Option Addr)(n c n' c':Nat)(w:World)(ht:Tat U w t a n c)(hs:Tat U w s a' n' c') :
  Calls Tryz.prog 76 #[.agg #[.int .i64 t.f,.slice a n c],.agg #[.int .i64 s.f,.slice a' n' c']] w λe w'=>e=.returned (.bool (y0 t s))/\Below w.heap.size w w':=by
 have HC:Hid (∀w1,Below w.heap.size w w1->Calls Tryz.prog 105 #[.agg #[.int .i64 t.f,.slice a n c],.agg #[.int .i64 s.f,.slice a' n' c']] w1 λe w'=>e=.returned (.int .i64 (S1 t s))/\Below w1.heap.size w1 w'):=λw1 hb=>a3d t s _ _ _ _ _ _ w1 (ht.bw hb) (hs.bw hb);unfold y0;clear ht hs
 go_enter Tryz.func76,Tryz.ntmps76
 go_wp2_with (go_at_call 105;refine(HC.out _ (bA (bA (bW _) _) _)).mono ?_;rintro e w1 ⟨rfl,kP⟩)
 go_ret
 exact⟨rfl,bN (bA (bA (bW _) _) _) kP⟩
section
variable{α:Type}{P:Program}
def a3u(P:Program)(gf:Nat)(lb:Array Value)(encs:α->Array Value)(Ok:List α->α->World->Prop)(Kp:World->World->Prop)(S:List α->Prop)(w:World):Prop:=
 ∀(l:Nat) (J:List α->World->Prop) (W:World),Below w.heap.size w W->(∀pre A B,J pre A->Below A.heap.size A B->J pre B) ->
  (∀pre x V,J pre V->Ok pre x V->YieldAt Fence.wide 1 P l (encs x) V λe V'=>e=.returned (.bool true)/\J (pre++[x]) V'/\Kp V V') ->
  J [] W->CallsIn Fence.wide 2 P gf (#[.func (.yield l) #[] #[]]++lb) W λe W'=>(∃v,e=.returned v)/\∃xs,S xs/\J xs W'
def p9(fn:FuncId)(tmps:Array Value)(ps:Array Tmp)(assign body:Code)(D:Nat)(st:LoopState):Loop:=
 { state:=st,pending:=none,fn:=fn,tmps:=tmps,params:=ps,assign:=assign,body:=body,defers:=D }
end
section
open Go.RowKit Go.Shelf
attribute [local go_sem] Oper.semAt_some
structure Tr where
 t:Tm
 a:Option Addr
 n:Nat
 c:Nat
def Tr.v(x:Tr):Value:=.agg #[.int .i64 x.t.f,.slice x.a x.n x.c]
def Tr.ok(n₀:Nat)(x:Tr)(V:World):Prop:=Tat (·< n₀) V x.t x.a x.n x.c
def KpT(n₀:Nat)(V V':World):Prop:=Below n₀ V V'/\∀(g:Nat) cs fl,V.heap[g]?=some (Obj.cells cs 41 fl)->V'.heap[g]?=some (Obj.cells cs 41 fl)
theorem KpT.refl(n₀:Nat)(V:World):KpT n₀ V V:=⟨Below.refl _ _,λ_ _ _ h=>h⟩
theorem KpT.trans{n₀:Nat}{A B C:World}(h:KpT n₀ A B)(k:KpT n₀ B C):KpT n₀ A C:=⟨h.1.trans k.1,λg cs fl e=>k.2 g cs fl (h.2 g cs fl e)⟩
theorem KpT.of_below{n₀:Nat}{A B:World}(hn:n₀<=A.heap.size)(h:Below A.heap.size A B):KpT n₀ A B:=⟨h.mono hn,λg cs fl e=>by
 rw[h.block g (Array.getElem?_eq_some_iff.1 e).1];exact e⟩
theorem I6{w:World}{b:Nat}{x y:Value}{t:TypeId}{fl:Nat×Nat}(h:w.heap[b]?=some (.cells #[x,y] t fl)):w.cell? ⟨b,0,none⟩=some x/\w.cell? ⟨b,1,none⟩=some y:=by
 constructor<;>simp[World.cell?,h]
theorem b0e{m:Nat}(m':Nat){P:Program}{l:Nat}{args:Array Value}{W:World}{R:Ending->World->Prop}(h:YieldAt Fence.wide m P l args W R):YieldAt Fence.wide m' P l args W R:=by
 obtain⟨fn,tmps,assign,body,hy,hR⟩:=h;exact⟨fn,tmps,assign,body,hy,hR.1,λc cs _=>hR.2 c cs (λd h=>by cases h)⟩
set_option maxRecDepth 100000 in
set_option maxHeartbeats 2000000 in
theorem c1u(l n₀ N:Nat)(J:List Tr->World->Prop)(hJ:∀pre A B,J pre A->Below A.heap.size A B->J pre B)
  (hY:∀m pre (x:Tr) V,J pre V->x.ok n₀ V/\pre.length<N->YieldAt Fence.wide m Tryz.prog l #[x.v] V λe V'=>e=.returned (.bool true)/\J (pre++[x]) V'/\KpT n₀ V V') (t:Tm) :
  ∀(d:Nat) (a:Option Addr) (n c:Nat) (pre:List Tr) (W:World),Tat (·< n₀) W t a n c->n₀<=W.heap.size->J pre W->pre.length+t.size<=N ->
   CallsIn Fence.wide d Tryz.prog 107 #[.agg #[.int .i64 t.f,.slice a n c],.func (.yield l) #[] #[]] W λe W'=>e=.returned (.bool true)/\∃xs:List Tr,xs.map Tr.t=t.flat/\J (pre++xs) W'/\KpT n₀ W W':=by
 induction t using Tm.indp with
 | h t ih =>
  intro d a n c pre W ht hn gB hN;have dG:=t.size_pos;have rC:∀k:Nat,(Fence.wide.depth.isSome=true->1<=k):=λk h=>by cases h
  obtain⟨W1,gZ⟩:∃W1,W1=W.alloc (.cells #[.int .i64 t.f,.slice a n c] 41):=⟨_,rfl⟩
  have kP:Below W.heap.size W W1:=by rw[gZ];exact bA (bW _) _
  have eU:W1.heap[W.heap.size]?=some (.cells #[.int .i64 t.f,.slice a n c] 41 (0,0)):=by rw[gZ];exact World.alloc_heap_new _ _
  obtain⟨c1,c2⟩:=I6 eU;have lE:Tat (·< n₀) W1 t a n c:=ht.bw kP;obtain⟨fn,tmps,assign,body,hy,hR⟩:=hY (d-1) pre ⟨t,a,n,c⟩ W1 (hJ _ _ _ gB kP) ⟨lE,by omega⟩;dsimp only[Tr.v]at hy;have HW:=hid gZ;clear gZ;refine callsIn_of_wp Tryz.func107 rfl trivial ?_ rfl;simp only[Tryz.ntmps107,size_toArray,length_cons,length_nil,Nat.reduceAdd,Nat.reduceSub,Array.replicate_succ,Array.replicate_zero,push_toArray,append_toArray,nil_append,cons_append];rw[HW.out]at hy hR
  gi_wp2_with fail
  refine⟨rC _,hR.mono ?_⟩;rw[<-HW.out];rintro e W2 ⟨rfl,jK,gY⟩;obtain⟨c1,c2⟩:=I6 (gY.2 _ _ _ eU);have ht2:Tat (·< n₀) W2 t a n c:=lE.below gY.1 λb h _=>h;have gF:KpT n₀ W W2:=(KpT.of_below hn kP).trans gY;have bH:n₀<=W2.heap.size:=Nat.le_trans hn gF.1.size
  gi_wp2_with (refine⟨trivial,rC _,?_⟩;gi_at_call 134;refine(callsIn_wide.2 (a0m ht2)).mono ?_;rintro e W3 ⟨dY,a3,n3,c3,rfl,iD⟩)
  have HL3:=hid iD.len;have hm3:n3<=9223372036854775807:=by have:=HL3.out;unfold maxLen at this;omega
  have rD:KpT n₀ W W3:=gF.trans (KpT.of_below bH dY);have pZ:=hJ _ _ _ jK dY;have HLs:Hid (∀V,KpT n₀ W3 V->Las (·< n₀) V t.ps a3 n3 c3):=λV h=>iD.below h.1 λb hb _=>hb;have fR:n₀<=W3.heap.size:=Nat.le_trans bH dY.size;have HN:Hid (pre.length+t.size<=N):=hN;have HI:=hid ih;clear iD jK gY gF ht2 c1 c2 dY ih hN hY hy hR eU lE kP ht
  gi_loopw [14] (λi wr=>∃(k:Nat) (xs:List Tr),i=.int .i64 (k:Int)/\k<=n3/\xs.map Tr.t=t::(t.ps.take k).flatMap Tm.flat/\J (pre++xs) wr/\KpT n₀ W3 wr) (λi _=>n3-(intOf i).toNat)
  case atStart=>exact⟨0,[⟨t,a,n,c⟩],rfl,by omega,by simp,pZ,KpT.refl _ _⟩
  case round =>
   obtain⟨k,xs,rfl,hk,eV,pA,yK⟩:=hrel;have HX:=hid eV;clear eV;have jL:n₀<=wr.heap.size:=Nat.le_trans fR yK.1.size;by_cases kA:k<n3
   ·obtain⟨b,off,s,a',n',c',rfl,hU,sK,hs,hT,e1,e2⟩:=(HLs.out wr yK).at kA;have HS:=hid hs;clear hs;have eT:Below wr.heap.size wr (wr.alloc (.cells #[.int .i64 s.f,.slice a' n' c'] 41)):=bA (bW _) _;have HC:Hid (CallsIn Fence.wide (d-1) Tryz.prog 107 #[.agg #[.int .i64 s.f,.slice a' n' c'],.func (.yield l) #[] #[]] (wr.alloc (.cells #[.int .i64 s.f,.slice a' n' c'] 41)) λe W'=>e=.returned (.bool true)/\∃ys:List Tr,ys.map Tr.t=s.flat/\J ((pre++xs)++ys) W'/\KpT n₀ (wr.alloc (.cells #[.int .i64 s.f,.slice a' n' c'] 41)) W'):=by
     refine HI.out s (mem_of_getElem? HS.out) (d-1) a' n' c' (pre++xs) _ (hT.bw eT) (by simp;omega) (hJ _ _ _ pA eT) ?_;have h1:=congrArg List.length HX.out;simp only[length_map,length_cons]at h1;rw[length_append,h1];have h2:=t.size_eq;have h3:(t.ps.flatMap Tm.flat).length=((t.ps.take k).flatMap Tm.flat).length+(s.flat.length+((t.ps.drop (k+1)).flatMap Tm.flat).length):=by conv=>lhs;rw[<-List.take_append_drop k t.ps,Q4 HS.out,List.flatMap_append,flatMap_cons,length_append,length_append]
     have h4:=HN.out;unfold Tm.size at *;omega
    have HK5:Hid (∀V,KpT n₀ (wr.alloc (.cells #[.int .i64 s.f,.slice a' n' c'] 41)) V->KpT n₀ W3 V):=λV h=>(yK.trans (KpT.of_below jL eT)).trans h
    gi_wp2_with (refine⟨trivial,rC _,?_⟩;gi_at_call 107;refine HC.out.mono ?_;rintro e W4 ⟨rfl,ys,fS,hJ4,oW⟩)
    go_roundw
    case rel =>
     refine⟨k+1,xs++ys,by go_num,by omega,?_,by rw[<-List.append_assoc];exact hJ4,HK5.out _ oW⟩;rw[map_append,HX.out,fS,take_add_one,HS.out,List.flatMap_append];simp
    case measure=>simp[intOf];omega
   ·gi_wp2
    go_ret
    refine⟨rfl,xs,?_,pA,rD.trans yK⟩;rw[HX.out,t.flat_eq,List.take_of_length_le (by have:=HL3.out;omega)]
section
variable{α:Type}{P:Program}
def a7l(B:Nat)(Kp:World->World->Prop)(I:World->Prop)(W:World):Exit->Act->World->Prop
 | .normal,_,W'=>KeepsFrom B W W'/\Kp W W'/\I W'
 | _,_,_=>False
theorem b0a{g:Operand}{ps:Array Tmp}{assign body:Code}{Q:Exit->Act->World->Prop}{a:Act}{w:World}{gf:Nat}{lb:Array Value}
  (hg:a.eval g=.func (.func gf) #[] lb) (eg:∀args w,(callFunc gf args).run P w=.ok (.enter gf args) w)
  {encs:α->Array Value} {Ok:List α->α->World->Prop} {Kp:World->World->Prop} {S:List α->Prop} (nL:a3u P gf lb encs Ok Kp S w)
  (qA:∀{A B C:World},Kp A B->Kp B C->Kp A C)
  (qB:∀(W:World) (l:Nat) (o o':Obj),w.heap.size<=l->W.heap[l]?=some o->o.isCells=false->Kp W (W.putObj l o'))
  (hOk:∀(pre:List α) (x:α) (W:World) (l:Nat) (o o':Obj),w.heap.size<=l->Ok pre x W->W.heap[l]?=some o->o.isCells=false->Ok pre x (W.putObj l o'))
  (gR:∀x,(encs x).size=ps.size) (I:List α->World->Prop) (hI:∀pre A B,I pre A->Below A.heap.size A B->I pre B)
  (lF:∀(pre:List α) (A:World) (l:Nat) (o o':Obj),I pre A->w.heap.size<=l->A.heap[l]?=some o->o.isCells=false->I pre (A.putObj l o'))
  (h0:I [] w) (a₁:α->Act)
  (cC:∀(l:Nat) (x:α) (W:World) (K:Act->World->Prop),K (a₁ x) W ->
   assign.wpIn (Fence.wide.inRound l) 1 P (Exit.then K (λ_ _ _=>False)) { tmps:=(ps.zip (encs x)).foldl (λt (p,v)=>t.setIfInBounds p v) a.tmps,defers:=[] } W)
  (fD:∀(l:Nat) (pre:List α) (x:α) (W:World),I pre W->Ok pre x W->body.wpIn (Fence.wide.inRound l) 1 P (a7l w.heap.size Kp (I (pre++[x])) W) (a₁ x) W)
  (dL:∀(D:Nat) (xs:List α) (W:World),w.heap.size<=D->S xs->I xs W->W.heap[D]?=some (.deferred (some []))->Q .normal { a with defers:={ target:=.collected D,args := #[] }::a.defers } W) :
  (Code.rangeFunc g ps assign body).wpIn Fence.wide 3 P Q a w:=by
 refine wpIn_rangeFunc λfn dQ=>?_
 have hD:∃D,D=w.heap.size:=⟨_,rfl⟩
 obtain⟨D,hD⟩:=hD;obtain⟨W1,gZ⟩:∃W1,W1=(w.alloc (.deferred (some []))).alloc (.loop (p9 fn a.tmps ps assign body D .ready)):=⟨_,rfl⟩
 have below1:Below w.heap.size w W1:=by rw[gZ];exact((Below.refl _ w).alloc (Nat.le_refl _) _).alloc (by simp) _
 have atL:W1.heap[D+1]?=some (.loop (p9 fn a.tmps ps assign body D .ready)):=by have:=World.alloc_heap_new (w.alloc (.deferred (some []))) (.loop (p9 fn a.tmps ps assign body D .ready));rw[World.size_alloc,<-hD,<-gZ]at this;exact this
 have atD:W1.heap[D]?=some (.deferred (some [])):=by have h:=World.alloc_heap_new w (.deferred (some []));rw[<-hD]at h;rw[gZ,Below.heap_alloc _ _ _ (by simp;omega)];exact h
 refine⟨D+1,[{ target:=.collected D,args := #[] }],W1,{ target:=.fn (.func gf) lb,args := #[.func (.yield (D+1)) #[] #[]] },W1,gf,#[.func (.yield (D+1)) #[] #[]]++lb,W1,?_,?_,λ_ _=>trivial,?_,(λ_=>by omega),?_⟩
 ·rw[gZ,hD];exact run_enterLoop_outer _ _ _ _ _
 ·simp only[resolve,hg];simp[go_sem]
 ·simp[invoke,go_sem,eg]
 refine(nL (D+1) (λpre V=>I pre V/\V.heap[D+1]?=some (.loop (p9 fn a.tmps ps assign body D .ready))/\V.heap[D]?=some (.deferred (some []))) W1 below1 ?abides ?rounds ⟨hI _ _ _ h0 below1,atL,atD⟩).mono ?after
 case abides =>
  rintro pre A B ⟨h1,h2,h3⟩ hb;exact⟨hI _ _ _ h1 hb,(hb.block _ (Array.getElem?_eq_some_iff.1 h2).1).trans h2,(hb.block _ (Array.getElem?_eq_some_iff.1 h3).1).trans h3⟩
 case rounds =>
  rintro pre x V ⟨h1,h2,h3⟩ hx;have kA:=(Array.getElem?_eq_some_iff.1 h2).1;have hy:=run_yield (P:=P) (args:=encs x) h2 (gR x);refine⟨fn,_,assign,body,hy,roundIn_of_wpIn dQ (cC _ x V _ ⟨_,run_beginRound h2 rfl,?_⟩)⟩;have nM:w.heap.size<=D+1:=by omega
  have b2:(V.putObj (D+1) (.loop (p9 fn a.tmps ps assign body D .busy))).heap[D+1]?=some (.loop (p9 fn a.tmps ps assign body D .busy)):=World.putObj_heap_same kA;have b3:(V.putObj (D+1) (.loop (p9 fn a.tmps ps assign body D .busy))).heap[D]?=some (.deferred (some [])):=(World.putObj_heap_other (by omega)).trans h3;refine wpIn_mono (fD _ pre x (V.putObj (D+1) (.loop (p9 fn a.tmps ps assign body D .busy))) (lF _ _ _ _ _ h1 nM h2 rfl) (hOk _ _ _ _ _ _ nM hx h2 rfl)) ?_;rintro e a3 U hp;cases e with
  | normal =>
   obtain⟨k1,k2,k3⟩:=hp;have u2:=k1.same _ _ (by omega) b2 rfl;have u3:=k1.same _ _ (by omega) b3 rfl;have hr:=run_endRound (P:=P) none u2;refine⟨_,_,hr,rfl,⟨lF _ _ _ _ _ k3 nM u2 rfl,World.putObj_heap_same (Array.getElem?_eq_some_iff.1 u2).1,(World.putObj_heap_other (by omega)).trans u3⟩,?_⟩;exact qA (qA (qB _ _ _ _ nM h2 rfl) k2) (qB _ _ _ _ nM u2 rfl)
  | ret=>exact hp.elim
  | exit _=>exact hp.elim
  | goto _=>exact hp.elim
  | panic _=>exact hp.elim
  | outgrown=>exact hp.elim
 case after =>
  rintro e V ⟨⟨v,rfl⟩,xs,hS,h1,h2,h3⟩;exact⟨none,_,run_endLoop (P:=P) h2 (by simp[p9]),dL D xs _ (by omega) hS (lF _ _ _ _ _ h1 (by omega) h2 rfl) ((World.putObj_heap_other (by omega)).trans h3)⟩
theorem Z2{g:Operand}{ps:Array Tmp}{assign body:Code}{Q:Exit->Act->World->Prop}{a:Act}{w:World}{gf:Nat}{lb:Array Value}
  (hg:a.eval g=.func (.func gf) #[] lb) (eg:∀args w,(callFunc gf args).run P w=.ok (.enter gf args) w)
  {encs:α->Array Value} {Ok:List α->α->World->Prop} {Kp:World->World->Prop} {S:List α->Prop} (nL:a3u P gf lb encs Ok Kp S w)
  (qA:∀{A B C:World},Kp A B->Kp B C->Kp A C)
  (qB:∀(W:World) (l:Nat) (o o':Obj),w.heap.size<=l->W.heap[l]?=some o->o.isCells=false->Kp W (W.putObj l o'))
  (hOk:∀(pre:List α) (x:α) (W:World) (l:Nat) (o o':Obj),w.heap.size<=l->Ok pre x W->W.heap[l]?=some o->o.isCells=false->Ok pre x (W.putObj l o'))
  (gR:∀x,(encs x).size=ps.size) (I:List α->World->Prop) (hI:∀pre A B,I pre A->Below A.heap.size A B->I pre B)
  (lF:∀(pre:List α) (A:World) (l:Nat) (o o':Obj),I pre A->w.heap.size<=l->A.heap[l]?=some o->o.isCells=false->I pre (A.putObj l o'))
  (h0:I [] w) (a₁:α->Nat->Act) (ob:α->Obj) (hKa:∀(V:World) (x:α),w.heap.size<=V.heap.size->Kp V (V.alloc (ob x))) (hOka:∀(pre:List α) (x:α) (V:World),Ok pre x V->Ok pre x (V.alloc (ob x)))
  (cC:∀(l:Nat) (x:α) (W:World) (K:Act->World->Prop),K (a₁ x W.heap.size) (W.alloc (ob x)) ->
   assign.wpIn (Fence.wide.inRound l) 1 P (Exit.then K (λ_ _ _=>False)) { tmps:=(ps.zip (encs x)).foldl (λt (p,v)=>t.setIfInBounds p v) a.tmps,defers:=[] } W)
  (fD:∀(l:Nat) (pre:List α) (x:α) (W:World) (b:Nat),w.heap.size<=b->W.heap[b]?=some (ob x)->I pre W->Ok pre x W->body.wpIn (Fence.wide.inRound l) 1 P (a7l w.heap.size Kp (I (pre++[x])) W) (a₁ x b) W)
  (dL:∀(D:Nat) (xs:List α) (W:World),w.heap.size<=D->S xs->I xs W->W.heap[D]?=some (.deferred (some []))->Q .normal { a with defers:={ target:=.collected D,args := #[] }::a.defers } W) :
  (Code.rangeFunc g ps assign body).wpIn Fence.wide 3 P Q a w:=by
 refine wpIn_rangeFunc λfn dQ=>?_
 have hD:∃D,D=w.heap.size:=⟨_,rfl⟩
 obtain⟨D,hD⟩:=hD;obtain⟨W1,gZ⟩:∃W1,W1=(w.alloc (.deferred (some []))).alloc (.loop (p9 fn a.tmps ps assign body D .ready)):=⟨_,rfl⟩
 have below1:Below w.heap.size w W1:=by rw[gZ];exact((Below.refl _ w).alloc (Nat.le_refl _) _).alloc (by simp) _
 have atL:W1.heap[D+1]?=some (.loop (p9 fn a.tmps ps assign body D .ready)):=by have:=World.alloc_heap_new (w.alloc (.deferred (some []))) (.loop (p9 fn a.tmps ps assign body D .ready));rw[World.size_alloc,<-hD,<-gZ]at this;exact this
 have atD:W1.heap[D]?=some (.deferred (some [])):=by have h:=World.alloc_heap_new w (.deferred (some []));rw[<-hD]at h;rw[gZ,Below.heap_alloc _ _ _ (by simp;omega)];exact h
 refine⟨D+1,[{ target:=.collected D,args := #[] }],W1,{ target:=.fn (.func gf) lb,args := #[.func (.yield (D+1)) #[] #[]] },W1,gf,#[.func (.yield (D+1)) #[] #[]]++lb,W1,?_,?_,λ_ _=>trivial,?_,(λ_=>by omega),?_⟩
 ·rw[gZ,hD];exact run_enterLoop_outer _ _ _ _ _
 ·simp only[resolve,hg];simp[go_sem]
 ·simp[invoke,go_sem,eg]
 refine(nL (D+1) (λpre V=>I pre V/\V.heap[D+1]?=some (.loop (p9 fn a.tmps ps assign body D .ready))/\V.heap[D]?=some (.deferred (some []))) W1 below1 ?abides ?rounds ⟨hI _ _ _ h0 below1,atL,atD⟩).mono ?after
 case abides =>
  rintro pre A B ⟨h1,h2,h3⟩ hb;exact⟨hI _ _ _ h1 hb,(hb.block _ (Array.getElem?_eq_some_iff.1 h2).1).trans h2,(hb.block _ (Array.getElem?_eq_some_iff.1 h3).1).trans h3⟩
 case rounds =>
  rintro pre x V0 ⟨g1,g2,g3⟩ gx;have iL:=(Array.getElem?_eq_some_iff.1 g2).1;have nN:=(Array.getElem?_eq_some_iff.1 g3).1;have hy:=run_yield (P:=P) (args:=encs x) g2 (gR x);obtain⟨V,hV⟩:∃V,V=V0.alloc (ob x):=⟨_,rfl⟩
  have bV:Below V0.heap.size V0 V:=by rw[hV];exact(Below.refl _ V0).alloc (Nat.le_refl _) _
  have h1:I pre V:=hI _ _ _ g1 bV;have h2:V.heap[D+1]?=some (.loop (p9 fn a.tmps ps assign body D .ready)):=(bV.block _ iL).trans g2;have h3:V.heap[D]?=some (.deferred (some [])):=(bV.block _ nN).trans g3;have hx:Ok pre x V:=by rw[hV];exact hOka _ _ _ gx
  have pB:Kp V0 V:=by rw[hV];exact hKa _ _ (by omega)
  have eU:V.heap[V0.heap.size]?=some (ob x):=by rw[hV];exact World.alloc_heap_new _ _
  have kA:=(Array.getElem?_eq_some_iff.1 h2).1;refine⟨fn,_,assign,body,hy,roundIn_of_wpIn dQ (cC _ x V0 _ ?_)⟩;rw[<-hV];refine⟨_,run_beginRound h2 rfl,?_⟩;have nM:w.heap.size<=D+1:=by omega
  have b2:(V.putObj (D+1) (.loop (p9 fn a.tmps ps assign body D .busy))).heap[D+1]?=some (.loop (p9 fn a.tmps ps assign body D .busy)):=World.putObj_heap_same kA;have b3:(V.putObj (D+1) (.loop (p9 fn a.tmps ps assign body D .busy))).heap[D]?=some (.deferred (some [])):=(World.putObj_heap_other (by omega)).trans h3;have b4:(V.putObj (D+1) (.loop (p9 fn a.tmps ps assign body D .busy))).heap[V0.heap.size]?=some (ob x):=(World.putObj_heap_other (by omega)).trans eU;refine wpIn_mono (fD _ pre x (V.putObj (D+1) (.loop (p9 fn a.tmps ps assign body D .busy))) V0.heap.size (by omega) b4 (lF _ _ _ _ _ h1 nM h2 rfl) (hOk _ _ _ _ _ _ nM hx h2 rfl)) ?_;rintro e a3 U hp;cases e with
  | normal =>
   obtain⟨k1,k2,k3⟩:=hp;have u2:=k1.same _ _ (by omega) b2 rfl;have u3:=k1.same _ _ (by omega) b3 rfl;have hr:=run_endRound (P:=P) none u2;refine⟨_,_,hr,rfl,⟨lF _ _ _ _ _ k3 nM u2 rfl,World.putObj_heap_same (Array.getElem?_eq_some_iff.1 u2).1,(World.putObj_heap_other (by omega)).trans u3⟩,?_⟩;exact qA pB (qA (qA (qB _ _ _ _ nM h2 rfl) k2) (qB _ _ _ _ nM u2 rfl))
  | ret=>exact hp.elim
  | exit _=>exact hp.elim
  | goto _=>exact hp.elim
  | panic _=>exact hp.elim
  | outgrown=>exact hp.elim
 case after =>
  rintro e V ⟨⟨v,rfl⟩,xs,hS,h1,h2,h3⟩;exact⟨none,_,run_endLoop (P:=P) h2 (by simp[p9]),dL D xs _ (by omega) hS (lF _ _ _ _ _ h1 (by omega) h2 rfl) ((World.putObj_heap_other (by omega)).trans h3)⟩
end
theorem a2w{n₀ Bb:Nat}{t:Tm}{a:Option Addr}{n c:Nat}{w:World}(hn:n₀<=w.heap.size)(eU:w.heap[Bb]?=some (.cells #[.int .i64 t.f,.slice a n c] 41 (0,0)))(ht:Tat (·< n₀) w t a n c) :
  a3u Tryz.prog 106 #[.pointer (some ⟨Bb,0,none⟩)] (λx:Tr => #[x.v]) (λpre x V=>x.ok n₀ V/\pre.length<t.size) (KpT n₀) (λxs=>xs.map Tr.t=t.flat) w:=by
 intro l J W hW hJ hY h0;have rC:∀k:Nat,(Fence.wide.depth.isSome=true->1<=k):=λk h=>by cases h
 have hb:W.heap[Bb]?=some (.cells #[.int .i64 t.f,.slice a n c] 41 (0,0)):=(hW.block Bb (Array.getElem?_eq_some_iff.1 eU).1).trans eU;obtain⟨c1,c2⟩:=I6 hb;have hwk:=c1u l n₀ t.size J hJ (λm pre x V hj hx=>b0e m (hY pre x V hj hx)) t 1 a n c [] W (ht.bw hW) (Nat.le_trans hn hW.size) h0 (by simp);refine callsIn_of_wp Tryz.func106 rfl trivial ?_ rfl;simp only[Tryz.ntmps106,size_toArray,length_cons,length_nil,Nat.reduceAdd,Nat.reduceSub,Array.replicate_succ,Array.replicate_zero,push_toArray,append_toArray,nil_append,cons_append]
 gi_wp2_with (refine⟨trivial,?_⟩;gi_at_call 107;refine hwk.mono ?_;rintro e W1 ⟨rfl,xs,eV,hJ1,fC⟩)
 go_end0
 exact⟨⟨_,rfl⟩,xs,eV,by simpa using hJ1⟩
theorem b3g(f:Int)(a:Option Addr)(n c:Nat)(w:World) :
  CallsIn Fence.wide 2 Tryz.prog 77 #[.agg #[.int .i64 f,.slice a n c]] w λe w'=>e=.returned (.func (.func 106) #[] #[.pointer (some ⟨w.heap.size,0,none⟩)])/\w'=w.alloc (.cells #[.int .i64 f,.slice a n c] 41):=by
 refine callsIn_of_wp Tryz.func77 rfl trivial ?_ rfl;simp only[Tryz.ntmps77,size_toArray,length_cons,length_nil,Nat.reduceAdd,Nat.reduceSub,Array.replicate_succ,Array.replicate_zero,push_toArray,append_toArray,nil_append,cons_append]
 gi_wp2
 go_ret
 exact⟨rfl,rfl⟩
attribute [local go_sem] Oper.semAt_some
theorem a8B{n₀ B:Nat}{W:World}{ty:TypeId}{v:Value}(h:Boxed W B ty v)(hty:ty≠41)(hn:n₀<=B)(u:Value):KpT n₀ W (W.setCell ⟨B,0,none⟩ u):=by
 refine⟨(Below.refl n₀ W).setCell (p:=⟨B,0,none⟩) hn _,λg cs fl e=>?_⟩;rw[Below.heap_setCell _ _ _ g (λe'=>?_)]
 ·exact e
 ·simp only at e';subst e';rw[show W.heap[g]?=_ from h]at e;cases e;exact hty rfl
theorem F2{n₀ l:Nat}{W:World}{o:Obj}(o':Obj)(hn:n₀<=l)(h:W.heap[l]?=some o)(ho:o.isCells=false):KpT n₀ W (W.putObj l o'):=by
 refine⟨⟨rfl,rfl,rfl,by simp[World.putObj],λq hq=>World.putObj_heap_other (by omega)⟩,λg cs fl e=>?_⟩;rw[World.putObj_heap_other]
 ·exact e
 ·rintro rfl;rw[h]at e;cases e;cases ho
def IntI(w:World)(B:Nat)(v:Value)(W:World):Prop:=Boxed W B 3 v/\Below w.heap.size w W
theorem IntI.abides{w A B:World}{b:Nat}{v:Value}(h:IntI w b v A)(hb:Below A.heap.size A B):IntI w b v B:=
 ⟨(hb.block b h.1.lt).trans h.1,h.2.trans (hb.mono h.2.size)⟩
theorem IntI.putObj{w A:World}{b:Nat}{v:Value}(h:IntI w b v A){l:Nat}{o:Obj}(o':Obj)(cT:w.heap.size<=l)(hl:A.heap[l]?=some o)(ho:o.isCells=false):IntI w b v (A.putObj l o'):=by
 refine⟨(World.putObj_heap_other ?_).trans h.1,h.2.trans (F2 o' cT hl ho).1⟩;rintro rfl;rw[show A.heap[_]?=_ from h.1]at hl;cases hl;cases ho
theorem IntI.set{w W:World}{B b:Nat}{v:Value}(h:IntI w b v W)(hb:w.heap.size<=b)(u:Value):KeepsFrom B W (W.setCell ⟨b,0,none⟩ u)/\KpT w.heap.size W (W.setCell ⟨b,0,none⟩ u)/\IntI w b u (W.setCell ⟨b,0,none⟩ u):=
 ⟨(KeepsOthers.setCell _ _ _).from _,a8B h.1 (by decide) hb u,h.1.set u,h.2.trans (a8B h.1 (by decide) hb u).1⟩
theorem Tr.ok.kept{n₀:Nat}{x:Tr}{V V':World}(h:x.ok n₀ V)(hb:Below n₀ V V'):x.ok n₀ V':=h.below hb λb h _=>h
set_option maxRecDepth 100000 in
set_option maxHeartbeats 2000000 in
theorem c1h{U:Nat->Prop}(t:Tm)(a:Option Addr)(n c:Nat)(w:World)(h:Tat U w t a n c)(hm:t.size<=4611686018427387904) :
  CallsIn Fence.wide 3 Tryz.prog 52 #[.agg #[.int .i64 t.f,.slice a n c]] w λe W'=>e=.returned (.int .i64 (t.size:Int))/\Below w.heap.size w W':=by
 refine callsIn_of_wp_marks Tryz.func52 rfl trivial ?_ rfl;simp only[Tryz.ntmps52,size_toArray,length_cons,length_nil,Nat.reduceAdd,Nat.reduceSub,Array.replicate_succ,Array.replicate_zero,push_toArray,append_toArray,nil_append,cons_append]
 gi_wp2_with (refine⟨trivial,?_⟩;gi_at_call 77;refine(b3g _ _ _ _ _).mono ?_;rintro e w' ⟨rfl,rfl⟩)
 obtain⟨wl,cT⟩:∃wl,wl=((w.alloc (.cells #[.int .i64 t.f,.slice a n c] 41)).alloc (.cells #[.int .i64 0] 3)).alloc (.cells #[.int .i64 t.f,.slice a n c] 41):=⟨_,rfl⟩
 have jD:Below w.heap.size w wl:=by rw[cT];exact bA (bA (bA (bW _) _) _) _
 have kC:wl.heap.size=w.heap.size+3:=by rw[cT];simp
 have eU:wl.heap[w.heap.size+1+1]?=some (.cells #[.int .i64 t.f,.slice a n c] 41 (0,0)):=by rw[cT];have:=World.alloc_heap_new ((w.alloc (.cells #[.int .i64 t.f,.slice a n c] 41)).alloc (.cells #[.int .i64 0] 3)) (.cells #[.int .i64 t.f,.slice a n c] 41);rw[World.size_alloc,World.size_alloc]at this;exact this
 have pD:IntI w (w.heap.size+1) (.int .i64 (([]:List Tr).length:Int)) wl:=by refine⟨?_,jD⟩;rw[cT];have bO:=Boxed.new (w.alloc (.cells #[.int .i64 t.f,.slice a n c] 41)) 3 (.int .i64 0);rw[World.size_alloc]at bO;exact bO.alloc _
 have ht:Tat (·< w.heap.size) wl t a n c:=(h.mono (V:=(·< w.heap.size)) λb _ hb=>hb).below jD λb hb _=>hb;rw[<-cT];clear cT h;refine b0a (gf:=106) (lb := #[.pointer (some ⟨w.heap.size+1+1,0,none⟩)]) rfl (enters_of Tryz.func106 (by kernel_rfl) rfl)
  (a2w (n₀:=w.heap.size) (by omega) eU ht) (λh k=>h.trans k) (λW l o o' hl h ho=>F2 o' (by omega) h ho) (λpre x W l o o' hl hx h ho=>⟨hx.1.kept (F2 o' (by omega) h ho).1,hx.2⟩) (λ_=>rfl)
  (λpre W=>IntI w (w.heap.size+1) (.int .i64 (pre.length:Int)) W) (λpre A B h hb=>h.abides hb) (λpre A l o o' h hl h1 h2=>h.putObj o' (by omega) h1 h2) pD
  (λx=>{ tmps := #[.agg #[.int .i64 t.f,.slice a n c],.pointer (some ⟨w.heap.size,0,none⟩),.int .i64 0,.pointer (some ⟨w.heap.size+1,0,none⟩),.agg #[.int .i64 t.f,.slice a n c],.func (.func 106) #[] #[.pointer (some ⟨w.heap.size+1+1,0,none⟩)],x.v,undef,undef,undef],defers:=[] }) ?assign ?body ?done
 case assign =>
  intro l x W K hK
  gi_wp2
  have hz:(#[6]:Array Tmp).zip #[x.v] = #[(6,x.v)]:=by simp
  rw[hz];exact hK
 case body =>
  rintro l pre x W hI ⟨hx,kA⟩;have hc:=hI.1.cell;have hf:=hI.1.frozen;have yI:pre.length<4611686018427387904:=by omega
  gi_wp2
  have:=hI.set (B:=wl.heap.size) (by omega) (.int .i64 ((pre.length:Int)+1));rw[length_append];exact this
 case done =>
  rintro D xs W hD hS hI hK;have hc:=hI.1.cell
  gi_wp2
  refine⟨by simp,.inl ⟨_,_,rfl,run_takeDeferred hK,?_⟩⟩;refine⟨_,results_tmp rfl _ _ _,?_,?_⟩
  ·have h1:=congrArg List.length hS;rw[length_map]at h1;rw[show t.size=xs.length from h1.symm];rfl
  ·exact hI.2.trans (F2 _ (by omega) hK rfl).1
theorem b7w{U:Nat->Prop}{t:Tm}{a:Option Addr}{n c:Nat}{w:World}(h:Tat U w t a n c)(hm:t.size<=4611686018427387904) :
  Calls Tryz.prog 52 #[.agg #[.int .i64 t.f,.slice a n c]] w λe W'=>e=.returned (.int .i64 (t.size:Int))/\Below w.heap.size w W':=
 callsIn_wide.1 (c1h t a n c w h hm)
def Tr.ob(x:Tr):Obj:=.cells #[.int .i64 x.t.f,.slice x.a x.n x.c] 41 (0,0)
theorem a7D{A:World}{b:Nat}{ty:TypeId}{v:Value}(h:Boxed A b ty v){l:Nat}{o:Obj}(o':Obj)(hl:A.heap[l]?=some o)(ho:o.isCells=false):Boxed (A.putObj l o') b ty v:=by
 refine(World.putObj_heap_other ?_).trans h;rintro rfl;rw[show A.heap[_]?=_ from h]at hl;cases hl;cases ho
theorem B4{W W':World}(h:Below W.heap.size W W')(B:Nat):KeepsFrom B W W':=⟨h.size,λk o _ hk _=>(h.block k (Array.getElem?_eq_some_iff.1 hk).1).trans hk⟩
def X5(l:List Tm):Int:=l.foldl (λm s=>if s.f<0 then max m (-1-s.f)else m) (-1)
theorem b5b(l:List Tm)(s:Tm):X5 (l++[s])=if s.f<0 then max (X5 l) (-1-s.f)else X5 l:=by simp[X5]
set_option maxRecDepth 100000 in
set_option maxHeartbeats 2000000 in
theorem c3C{U:Nat->Prop}(t:Tm)(a:Option Addr)(n c:Nat)(w:World)(h:Tat U w t a n c) :
  CallsIn Fence.wide 3 Tryz.prog 88 #[.agg #[.int .i64 t.f,.slice a n c]] w λe W'=>e=.returned (.int .i64 (X5 t.flat))/\Below w.heap.size w W':=by
 refine callsIn_of_wp_marks Tryz.func88 rfl trivial ?_ rfl;simp only[Tryz.ntmps88,size_toArray,length_cons,length_nil,Nat.reduceAdd,Nat.reduceSub,Array.replicate_succ,Array.replicate_zero,push_toArray,append_toArray,nil_append,cons_append]
 gi_wp2_with (refine⟨trivial,?_⟩;gi_at_call 77;refine(b3g _ _ _ _ _).mono ?_;rintro e w' ⟨rfl,rfl⟩)
 obtain⟨w1,dC⟩:∃w1,w1=w.alloc (.cells #[.int .i64 t.f,.slice a n c] 41):=⟨_,rfl⟩
 obtain⟨w3,nO⟩:∃w3,w3=w1.alloc (.cells #[.int .i64 (-1)] 3):=⟨_,rfl⟩
 obtain⟨wl,cT⟩:∃wl,wl=w3.alloc (.cells #[.int .i64 t.f,.slice a n c] 41):=⟨_,rfl⟩
 have s1:w1.heap.size=w.heap.size+1:=by rw[dC];simp
 have s3:w3.heap.size=w.heap.size+2:=by rw[nO];simp;omega
 have kC:wl.heap.size=w.heap.size+3:=by rw[cT];simp;omega
 have jD:Below w.heap.size w wl:=by rw[cT,nO,dC];exact bA (bA (bA (bW _) _) _) _
 have eU:wl.heap[w.heap.size+1+1]?=some (.cells #[.int .i64 t.f,.slice a n c] 41 (0,0)):=by have:=World.alloc_heap_new w3 (.cells #[.int .i64 t.f,.slice a n c] 41);rw[s3,<-cT]at this;exact this
 have pD:IntI w (w.heap.size+1) (.int .i64 (X5 (([]:List Tr).map Tr.t))) wl:=by have b2:=Boxed.new w1 3 (.int .i64 (-1));rw[s1,<-nO]at b2;have b3:=b2.alloc (.cells #[.int .i64 t.f,.slice a n c] 41);rw[<-cT]at b3;exact⟨b3,jD⟩
 have ht:Tat (·< w.heap.size) wl t a n c:=(h.mono (V:=(·< w.heap.size)) λb _ hb=>hb).below jD λb hb _=>hb;rw[<-dC,<-nO,<-cT];clear cT h dC nO s1 s3;refine Z2 (gf:=106) (lb := #[.pointer (some ⟨w.heap.size+1+1,0,none⟩)]) rfl (enters_of Tryz.func106 (by kernel_rfl) rfl)
  (a2w (n₀:=w.heap.size) (by omega) eU ht) (λh k=>h.trans k) (λW l o o' hl h ho=>F2 o' (by omega) h ho) (λpre x W l o o' hl hx h ho=>⟨hx.1.kept (F2 o' (by omega) h ho).1,hx.2⟩) (λ_=>rfl)
  (λpre W=>IntI w (w.heap.size+1) (.int .i64 (X5 (pre.map Tr.t))) W) (λpre A B h hb=>h.abides hb) (λpre A l o o' h hl h1 h2=>h.putObj o' (by omega) h1 h2) pD
  (λx b=>{ tmps := #[.agg #[.int .i64 t.f,.slice a n c],.pointer (some ⟨w.heap.size,0,none⟩),.int .i64 0,.pointer (some ⟨w.heap.size+1,0,none⟩),.pointer (some ⟨b,0,none⟩),.agg #[.int .i64 t.f,.slice a n c],.func (.func 106) #[] #[.pointer (some ⟨w.heap.size+1+1,0,none⟩)],x.v,undef,undef,undef,undef,undef,undef,undef],defers:=[] })
  Tr.ob (λV x hV=>KpT.of_below (by omega) (bA (bW _) _)) (λpre x V hx=>⟨hx.1.bw (bA (bW _) _),hx.2⟩) ?assign ?body ?done
 case assign =>
  intro l x W K hK;obtain⟨xt,xa,xn,xc⟩:=x;simp only[Tr.v,Tr.ob]at hK |-
  gi_wp2
  exact hK
 case body =>
  rintro l pre x W b hb cI hI ⟨hx,kA⟩;have fE:=hx.wf;have jE:=(Array.getElem?_eq_some_iff.1 cI).1;obtain⟨xt,xa,xn,xc⟩:=x;simp only[Tr.v,Tr.ob]at *;have HS:=hid (b5b (pre.map Tr.t) xt);obtain⟨m,hm⟩:∃m,m=X5 (pre.map Tr.t):=⟨_,rfl⟩
  rw[<-hm]at hI HS;clear hm;obtain⟨e1,e2⟩:=I6 cI;by_cases hq:xt.f<0
  ·have HS2:Hid (X5 (List.map Tr.t pre++[xt])=max m (-1-xt.f)):=by show _=_;rw[HS.out,if_pos hq]
   gi_wp2_with (first
    | (refine⟨trivial,?_⟩;gi_at_call 103;refine(CallsIn.inRound l (callsIn_wide.2 (E4 _ _ _ _ _))).mono ?_;rintro e W1 ⟨rfl,kP⟩;clear e1 e2;obtain⟨e1,e2⟩:=I6 ((kP.block b jE).trans cI);have iE:=hI.abides kP;have hc:=iE.1.cell;have hf:=iE.1.frozen))
   have hbl1:b<W1.heap.size:=Nat.lt_of_lt_of_le jE kP.size;have hbx1:=(kP.block b jE).trans cI;have hmx:Tryz.prog.follows .mixedOrders=true:=by kernel_rfl
   have fC:=KpT.of_below hI.2.size kP;have HK1:=hid kP;have hsI:w.heap.size<=W1.heap.size:=iE.2.size;clear jE cI kP hI hb
   gi_region_with_o (refine⟨trivial,?_⟩;gi_at_call 104;refine(CallsIn.inRound l (callsIn_wide.2 (U9 _ _ _ _ _ fE.1 hq))).mono ?_;rintro e W2 ⟨rfl,hb2'⟩;have gL:Below W1.heap.size W1 W2:=bN (bD (bW _)) hb2';have cD:=iE.abides gL;have gV:=cD.1.cell;have pY:=cD.1.frozen;obtain⟨e3,e4⟩:=I6 ((gL.block b hbl1).trans hbx1))
   all_goals gi_wp2
   all_goals refine⟨(B4 (bN HK1.out gL) _).trans ((KeepsOthers.setCell _ _ _).from _),(fC.trans (KpT.of_below hsI gL)).trans (a8B cD.1 (by decide) (by omega) _),?_⟩
   all_goals rw[HS2.out]
   all_goals first
    | (rw[Int.max_eq_right (by omega)];exact(cD.set (B:=0) (by omega) _).2.2)
    | (rw[Int.max_eq_left (by omega)];exact(cD.set (B:=0) (by omega) _).2.2)
  ·have HS2:Hid (X5 (List.map Tr.t pre++[xt])=m):=by show _=_;rw[HS.out,if_neg hq]
   gi_wp2_with (refine⟨trivial,?_⟩;gi_at_call 103;refine(CallsIn.inRound l (callsIn_wide.2 (E4 _ _ _ _ _))).mono ?_;rintro e W1 ⟨rfl,kP⟩)
   refine⟨B4 kP _,KpT.of_below hI.2.size kP,?_⟩;rw[show List.map Tr.t (pre++[⟨xt,xa,xn,xc⟩])=List.map Tr.t pre++[xt] by simp,HS2.out];exact hI.abides kP
 case done =>
  rintro D xs W hD hS hI hK;have hc:=hI.1.cell
  gi_wp2
  refine⟨by simp,.inl ⟨_,_,rfl,run_takeDeferred hK,?_⟩⟩;refine⟨_,results_tmp rfl _ _ _,?_,?_⟩
  ·rw[<-hS];rfl
  ·exact hI.2.trans (F2 _ (by omega) hK rfl).1
theorem c1N{U:Nat->Prop}{t:Tm}{a:Option Addr}{n c:Nat}{w:World}(h:Tat U w t a n c) :
  Calls Tryz.prog 88 #[.agg #[.int .i64 t.f,.slice a n c]] w λe W'=>e=.returned (.int .i64 (X5 t.flat))/\Below w.heap.size w W':=
 callsIn_wide.1 (c3C t a n c w h)
end
theorem b2R{P:Program}(w:World)(t ty e:TypeId)(z:Value)(size bytes:Nat)(ht:P.underlying t=some (.slice e))(hi:(P.info? e).map (λi=>(i.zero,i.size,i.bytes))=some (some z,size,bytes))(bP:z.cells.size=size)(kC:0<size)
  (v:Value) (n:Nat) (xs:List Value) (kU:w.ownsRow 0 e size v n xs) (ad:Addr) (m c:Nat) (ys:List Value) (hb:Cs w (some ad) ys) (hl:ys.length=m*size) (h1:∀u∈ys,u.oneCell'=true) (oV:n+m<=maxLen) (bB:(n+m)*bytes<=140737488355328) :
  ∃v' w',Sem.run P (Builtin.append_ #[t,t] ty #[v,.slice (some ad) m c]) w=.ok v' w'/\w'.ownsRow 0 e size v' (n+m) (xs++ys)/\w.grownBy w' v.ownBlock/\(v'.ownBlock=v.ownBlock\/∀g,v'.ownBlock=some g->w.heap.size<=g):=by
 obtain⟨i,bF,bZ,cA,eN⟩:=info_parts hi;have bX:∀j u,ys[j]?=some u->w.cell? (ad.add j)=some u:=by
  intro j u hj;have gI:j<ys.length:=by
   rcases Nat.lt_or_ge j ys.length with h | h
   ·exact h
   ·rw[List.getElem?_eq_none h]at hj;cases hj
  rcases hb with rfl | ⟨b,off,ha,kA,hc⟩
  ·simp at gI
  ·cases ha;rw[show(⟨b,off,none⟩:Addr).add j=⟨b,off+j,none⟩ by simp[Addr.add],hc j gI,hj]
 rcases kU.2 with⟨rfl,rfl⟩ | ⟨g,cap,cur,rfl,hbg,hg,mP,mQ,eP,vB⟩
 ·have hx:xs=[]:=List.eq_nil_of_length_eq_zero (by simpa using kU.1);subst hx;obtain⟨v',w',hr,ho,hg,_⟩:=run_append_own (P:=P) w w.heap.size t ty e i z size bytes ht bF bZ cA eN bP kC (.slice none 0 0) 0 [] (World.ownsRow_nil _ _ _ _) ad m c ys hl bX h1 oV bB (Nat.le_refl _);exact⟨v',w',hr,r5 ho (Nat.zero_le _),hg,.inr (λg hg=>(ho.lt g hg).1)⟩
 ·by_cases hroom:n+m<=cap
  ·obtain⟨w',hr,ho,cY⟩:=run_append_fits (P:=P) w 0 t ty e i size ht bF cA g n cap xs kU ad m c ys hl bX h1 hroom;exact⟨_,w',hr,ho,cY,.inl rfl⟩
  ·obtain⟨v',w',hr,ho,cY⟩:=run_append_arg_grows (P:=P) w t ty e i z size bytes ht bF bZ cA eN bP kC ⟨g,0,none⟩ n cap xs kU.1 (kU.cells (g:=g) rfl) ad m c ys hl bX (by omega) oV bB;exact⟨v',w',hr,r5 ho (Nat.zero_le _),cY.but _,.inr (λg hg=>(ho.lt g hg).1)⟩
theorem a6h{P:Program}(w:World){ops:Array Oper}{rest:List Oper}{o:Oper}{a:Act}{Q:Exit->Act->World->Prop}(nA:Region.wanted o (yielded ops a.tmps)=true)(so x:Operand)(t:TypeId)
  (ho:o.op=.call { callee:=.builtin .append,args := #[so,x],argTypes := #[t,t] }) (v y:Value) (hs:a.eval so=v) (hx:a.eval x=y) (v':Value) (w':World) (kY:Sem.run P (Builtin.append_ #[t,t] o.type #[v,y]) w=.ok v' w') (h:wpList P ops Q rest (a.put o.dst v') w'):wpList P ops Q (o::rest) a w:=by
 refine a0N nA λK hK=>?_;unfold Oper.wp;simp[execOp,ho,resolve,invoke,builtin,hs,hx,kY,Result.andThen];exact hK _ _ h
theorem b5N{P:Program}(w:World){ops:Array Oper}{o:Oper}{a:Act}{K:Act->World->Prop}{Q:Exit->Act->World->Prop}{E:Prop}(nA:Region.wanted o (yielded ops a.tmps)=true)(f:Nat)(x:Operand)(ts:Array TypeId)
  (ho:o.op=.call { callee:=.value (.func f),args := #[x],argTypes:=ts }) (eg:∀args w,(callFunc f args).run P w=.ok (.enter f args) w) (v:Value) (hx:a.eval x=v) {R:Ending->World->Prop} (hc:Calls P f #[v] w R) (h:∀e w',R e w'->∃u,e=.returned u/\K (a.put o.dst u) w') :
  if Region.wanted o (yielded ops a.tmps)=true then Oper.wp P o a w K Q else E:=by
 rw[if_pos nA];unfold Oper.wp;have he:(execOp a.eval o).run P w=.ok (.enter f #[v]) w:=by rw[<-hx];cases x<;>simp[execOp,ho,resolve,invoke,go_sem,eg]
 rw[he,Oper.upon_enter];refine hc.mono ?_;rintro e w' hr;obtain⟨u,rfl,hk⟩:=h e w' hr;exact hk
theorem a9H{w:World}{B:Nat}{e:TypeId}{size:Nat}{v:Value}{n:Nat}{xs:List Value}(h:w.ownsRow 0 e size v n xs)(hb:∀g,v.ownBlock=some g->B<=g):w.ownsRow B e size v n xs:=by
 obtain⟨h1,h2⟩:=h;refine⟨h1,?_⟩;rcases h2 with h2 | ⟨g,cap,cur,rfl,hg,r⟩
 ·exact .inl h2
 ·exact .inr ⟨g,cap,cur,rfl,hb g rfl,r⟩
theorem c0A{P:Program}{w:World}{B:Nat}(hB:B<=w.heap.size)(t e:TypeId)(z:Value)(size bytes:Nat)(ht:P.underlying t=some (.slice e))(hi:(P.info? e).map (λi=>(i.zero,i.size,i.bytes))=some (some z,size,bytes))(bP:z.cells.size=size)(kC:0<size)
  (v:Value) (n:Nat) (xs ys:List Value) (jM:w.ownsRow B e size v n xs) (hl:ys.length=size) (h1:∀u∈ys,u.oneCell'=true) (hn:n<=100000000000) (dP:bytes<=1000) :
  ∃a' c' w',Sem.run P (Builtin.append_ #[t,t] t #[v,.slice (some ⟨w.heap.size,0,none⟩) 1 1]) (w.alloc (.cells ys.toArray e))=.ok (.slice a' (n+1) c') w'/\w'.ownsRow B e size (.slice a' (n+1) c') (n+1) (xs++ys)/\Below B w w'/\(∀b,b<w.heap.size->v.ownBlock≠some b->w'.heap[b]?=w.heap[b]?)/\∀g,(Value.slice a' (n+1) c').ownBlock=some g->v.ownBlock=some g\/w.heap.size<=g:=by
 have nE:(n+1)*bytes<=100000000001*1000:=Nat.mul_le_mul (by omega) dP;have vK:(w.alloc (.cells ys.toArray e)).ownsRow 0 e size v n xs:=r5 (jM.alloc _) (Nat.zero_le _);obtain⟨v',w',kY,ho,hg,hv⟩:=b2R (P:=P) (w.alloc (.cells ys.toArray e)) t t e z size bytes ht hi bP kC v n xs vK ⟨w.heap.size,0,none⟩ 1 1 ys (Cs.new _ _ _) (by rw[hl,Nat.one_mul]) h1 (by unfold maxLen;omega) (by omega);obtain⟨a',c',rfl,_⟩:=J7 ho;have kG:∀g,(Value.slice a' (n+1) c').ownBlock=some g->v.ownBlock=some g\/w.heap.size<=g:=λg dI=>by
  rcases hv with e | e
  ·left;rw[<-e];exact dI
  ·right;have:=e g dI;rw[World.size_alloc]at this;omega
 refine⟨a',c',w',kY,a9H ho (λg dI=>?_),?_,λb hb kF=>?_,kG⟩
 ·rcases kG g dI with e | e
  ·exact(jM.lt g e).1
  ·omega
 ·exact((Below.refl B w).alloc hB _).trans ((Below.refl _ _).grown hg (by simp;omega) λk hk=>(jM.lt k hk).1)
 ·rw[hg.block b (by simp;omega) (λe=>kF e.symm),Below.heap_alloc _ _ _ hb]
def OwnT(e:TypeId)(U:Nat->Prop)(w:World)(base:Nat)(v:Value)(l:List Tm):Prop:=∃xs,w.ownsRow base e 2 v l.length xs/\Ecs (λb=>U b/\v.ownBlock≠some b) w l xs
theorem OwnT.nil(e:TypeId)(U:Nat->Prop)(w:World)(base:Nat):OwnT e U w base (.slice none 0 0) []:=⟨[],World.ownsRow_nil _ _ _ _,Ecs.nil_iff.2 rfl⟩
theorem OwnT.las{e:TypeId}{U:Nat->Prop}{w:World}{base:Nat}{v:Value}{l:List Tm}(h:OwnT e U w base v l)(hU:∀b,base<=b->b<w.heap.size->U b):∃a c,v=.slice a l.length c/\Las U w l a l.length c:=by
 obtain⟨xs,h1,h2⟩:=h;obtain⟨a,c,e1,e2,e3,e4,e5⟩:=J7 h1;refine⟨a,c,e1,rfl,e2,e3,e4,xs,?_,h2.mono λb hb _=>hb.1⟩;rcases e5 with h | ⟨b,off,ha,kA,hc⟩
 ·exact .inl h
 ·refine .inr ⟨b,off,ha,hU b ?_ kA,kA,hc⟩;subst ha;obtain⟨_,h3⟩:=h1;rcases h3 with⟨h3,_⟩ | ⟨g,cap,cur,h3,hb,_⟩
  ·rw[e1]at h3;cases h3
  ·rw[e1]at h3;cases h3;exact hb
theorem OwnT.lt{e:TypeId}{U:Nat->Prop}{w:World}{base:Nat}{v:Value}{l:List Tm}(h:OwnT e U w base v l){g:Nat}(hg:v.ownBlock=some g):base<=g/\g<w.heap.size:=by
 obtain⟨xs,h1,h2⟩:=h;exact h1.lt g hg
theorem OwnT.bw{e:TypeId}{U:Nat->Prop}{w w':World}{base:Nat}{v:Value}{l:List Tm}(h:OwnT e U w base v l)(hb:Below w.heap.size w w'):OwnT e U w' base v l:=by
 obtain⟨xs,h1,h2⟩:=h;exact⟨xs,a0G h1 hb (Nat.le_refl _),h2.below hb λb _ h=>h⟩
theorem OwnT.keep{e:TypeId}{U:Nat->Prop}{w w':World}{base:Nat}{v:Value}{l:List Tm}(h:OwnT e U w base v l)(hU:∀b,U b->base<=b)(hs:∀b,base<=b->b<w.heap.size->w'.heap[b]?=w.heap[b]?):OwnT e U w' base v l:=by
 obtain⟨xs,h1,h2⟩:=h;refine⟨xs,?_,h2.keep λb hb kA=>⟨hb,hs b (hU b hb.1) kA⟩⟩;refine⟨h1.1,?_⟩;rcases h1.2 with h3 | ⟨g,cap,cur,rfl,hg,hh,r⟩
 ·exact .inl h3
 ·exact .inr ⟨g,cap,cur,rfl,hg,(hs g hg (Array.getElem?_eq_some_iff.1 hh).1).trans hh,r⟩
theorem OwnT.mono{e:TypeId}{U V:Nat->Prop}{w:World}{base base':Nat}{v:Value}{l:List Tm}(h:OwnT e U w base v l)(hb:base'<=base)(hU:∀b,U b->V b):OwnT e V w base' v l:=by
 obtain⟨xs,h1,h2⟩:=h;exact⟨xs,r5 h1 hb,h2.mono λb hb _=>⟨hU b hb.1,hb.2⟩⟩
theorem c3n{P:Program}{U:Nat->Prop}{w:World}{B:Nat}(hB:B<=w.heap.size)(t e:TypeId)(z:Value)(bytes:Nat)(ht:P.underlying t=some (.slice e))(hi:(P.info? e).map (λi=>(i.zero,i.size,i.bytes))=some (some z,2,bytes))(bP:z.cells.size=2)(dP:bytes<=1000)
  {v:Value} {l:List Tm} {s:Tm} {a:Option Addr} {n c:Nat} (h:OwnT e U w B v l) (hs:Tat (λb=>U b/\v.ownBlock≠some b) w s a n c) (hn:l.length<=100000000000) :
  ∃a' c' w',Sem.run P (Builtin.append_ #[t,t] t #[v,.slice (some ⟨w.heap.size,0,none⟩) 1 1]) (w.alloc (.cells #[.int .i64 s.f,.slice a n c] e))=.ok (.slice a' (l.length+1) c') w'/\OwnT e U w' B (.slice a' (l.length+1) c') (l++[s])/\Below B w w'/\(∀b,b<w.heap.size->v.ownBlock≠some b->w'.heap[b]?=w.heap[b]?)/\∀g,(Value.slice a' (l.length+1) c').ownBlock=some g->v.ownBlock=some g\/w.heap.size<=g:=by
 obtain⟨xs,h1,h2⟩:=h;obtain⟨a',c',w',hr,ho,hb,hk,hv⟩:=c0A (P:=P) hB t e z 2 bytes ht hi bP (by decide) v l.length xs [.int .i64 s.f,.slice a n c] h1 rfl (by simp[Value.oneCell']) hn dP;have kL:∀b,(U b/\v.ownBlock≠some b)->b<w.heap.size->(U b/\(Value.slice a' (l.length+1) c').ownBlock≠some b)/\w'.heap[b]?=w.heap[b]?:=λb h3 h4=>by
  refine⟨⟨h3.1,λe=>?_⟩,hk b h4 h3.2⟩;rcases hv b e with e' | e'
  ·exact h3.2 e'
  ·omega
 refine⟨a',c',w',hr,⟨xs++[.int .i64 s.f,.slice a n c],?_,(h2.keep kL).append (Ecs.single (hs.keep kL))⟩,hb,hk,hv⟩;rw[length_append];exact ho
theorem a8m:(Tryz.prog.info? 41).map (λi=>(i.zero,i.size,i.bytes))=some (some (.agg #[.int .i64 0,.slice none 0 0]),2,32):=by kernel_rfl
theorem a1s:(Tryz.prog.info? 41).map (λi=>i.size)=some 2:=by kernel_rfl
def CloneSays(w:World)(t:Tm)(e:Ending)(w':World):Prop:=∃a c,e=.returned (.agg #[.int .i64 t.f,.slice a t.ps.length c])/\OwnT 41 (λb=>w.heap.size<=b) w' w.heap.size (.slice a t.ps.length c) (t.ps.map Tm.strip)/\Below w.heap.size w w'
theorem CloneSays.tat{w w':World}{t:Tm}{e:Ending}(h:CloneSays w t e w')(hf : -9223372036854775808<=t.f/\t.f<=9223372036854775807):∃a n c,e=.returned (.agg #[.int .i64 t.f,.slice a n c])/\Tat (λb=>w.heap.size<=b) w' t.strip a n c/\Below w.heap.size w w':=by
 obtain⟨a0,c0,h1,h2,h3⟩:=h;obtain⟨a,c,e1,h4⟩:=h2.las λb h _=>h;rw[e1]at h1;refine⟨a,_,c,h1,a0L.2 ⟨by rw[Tm.strip_f];exact hf,?_⟩,h3⟩;rw[Tm.strip_l];exact h4
set_option maxRecDepth 100000 in
set_option maxHeartbeats 800000 in
theorem a7V{U:Nat->Prop}{l:List Tm}{a:Option Addr}{n c:Nat}{w:World}(h:Las U w l a n c)(hn:n<=90000000000)
  (hC:∀t∈l,∀(a:Option Addr) (n c:Nat) (w':World),Tat U w' t a n c->Calls Tryz.prog 98 #[.agg #[.int .i64 t.f,.slice a n c]] w' (CloneSays w' t)) :
  Calls Tryz.prog 131 #[.slice a n c] w λe w'=>∃a c,e=.returned (.slice a l.length c)/\OwnT 41 (λb=>w.heap.size<=b) w' w.heap.size (.slice a l.length c) (l.map Tm.strip)/\Below w.heap.size w w':=by
 have HL:=hid h.len;have HA:Hid (∀w',Below w.heap.size w w'->Las U w' l a n c):=λw' hb=>h.bw hb;have HC:=hid hC;clear h hC
 go_enter Tryz.func131,Tryz.ntmps131
 go_wp2
 go_loopw [3,8] (λvv i wr=>∃(k:Nat) (av:Option Addr) (cv:Nat),vv=.slice av k cv/\i=.int .i64 (k:Int)/\k<=n/\OwnT 41 (λb=>w.heap.size<=b) wr w.heap.size (.slice av k cv) ((l.take k).map Tm.strip)/\Below w.heap.size w wr) (λ_ i _=>n-(intOf i).toNat)
 case atStart=>exact⟨0,_,_,rfl,rfl,by omega,OwnT.nil _ _ _ _,bW _⟩
 case round =>
  obtain⟨k,av,cv,rfl,rfl,hk,ho,cM⟩:=hrel;by_cases kA:k<n
  ·obtain⟨b,off,s,a',n',c',rfl,hU,sK,hs,hT,e1,e2⟩:=(HA.out wr cM).at kA;have HS:=hid hs;clear hs;have kP:Below wr.heap.size wr (wr.alloc (.cells #[.int .i64 s.f,.slice a' n' c'] 41)):=bA (bW _) _;have HCall:=hid (HC.out s (mem_of_getElem? HS.out) a' n' c' _ (hT.bw kP));have HF:=hid hT.wf;have HApp:Hid (∀w1 a1 n1 c1,Below wr.heap.size wr w1->Tat (λb=>wr.heap.size+1<=b) w1 s.strip a1 n1 c1->∃a' c' w',Sem.run Tryz.prog (Builtin.append_ #[39,39] 39 #[.slice av k cv,.slice (some ⟨w1.heap.size,0,none⟩) 1 1]) (w1.alloc (.cells #[.int .i64 s.f,.slice a1 n1 c1] 41))=.ok (.slice a' (k+1) c') w'/\OwnT 41 (λb=>w.heap.size<=b) w' w.heap.size (.slice a' (k+1) c') ((l.take (k+1)).map Tm.strip)/\Below w.heap.size w w'):=by
    intro w1 a1 n1 c1 dC lE;have lG:=ho.bw dC;have dG:Tat (λb=>w.heap.size<=b/\(Value.slice av k cv).ownBlock≠some b) w1 s.strip a1 n1 c1:=lE.mono λb hb _=>⟨by have:=cM.size;omega,λe=>by have:=(ho.lt e).2;omega⟩
    have kE:((l.take k).map Tm.strip).length=k:=by rw[length_map,List.length_take];have:=HL.out;omega
    obtain⟨a',c',w',hr,h1,h2,_,_⟩:=c3n (P:=Tryz.prog) (U:=λb=>w.heap.size<=b) (B:=w.heap.size) (Nat.le_trans cM.size dC.size) 39 41 _ 32 Tryz.underlying39 a8m rfl (by decide) lG dG (by omega);rw[Tm.strip_f,kE]at hr;rw[kE]at h1;refine⟨a',c',w',hr,?_,(cM.trans (dC.mono cM.size)).trans h2⟩;rw[take_add_one,HS.out,map_append];exact h1
   clear ho hT
   go_wp2_with (first
    | (go_at_call 98;refine HCall.out.mono ?_;rintro e w1 eP;obtain⟨a1,n1,c1,rfl,lE,hb1'⟩:=eP.tat HF.out;rw[World.size_alloc]at lE;obtain⟨a2,c2,w2,jC,jF,gL⟩:=HApp.out w1 a1 n1 c1 (bN kP hb1') lE;clear eP lE)
    | (at_builtin;refine a6h _ rfl _ _ _ rfl _ _ rfl rfl _ _ jC ?_))
   go_wp2
   go_roundw
   case rel=>exact⟨k+1,_,_,rfl,by go_num,by omega,jF,gL⟩
   case measure=>simp[intOf];omega
  ·have HE:Hid (l.take k=l):=List.take_of_length_le (by have:=HL.out;omega);rw[HE.out]at ho;have HK:Hid (k=l.length):=by show _=_;have:=HL.out;omega
   go_wp2
   go_ret
   exact⟨av,cv,by rw[<-HK.out];rfl,by rw[<-HK.out];exact ho,cM⟩
theorem a7y{W:World}{g:Nat}{x y:Value}{t:TypeId}(h:W.heap[g]?=some (.cells #[x,y] t (0,0)))(x' y':Value):((W.setCell ⟨g,0,none⟩ x').setCell ⟨g,1,none⟩ y').heap[g]?=some (.cells #[x',y'] t (0,0)):=by
 obtain⟨kA,hk⟩:=Array.getElem?_eq_some_iff.1 h;have h1:(W.setCell ⟨g,0,none⟩ x').heap[g]?=some (.cells #[x',y] t (0,0)):=by show(W.heap.modify g _)[g]?=_;rw[Array.getElem?_eq_getElem (by rw[Array.size_modify];exact kA),Array.getElem_modify_self,hk];rfl
 obtain⟨fT,gY⟩:=Array.getElem?_eq_some_iff.1 h1;show((W.setCell ⟨g,0,none⟩ x').heap.modify g _)[g]?=_;rw[Array.getElem?_eq_getElem (by rw[Array.size_modify];exact fT),Array.getElem_modify_self,gY];rfl
theorem a4O{w:World}{b:Nat}{x y:Value}{t:TypeId}(h:w.heap[b]?=some (.cells #[x,y] t (0,0))):w.frozen? ⟨b,0,none⟩=false/\w.frozen? ⟨b,1,none⟩=false:=by
 constructor<;>simp[World.frozen?,h]
theorem a5W{tmps:Array Value}{w:World}{g:Nat}{x y:Value}(hp:tmps.getD 2 undef=.pointer (some ⟨g,0,none⟩))(hg:w.heap[g]?=some (.cells #[x,y] 41 (0,0))) :
  (results Tryz.f98 tmps).run Tryz.prog w=.ok (.agg #[x,y]) w:=by
 have lH:tmps[2]?.getD undef=.pointer (some ⟨g,0,none⟩):=by simpa using hp
 simp[results,lH,asAddr,run_loadVar_row w g _ 41 #[x,y] (0,0) _ hg Tryz.underlying41 rfl a1s]
set_option maxRecDepth 100000 in
set_option maxHeartbeats 800000 in
theorem b6y{U:Nat->Prop}:∀(t:Tm) (a:Option Addr) (n c:Nat) (w:World),Tat U w t a n c->t.size<=90000000000->Calls Tryz.prog 98 #[.agg #[.int .i64 t.f,.slice a n c]] w (CloneSays w t):=by
 intro t
 induction t using Tm.indp with
 | h t ih =>
  intro a n c w ht kC;obtain⟨w0,eS⟩:∃w0,w0=(w.alloc (.cells #[.int .i64 t.f,.slice a n c] 41)).alloc (.cells #[.int .i64 0,.slice none 0 0] 41):=⟨_,rfl⟩
  have HX:Hid (∀w1,Below w0.heap.size w0 w1->w1.heap[w.heap.size+1]?=some (.cells #[.int .i64 0,.slice none 0 0] 41 (0,0))):=λw1 hb=>by have h1:=World.alloc_heap_new (w.alloc (.cells #[.int .i64 t.f,.slice a n c] 41)) (.cells #[.int .i64 0,.slice none 0 0] 41);rw[World.size_alloc,<-eS]at h1;exact(hb.block _ (Array.getElem?_eq_some_iff.1 h1).1).trans h1
  have HB:Hid (∀w1,Below w0.heap.size w0 w1->((w1.cell? ⟨w.heap.size,0,none⟩=some (.int .i64 t.f)/\w1.cell? ⟨w.heap.size,1,none⟩=some (.slice a n c))/\(w1.cell? ⟨w.heap.size+1,0,none⟩=some (.int .i64 0)/\w1.cell? ⟨w.heap.size+1,1,none⟩=some (.slice none 0 0)))/\(w1.frozen? ⟨w.heap.size+1,0,none⟩=false/\w1.frozen? ⟨w.heap.size+1,1,none⟩=false)):=λw1 hb=>by refine⟨?_,a4O (HX.out w1 hb)⟩;rw[eS]at hb;exact c4i hb
  have HW:=hid eS;have HB0:Hid (Below w.heap.size w w0):=by rw[eS];exact bA (bA (bW _) _) _
  clear eS;have HP:Hid (∀w1,Below w0.heap.size w0 w1->Calls Tryz.prog 134 #[.agg #[.int .i64 t.f,.slice a n c]] w1 λe w'=>Below w1.heap.size w1 w'/\∃a' n' c',e=.returned (.slice a' n' c')/\Las U w' t.ps a' n' c'):=λw1 hb=>a0m (ht.bw (bN HB0.out hb));have cK:=t.len_ps;have HC:Hid (∀w1 a' n' c',Las U w1 t.ps a' n' c'->Calls Tryz.prog 131 #[.slice a' n' c'] w1 λe w'=>∃a c,e=.returned (.slice a t.ps.length c)/\OwnT 41 (λb=>w1.heap.size<=b) w' w1.heap.size (.slice a t.ps.length c) (t.ps.map Tm.strip)/\Below w1.heap.size w1 w'):=λw1 a' n' c' h=>a7V h (by have:=h.1;omega) (λs hs a n c w' h'=>ih s hs a n c w' h' (by have:=Tm.size_part hs;omega));have HST:Hid (∀w1 x y,Below w0.heap.size w0 w1->((w1.setCell ⟨w.heap.size+1,0,none⟩ x).setCell ⟨w.heap.size+1,1,none⟩ y).cell? ⟨w.heap.size,0,none⟩=some (.int .i64 t.f)/\((w1.setCell ⟨w.heap.size+1,0,none⟩ x).setCell ⟨w.heap.size+1,1,none⟩ y).cell? ⟨w.heap.size,1,none⟩=some (.slice a n c)):=λw1 x y hb=>by
   have h1:=(HB.out w1 hb).1.1;have h2:((w1.setCell ⟨w.heap.size+1,0,none⟩ x).setCell ⟨w.heap.size+1,1,none⟩ y).heap[w.heap.size]?=w1.heap[w.heap.size]?:=by rw[Below.heap_setCell _ _ _ _ (by show w.heap.size≠w.heap.size+1;omega),Below.heap_setCell _ _ _ _ (by show w.heap.size≠w.heap.size+1;omega)]
   exact⟨(a0X h2).trans h1.1,(a0X h2).trans h1.2⟩
  have hq:Below w0.heap.size w0 w0:=bW _;obtain⟨⟨⟨c1,c2⟩,c3,c4⟩,c5,c6⟩:=HB.out w0 hq;clear ih ht
  go_enter Tryz.func98,Tryz.ntmps98
  go_wp2_with fail
  rw[<-HW.out]
  go_region_held3 (λw'=>w'.cell? ⟨w.heap.size,0,none⟩=some (.int .i64 t.f)/\w'.cell? ⟨w.heap.size,1,none⟩=some (.slice a n c)) (first | (refine(HB.out _ ?_).1.1;with_reducible exact hq) | (refine(HB.out _ ?_).1.1;with_reducible exact bD hq) | (refine HST.out _ _ _ ?_;with_reducible exact hq))
   (first
    | (go_at_call 134;refine(HP.out _ (by first | with_reducible exact hq | with_reducible exact bD hq)).mono ?_;rintro e w2 ⟨gL,a2,n2,c2,rfl,kM⟩;replace hq:=bN (by first | with_reducible exact hq | with_reducible exact bD hq) gL;clear gL;dsimp only)
    | (go_at_call 131;refine(HC.out _ _ _ _ kM).mono ?_;rintro e w3 ⟨a3,c3,rfl,tY,dY⟩;have fF:=hq;replace hq:=bN (by first | with_reducible exact hq | with_reducible exact bD hq) dY;obtain⟨⟨_,d3,d4⟩,d5,d6⟩:=HB.out _ hq;dsimp only))
  go_wp2_with fail
  refine bodyPost_ret (a5W (g:=w.heap.size+1) rfl (a7y (HX.out _ hq) _ _)) rfl ?_;have cS:w0.heap.size<=w2.heap.size:=fF.size;have eS:w0.heap.size=w.heap.size+2:=by rw[HW.out];simp
  refine⟨a3,c3,rfl,?_,?_⟩
  ·refine(tY.keep (λb h=>h) λb hb kA=>?_).mono (by omega) (λb h=>by omega);rw[Below.heap_setCell _ _ _ _ (by show b≠w.heap.size+1;omega),Below.heap_setCell _ _ _ _ (by show b≠w.heap.size+1;omega)]
  ·exact((bN HB0.out hq).setCell (p:=⟨w.heap.size+1,0,none⟩) (by show w.heap.size<=w.heap.size+1;omega) _).setCell (p:=⟨w.heap.size+1,1,none⟩) (by show w.heap.size<=w.heap.size+1;omega) _
def a3y(R:Nat->List Value):Nat->List Value
 | 0=>[]
 | k+1=>a3y R k++R k
def a4o(L:Nat->Nat):Nat->Nat
 | 0=>0
 | k+1=>a4o L k+L k
theorem b3x(L:Nat->Nat){k m:Nat}(h:k<=m):a4o L k<=a4o L m:=by
 induction h with
 | refl=>exact Nat.le_refl _
 | step h ih=>rw[a4o];omega
def Rw(size:Nat)(w:World)(a:Option Addr)(m:Nat)(A:Nat->Option Addr)(L C:Nat->Nat)(R:Nat->List Value):Prop:=
 (∀r,r<m->(A r=none->L r=0/\C r=0)/\Cs w (A r) (R r)/\(R r).length=L r*size/\(∀u∈R r,u.oneCell'=true)) /\
 (m=0\/∃b off,a=some ⟨b,off,none⟩/\b<w.heap.size/\∀r,r<m->w.cell? ⟨b,off+r,none⟩=some (.slice (A r) (L r) (C r)))
theorem Rw.below{B size:Nat}{w w':World}{a:Option Addr}{m:Nat}{A:Nat->Option Addr}{L C:Nat->Nat}{R:Nat->List Value}(h:Rw size w a m A L C R)(hb:Below B w w')(hB:w.heap.size<=B):Rw size w' a m A L C R:=by
 refine⟨λr hr=>⟨(h.1 r hr).1,(h.1 r hr).2.1.below hb hB,(h.1 r hr).2.2⟩,?_⟩;rcases h.2 with h0 | ⟨b,off,rfl,kA,hc⟩
 ·exact .inl h0
 ·exact .inr ⟨b,off,rfl,Nat.lt_of_lt_of_le kA hb.size,λr hr=>by rw[hb.cell (by show b<B;omega)];exact hc r hr⟩
theorem b7H:(Tryz.prog.info? 3).map (λi=>(i.zero,i.size,i.bytes))=some (some (.int .i64 0),1,8):=by kernel_rfl
set_option maxRecDepth 100000 in
set_option maxHeartbeats 400000 in
theorem b6B(n:Nat)(hn:n<=4398046511104)(w:World) :
  Calls Tryz.prog 163 #[.slice none 0 0,.int .i64 (n:Int)] w λe w'=>∃v,e=.returned v/\w'.ownsRow w.heap.size 41 2 v 0 []/\Below w.heap.size w w':=by
 obtain⟨i,bF,bZ,cA,eN⟩:=info_parts a8m;rcases Nat.eq_zero_or_pos n with rfl | h0
 ·go_enter Tryz.func163,Tryz.ntmps163
  go_wp2
  go_ret
  exact⟨_,rfl,World.ownsRow_nil _ _ _ _,bW _⟩
 ·have hr:=Lib.run_append_nil_zeros (P:=Tryz.prog) w 39 3 39 41 i (.agg #[.int .i64 0,.slice none 0 0]) .i64 .i64 Tryz.underlying39 Tryz.underlying3 bF bZ n h0 (by rw[cA];omega) (by omega) (by rw[eN];omega)
  go_enter Tryz.func163,Tryz.ntmps163
  go_wp2_with (at_builtin;refine Lib.wpList_append_run _ rfl _ _ _ _ rfl _ _ rfl rfl _ _ hr ?_)
  go_wp2
  go_ret
  refine⟨_,rfl,World.ownsRow_made w.drew _ _ (Nat.le_refl _) (grownCap_le_maxLen _ _ _ _ (by unfold maxLen;omega)) ?_,(Below.refl _ _).drew.alloc (Nat.le_refl _) _⟩;have:=grownCap_ge w n 0 41;simp[size_zeroCells]
  try omega
set_option maxRecDepth 100000 in
set_option maxHeartbeats 800000 in
theorem a9L(a:Option Addr)(m c:Nat)(A:Nat->Option Addr)(L C:Nat->Nat)(R:Nat->List Value)(w:World)(hr:Rw 2 w a m A L C R)(hm:m<=1000)(hs:a4o L m<=1099511627776) :
  Calls Tryz.prog 130 #[.slice a m c] w λe w'=>∃v,e=.returned v/\w'.ownsRow w.heap.size 41 2 v (a4o L m) (a3y R m)/\Below w.heap.size w w':=by
 obtain⟨J,hJ⟩:∃J:Nat->List Value,J=a3y R:=⟨_,rfl⟩
 obtain⟨N,hN⟩:∃N:Nat->Nat,N=a4o L:=⟨_,rfl⟩
 have HS:Hid (∀k,J (k+1)=J k++R k):=λk=>by rw[hJ];rfl
 have HSN:Hid (∀k,N (k+1)=N k+L k):=λk=>by rw[hN];rfl
 have HJ0:Hid (J 0=[]/\N 0=0):=by rw[hJ,hN];exact⟨rfl,rfl⟩
 have HL:Hid (∀k,k<=m->N k<=1099511627776):=λk hk=>by rw[hN];exact Nat.le_trans (b3x L hk) hs
 have HR:Hid (∀B w',Below B w w'->w.heap.size<=B->Rw 2 w' a m A L C R):=λB w' hb hB=>hr.below hb hB;have HR0:Hid (Rw 2 w a m A L C R):=hr;rw[<-hJ,<-hN];clear hJ hs hr hN
 go_enter Tryz.func130,Tryz.ntmps130
 go_wp2
 go_loop [3,11] (λs i=>∃k x:Nat,i=.int .i64 (k:Int)/\k<=m/\s=.int .i64 (x:Int)/\x=N k) (λs i=>m-(intOf i).toNat)
 case atStart=>exact⟨0,0,rfl,by omega,rfl,by rw[HJ0.out.2]⟩
 case round =>
  obtain⟨k,x,rfl,hk,rfl,hx⟩:=hrel;have HX:Hid (x=N k):=hx;have fE:x<=1099511627776:=by rw[hx];exact HL.out k hk
  clear hx;by_cases kA:k<m
  ·rcases HR0.out.2 with h0 | ⟨b,off,rfl,hb,hc⟩
   ·omega
   have dS:=hc k kA;have HXX:Hid (x+L k=N (k+1)):=by show x+L k=_;rw[HSN.out k,<-HX.out]
   have jN:x+L k<=1099511627776:=by rw[HXX.out];exact HL.out (k+1) kA
   obtain⟨Lk,eW⟩:∃y,L k=y:=⟨_,rfl⟩
   obtain⟨Ak,jO⟩:∃y,A k=y:=⟨_,rfl⟩
   obtain⟨Ck,lV⟩:∃y,C k=y:=⟨_,rfl⟩
   rw[eW]at HXX jN;rw[eW,jO,lV]at dS;clear eW jO lV hc
   go_wp2
   refine⟨⟨k+1,x+Lk,by go_num,by omega,by go_num,HXX.out⟩,?_⟩;simp[intOf];omega
  ·obtain rfl:k=m:=by omega
   go_wp2_with fail
   refine(b6B x (by omega) w).mono ?_;rintro e w1 ⟨v1,rfl,lG,kP⟩
   go_wp2
   go_loopw [6,27] (λu i wr=>∃j:Nat,i=.int .i64 (j:Int)/\j<=k/\wr.ownsRow w.heap.size 41 2 u (N j) (J j)/\Below w.heap.size w wr) (λ_ i _=>k-(intOf i).toNat)
   case atStart=>exact⟨0,rfl,by omega,by rw[HJ0.out.1,HJ0.out.2];exact lG,kP⟩
   case round =>
    obtain⟨j,rfl,hj,qC,nP⟩:=hrel;by_cases kA:j<k
    ·obtain⟨bI,eG,pE,dT⟩:=(HR.out _ _ nP (Nat.le_refl _)).1 j kA;rcases(HR.out _ _ nP (Nat.le_refl _)).2 with h0 | ⟨b,off,rfl,hb,hc⟩
     ·omega
     have dS:=hc j kA;have hJl:N j+L j<=1099511627776:=by have:=HL.out (j+1) kA;rw[HSN.out j]at this;exact this
     have HSj':Hid (J (j+1)=J j++R j/\N (j+1)=N j+L j):=⟨HS.out j,HSN.out j⟩
     obtain⟨Lk,eW⟩:∃y,L j=y:=⟨_,rfl⟩
     obtain⟨Ak,jO⟩:∃y,A j=y:=⟨_,rfl⟩
     obtain⟨Ck,lV⟩:∃y,C j=y:=⟨_,rfl⟩
     obtain⟨Rk,iN⟩:∃y,R j=y:=⟨_,rfl⟩
     obtain⟨Jk,sM⟩:∃y,J j=y:=⟨_,rfl⟩
     obtain⟨Nk,qD⟩:∃y,N j=y:=⟨_,rfl⟩
     rw[jO,iN]at eG;rw[iN]at dT;rw[eW,iN]at pE;rw[eW,jO,lV]at dS;rw[eW,jO,lV]at bI;rw[sM,iN,qD,eW]at HSj';rw[sM,qD]at qC;rw[qD,eW]at hJl;have kC:=nP.size;have HRl:=hid pE;clear eW jO lV iN sM qD hc pE
     go_wp2_with (at_builtin;refine L5 _ rfl _ _ 39 rfl w.heap.size 41 (.agg #[.int .i64 0,.slice none 0 0]) 2 32 Tryz.underlying39 a8m rfl (by decide) _ Nk Jk rfl qC Ak Lk Ck Rk rfl bI eG HRl.out dT ?d1 ?d2 kC ?_)
     case d1=>unfold maxLen;omega
     case d2=>omega
     intro v2 w2 jF pF;have gL:=nP.trans (a2S qC pF kC);clear pF
     go_wp2
     go_roundw
     case rel=>exact⟨j+1,by go_num,kA,by rw[HSj'.out.1,HSj'.out.2];exact jF,gL⟩
     case measure=>simp[intOf];omega
    ·obtain rfl:j=k:=by omega
     go_wp2
     go_ret
     exact⟨_,rfl,qC,nP⟩
structure Pr where
 a:Option Addr
 n:Nat
 c:Nat
 p:List Int
def b2A(p:List Int):List Value:=p.map λz => .int .i64 z
def Pr.ok(U:Nat->Prop)(w:World)(x:Pr):Prop:=x.n=x.p.length/\x.n<=x.c/\x.c<=maxLen/\(x.a=none->x.n=0/\x.c=0)/\Cu U w x.a (b2A x.p)
section
open Go.RowKit Go.Shelf
attribute [local go_sem] Oper.semAt_some
def a6Y(acc:List Int)(s:Tm):List Int:=if s.f<0 then(if(-1-s.f)∈acc then acc else acc++[-1-s.f])else acc
def K3(l:List Tm):List Int:=l.foldl a6Y []
theorem b2e(l:List Tm)(s:Tm):K3 (l++[s])=a6Y (K3 l) s:=by simp[K3]
theorem b8z(acc:List Int)(s:Tm):(a6Y acc s).length<=acc.length+1:=by
 unfold a6Y;split
 ·split
  ·omega
  ·simp
 ·omega
theorem b5s(l:List Tm):(K3 l).length<=l.length:=by
 have:∀(l:List Tm) (acc:List Int),(l.foldl a6Y acc).length<=acc.length+l.length:=by
  intro l
  induction l with
  | nil=>intro acc;simp
  | cons y ys ih=>intro acc;have:=ih (a6Y acc y);have:=b8z acc y;simp only[List.foldl_cons,length_cons];omega
 have:=this l [];simpa[K3]using this
def a3w(acc:List Int):List Lit:=acc.map λn => .int .i64 n
theorem a7k{H:Type}(acc:List Int)(n:Int):Maps.has (H:=H) (Maps.setOf (.agg []) (a3w acc)) (.int .i64 n)=decide (n∈acc):=by
 rw[Maps.has_setOf _ _ _ (λx hx=>by obtain⟨m,_,rfl⟩:=mem_map.1 hx;trivial)];unfold a3w;rw[List.any_map,Bool.eq_iff_iff,List.any_eq_true,decide_eq_true_iff];constructor
 ·rintro⟨x,hx,h⟩;have:x=n:=by simpa[Lit.sameKey]using h
  rw[<-this];exact hx
 ·intro h;exact⟨n,h,by simp[Lit.sameKey]⟩
theorem a6N{f:Int}(h:f<0)(a:Option Addr)(n c:Nat)(w:World) :
  Calls Tryz.prog 103 #[.agg #[.int .i64 f,.slice a n c]] w λe w'=>e=.returned (.bool true)/\Below w.heap.size w w':=by
 have:=E4 f a n c w;rw[decide_eq_true h]at this;exact this
theorem b7W{f:Int}(h:¬ f<0)(a:Option Addr)(n c:Nat)(w:World) :
  Calls Tryz.prog 103 #[.agg #[.int .i64 f,.slice a n c]] w λe w'=>e=.returned (.bool false)/\Below w.heap.size w w':=by
 have:=E4 f a n c w;rw[decide_eq_false h]at this;exact this
def VarI(w:World)(acc:List Int)(v:Value)(W:World):Prop:=
 Boxed W (w.heap.size+1) 79 v/\W.ownsRow (w.heap.size+5) 3 1 v acc.length (b2A acc)/\Boxed W (w.heap.size+1+1+1) 143 (.map (some (w.heap.size+1+1)))/\W.ownsMap (H:=Unit) Tryz.prog 3 unitElem (w.heap.size+1+1) acc.length (Maps.setOf (.agg []) (a3w acc))/\Below w.heap.size w W/\w.heap.size+5<=W.heap.size
theorem U7{W W':World}{P:Program}{k:TypeId}{R:Value->Option (DataW Unit×List MemPlace)}{b n:Nat}{D:DataW Unit}(h:W.ownsMap P k R b n D)(hb:W'.heap[b]?=W.heap[b]?):W'.ownsMap P k R b n D:=by
 obtain⟨es,ck,h1,h2⟩:=h;exact⟨es,ck,hb.trans h1,h2⟩
theorem VarI.abides{w A B:World}{acc:List Int}{v:Value}(h:VarI w acc v A)(hb:Below A.heap.size A B):VarI w acc v B:=by
 obtain⟨h1,h2,h3,h4,h5,h6⟩:=h;exact⟨(hb.block _ h1.lt).trans h1,a0G h2 hb (Nat.le_refl _),(hb.block _ h3.lt).trans h3,U7 h4 (hb.block _ (by omega)),h5.trans (hb.mono h5.size),Nat.le_trans h6 hb.size⟩
theorem VarI.putObj{w A:World}{acc:List Int}{v:Value}(h:VarI w acc v A){l:Nat}{o:Obj}(o':Obj)(cT:w.heap.size+5<=l)(hl:A.heap[l]?=some o)(ho:o.isCells=false):VarI w acc v (A.putObj l o'):=by
 obtain⟨h1,h2,h3,h4,h5,h6⟩:=h;refine⟨a7D h1 o' hl ho,ownsRow_putObj h2 o' hl ho,a7D h3 o' hl ho,U7 h4 (World.putObj_heap_other (by omega)),h5.trans (F2 o' (by omega) hl ho).1,by simpa[World.putObj]using h6⟩
theorem b3S{w W3 W4:World}{acc:List Int}{v:Value}(hI:VarI w acc v W3)(qE:W3.grownBy W4 (some (w.heap.size+1+1))) :
  Boxed W4 (w.heap.size+1) 79 v/\W4.ownsRow (w.heap.size+5) 3 1 v acc.length (b2A acc)/\Boxed W4 (w.heap.size+1+1+1) 143 (.map (some (w.heap.size+1+1)))/\w.heap.size+5<=W4.heap.size:=by
 obtain⟨h1,h2,h3,h4,h5,h6⟩:=hI;refine⟨h1.kept qE (by simp),h2.kept qE ?_,h3.kept qE (by simp),Nat.le_trans h6 qE.size⟩;rcases h2.2 with⟨rfl,_⟩ | ⟨g,cap,cur,rfl,hg,_⟩
 ·exact .inl rfl
 ·refine .inr λe=>?_;have:g=w.heap.size+1+1:=by simpa[Value.ownBlock]using e
  omega
theorem b5z{w W3 W4 w5:World}{acc:List Int}{v v':Value}{n:Int}{tmp:Obj}(hI:VarI w acc v W3)(nQ:W4.ownsMap (H:=Unit) Tryz.prog 3 unitElem (w.heap.size+1+1) (acc.length+1) ((Maps.setOf (.agg []) (a3w acc)).put (.int .i64 n) (.agg [])))(qE:W3.grownBy W4 (some (w.heap.size+1+1)))
  (iO:w5.ownsRow (w.heap.size+5) 3 1 v' (acc.length+1) (b2A acc++[.int .i64 n])) (tZ:(W4.alloc tmp).grownBy w5 v.ownBlock) :
  Boxed w5 (w.heap.size+1) 79 v/\KeepsFrom (w.heap.size+5) W3 (w5.setCell ⟨w.heap.size+1,0,none⟩ v')/\KpT w.heap.size W3 (w5.setCell ⟨w.heap.size+1,0,none⟩ v')/\VarI w (acc++[n]) v' (w5.setCell ⟨w.heap.size+1,0,none⟩ v'):=by
 obtain⟨m1,m2,m3,m4⟩:=b3S hI qE;obtain⟨h1,h2,h3,h4,h5,h6⟩:=hI;have kA:=m2.lt;have kF:∀g,g<w.heap.size+5->some g≠v.ownBlock:=λg uA e=>by have:=(kA g e.symm).1;omega
 have hnv':∀g,g<w.heap.size+5->v'.ownBlock≠some g:=λg uA e=>by have:=(iO.lt g e).1;omega
 have r1:Boxed w5 (w.heap.size+1) 79 v:=(m1.alloc tmp).kept tZ (kF _ (by omega));have fM:∀g,g≠w.heap.size+1->(w5.setCell ⟨w.heap.size+1,0,none⟩ v').heap[g]?=w5.heap[g]?:=λg hg=>Below.heap_setCell _ _ _ _ hg;have hsz4:=qE.size;have hsz5:=tZ.size;rw[World.size_alloc]at hsz5
 have kL:∀g,g<W3.heap.size->g≠w.heap.size+1+1->some g≠v.ownBlock->g≠w.heap.size+1->(w5.setCell ⟨w.heap.size+1,0,none⟩ v').heap[g]?=W3.heap[g]?:=λg k1 k2 k3 k4=>by rw[fM g k4,tZ.block g (by simp;omega) k3,Below.heap_alloc _ _ _ (by omega),qE.block g k1 (λe=>k2 (by simpa using e))]
 have sN:∀(g:Nat) cs ty fl,W3.heap[g]?=some (Obj.cells cs ty fl)->ty=41->some g≠v.ownBlock/\g≠w.heap.size+1+1/\g≠w.heap.size+1:=λg cs ty fl hg ht=>by
  refine⟨λe=>?_,λe=>?_,λe=>?_⟩
  ·rcases h2.2 with⟨rfl,_⟩ | ⟨q,cap,cur,rfl,_,hh,_⟩
   ·cases e
   ·have e':g=q:=by simpa[Value.ownBlock]using e
    rw[e',hh]at hg;cases hg;revert ht;decide
  ·obtain⟨es,ck,hh,_⟩:=h4;rw[e,hh]at hg;cases hg
  ·rw[e,show W3.heap[w.heap.size+1]?=_ from h1]at hg;cases hg;revert ht;decide
 have vL:Below w.heap.size W3 (w5.setCell ⟨w.heap.size+1,0,none⟩ v'):=
  ((((Below.refl w.heap.size W3).grown qE (by omega) (λk e=>by cases e;omega)).alloc (by omega) tmp).grown tZ (by simp;omega) (λj e=>by have:=(kA j e).1;omega)).setCell (p:=⟨w.heap.size+1,0,none⟩) (by show w.heap.size<=w.heap.size+1;omega) _
 refine⟨r1,⟨by rw[World.size_setCell];omega,λg o hgB hg ho=>?_⟩,⟨vL,λg cs fl hg=>?_⟩,r1.set v',?_,?_,?_,h5.trans vL,by rw[World.size_setCell];omega⟩
 ·rw[kL g (Array.getElem?_eq_some_iff.1 hg).1 (by omega) (λe=>?_) (by omega)]
  ·exact hg
  ·rcases h2.2 with⟨rfl,_⟩ | ⟨q,cap,cur,rfl,_,hh,_⟩
   ·cases e
   ·have e':g=q:=by simpa[Value.ownBlock]using e
    rw[e',hh]at hg;cases hg;cases ho
 ·obtain⟨k1,k2,k3⟩:=sN g cs _ fl hg rfl;rw[kL g (Array.getElem?_eq_some_iff.1 hg).1 k2 k1 k3];exact hg
 ·rw[length_append,show b2A (acc++[n])=b2A acc++[.int .i64 n] by simp[b2A]];exact iO.kept (grownBy_setCell' w5 (w.heap.size+1) v') (.inr (hnv' _ (by omega)))
 ·refine Boxed.kept (W:=w5) ?_ (grownBy_setCell' w5 (w.heap.size+1) v') (by simp;omega);exact(m3.alloc tmp).kept tZ (kF _ (by omega))
 ·rw[length_append,show a3w (acc++[n])=a3w acc++[.int .i64 n] by simp[a3w],Maps.setOf_snoc];refine U7 nQ ?_;rw[fM _ (by omega),tZ.block _ (by simp;omega) (kF _ (by omega)),Below.heap_alloc _ _ _ (by omega)]
set_option maxRecDepth 100000 in
set_option maxHeartbeats 4000000 in
theorem c1d{U:Nat->Prop}(t:Tm)(a:Option Addr)(n c:Nat)(w:World)(h:Tat U w t a n c)(hm:t.size<=90000000000) :
  CallsIn Fence.wide 3 Tryz.prog 75 #[.agg #[.int .i64 t.f,.slice a n c]] w λe W'=>∃v,e=.returned v/\W'.ownsRow w.heap.size 3 1 v (K3 t.flat).length (b2A (K3 t.flat))/\Below w.heap.size w W':=by
 have yE:=@run_makeMap Tryz.prog;refine callsIn_of_wp_marks Tryz.func75 rfl trivial ?_ rfl;simp only[Tryz.ntmps75,size_toArray,length_cons,length_nil,Nat.reduceAdd,Nat.reduceSub,Array.replicate_succ,Array.replicate_zero,push_toArray,append_toArray,nil_append,cons_append]
 gi_wp2_with (refine⟨trivial,?_⟩;gi_at_call 77;refine(b3g _ _ _ _ _).mono ?_;rintro e w' ⟨rfl,rfl⟩)
 obtain⟨w1,dC⟩:∃w1,w1=w.alloc (.cells #[.int .i64 t.f,.slice a n c] 41):=⟨_,rfl⟩
 obtain⟨w2,iF⟩:∃w2,w2=w1.alloc (.cells #[.slice none 0 0] 79):=⟨_,rfl⟩
 obtain⟨w3,nO⟩:∃w3,w3=w2.alloc (.map #[] 0):=⟨_,rfl⟩
 obtain⟨w4,vM⟩:∃w4,w4=w3.alloc (.cells #[.map (some (w.heap.size+1+1))] 143):=⟨_,rfl⟩
 obtain⟨wl,cT⟩:∃wl,wl=w4.alloc (.cells #[.int .i64 t.f,.slice a n c] 41):=⟨_,rfl⟩
 have s1:w1.heap.size=w.heap.size+1:=by rw[dC];simp
 have s2:w2.heap.size=w.heap.size+1+1:=by rw[iF];simp;omega
 have s3:w3.heap.size=w.heap.size+1+1+1:=by rw[nO];simp;omega
 have s4:w4.heap.size=w.heap.size+1+1+1+1:=by rw[vM];simp;omega
 have kC:wl.heap.size=w.heap.size+5:=by rw[cT];simp;omega
 have k1:Below w.heap.size w w1:=by rw[dC];exact bA (bW _) _
 have k2:Below w1.heap.size w1 w2:=by rw[iF];exact bA (bW _) _
 have k3:Below w2.heap.size w2 w3:=by rw[nO];exact bA (bW _) _
 have k4:Below w3.heap.size w3 w4:=by rw[vM];exact bA (bW _) _
 have k5:Below w4.heap.size w4 wl:=by rw[cT];exact bA (bW _) _
 have jD:Below w.heap.size w wl:=bN (bN (bN (bN k1 k2) k3) k4) k5;have eU:wl.heap[w.heap.size+1+1+1+1]?=some (.cells #[.int .i64 t.f,.slice a n c] 41 (0,0)):=by rw[cT,<-s4];exact World.alloc_heap_new _ _
 have pD:∃v,VarI w (K3 (([]:List Tr).map Tr.t)) v wl:=by
  refine⟨.slice none 0 0,?_,World.ownsRow_nil _ _ _ _,?_,?_,jD,by omega⟩
  ·show _=_;rw[k5.block _ (by omega),k4.block _ (by omega),k3.block _ (by omega),iF,<-s1];exact World.alloc_heap_new _ _
  ·show _=_;rw[k5.block _ (by omega),vM,<-s3];exact World.alloc_heap_new _ _
  ·refine U7 (W:=w3) ?_ (by rw[k5.block _ (by omega),k4.block _ (by omega)]);rw[nO,<-s2];exact World.ownsMap_made w2 _ _ _
 have ht:Tat (·< w.heap.size) wl t a n c:=(h.mono (V:=(·< w.heap.size)) λb _ hb=>hb).below jD λb hb _=>hb;rw[<-dC,<-iF,<-nO,<-vM,<-cT];clear cT h dC iF nO vM s1 s2 s3 s4 k1 k2 k3 k4 k5;obtain⟨i0,bF,bZ,cA,eN⟩:=info_parts b7H;refine Z2 (gf:=106) (lb := #[.pointer (some ⟨w.heap.size+1+1+1+1,0,none⟩)]) rfl (enters_of Tryz.func106 (by kernel_rfl) rfl)
  (a2w (n₀:=w.heap.size) (by omega) eU ht) (λh k=>h.trans k) (λW l o o' hl h ho=>F2 o' (by omega) h ho) (λpre x W l o o' hl hx h ho=>⟨hx.1.kept (F2 o' (by omega) h ho).1,hx.2⟩) (λ_=>rfl)
  (λpre W=>∃v,VarI w (K3 (pre.map Tr.t)) v W) (λpre A B h hb=>⟨h.choose,h.choose_spec.abides hb⟩) (λpre A l o o' h hl h1 h2=>⟨h.choose,h.choose_spec.putObj o' (by omega) h1 h2⟩) pD
  (λx b=>{ tmps := #[.agg #[.int .i64 t.f,.slice a n c],.pointer (some ⟨w.heap.size,0,none⟩),.slice none 0 0,.pointer (some ⟨w.heap.size+1,0,none⟩),.pointer (some ⟨w.heap.size+1+1+1,0,none⟩),.pointer (some ⟨b,0,none⟩),undef,undef,undef,.map (some (w.heap.size+1+1)),.agg #[.int .i64 t.f,.slice a n c],.func (.func 106) #[] #[.pointer (some ⟨w.heap.size+1+1+1+1,0,none⟩)],x.v,undef,undef,undef,undef,undef,undef,undef,undef,undef,undef,undef,undef,undef,undef,undef,undef,undef,undef,undef,undef,undef],defers:=[] })
  Tr.ob (λV x hV=>KpT.of_below (by omega) (bA (bW _) _)) (λpre x V hx=>⟨hx.1.bw (bA (bW _) _),hx.2⟩) ?assign ?body ?done
 case assign =>
  intro l x W K hK;obtain⟨xt,xa,xn,xc⟩:=x;simp only[Tr.v,Tr.ob]at hK |-
  gi_wp2
  exact hK
 case body =>
  rintro l pre x W b hb cI ⟨v,hI⟩ ⟨hx,kA⟩;have fE:=hx.wf;have jE:=(Array.getElem?_eq_some_iff.1 cI).1;have cS:=b5s (pre.map Tr.t);rw[length_map]at cS;obtain⟨xt,xa,xn,xc⟩:=x;simp only[Tr.v,Tr.ob]at *;have HS:=hid (b2e (pre.map Tr.t) xt);obtain⟨acc,vN⟩:∃acc,acc=K3 (pre.map Tr.t):=⟨_,rfl⟩
  rw[<-vN]at hI HS cS;clear vN;have hwW:w.heap.size<=W.heap.size:=hI.2.2.2.2.1.size;obtain⟨e1,e2⟩:=I6 cI;by_cases hq:xt.f<0
  ·have HQ:=hid hq;have HWF:Hid ((Lit.int .i64 (-1-xt.f)).wf=true):=by show _=_;simp[Lit.wf,IntKind.min,IntKind.max,IntKind.signed,IntKind.bits];omega
   by_cases dZ:(-1-xt.f)∈acc
   ·have HS2:Hid (K3 (List.map Tr.t pre++[xt])=acc):=by show _=_;rw[HS.out,a6Y,if_pos hq,if_pos dZ]
    have HHAS:Hid (Maps.has (H:=Unit) (Maps.setOf (.agg []) (a3w acc)) (.int .i64 (-1-xt.f))=true):=by show _=_;rw[a7k];exact decide_eq_true dZ
    clear hq
    gi_wp2_with (first
    | (refine⟨trivial,?_⟩;gi_at_call 103;refine(CallsIn.inRound l (callsIn_wide.2 (a6N HQ.out _ _ _ _))).mono ?_;rintro e W1 ⟨rfl,kP⟩;clear e1 e2;obtain⟨e1,e2⟩:=I6 ((kP.block b jE).trans cI))
    | (refine⟨trivial,?_⟩;gi_at_call 104;refine(CallsIn.inRound l (callsIn_wide.2 (U9 _ _ _ _ _ fE.1 HQ.out))).mono ?_;rintro e W2 ⟨rfl,gL⟩;have cD:=hI.abides (bN kP gL);have gV:=cD.2.2.1.cell;have vO:=cD.2.1;have hbx2:=cD.1)
    | (gi_at_lookup;refine wpListIn_lookup_own_unit _ rfl _ _ 143 rfl 3 144 (Maps.int_keyed Tryz.underlying3) Tryz.underlying143 (Tryz.zeroValue144 _) (w.heap.size+1+1) acc.length _ rfl cD.2.2.2.1 _ (.int .i64 (-1-xt.f)) rfl (Maps.keyOf_int_mk Tryz.underlying3 HWF.out) ?_;rw[HHAS.out];have uB:=cD.abides (bA (bW _) (.cells #[] 144));have rE:=uB.2.2.1.cell))
    refine⟨B4 (bA (bN kP gL) _) _,KpT.of_below hwW (bA (bN kP gL) _),v,?_⟩
    first
     | (rw[HS2.out];exact cD.abides (bA (bW _) _))
     | (rw[show List.map Tr.t (pre++[⟨xt,xa,xn,xc⟩])=List.map Tr.t pre++[xt] by simp,HS2.out];exact cD.abides (bA (bW _) _))
   ·have HS2:Hid (K3 (List.map Tr.t pre++[xt])=acc++[-1-xt.f]):=by show _=_;rw[HS.out,a6Y,if_pos hq,if_neg dZ]
    have HHAS:Hid (Maps.has (H:=Unit) (Maps.setOf (.agg []) (a3w acc)) (.int .i64 (-1-xt.f))=false):=by show _=_;rw[a7k];exact decide_eq_false dZ
    clear hq;have kD:acc.length<=90000000000:=by omega
    gi_wp2_with (first
    | (refine⟨trivial,?_⟩;gi_at_call 103;refine(CallsIn.inRound l (callsIn_wide.2 (a6N HQ.out _ _ _ _))).mono ?_;rintro e W1 ⟨rfl,kP⟩;clear e1 e2;obtain⟨e1,e2⟩:=I6 ((kP.block b jE).trans cI))
    | (refine⟨trivial,?_⟩;gi_at_call 104;refine(CallsIn.inRound l (callsIn_wide.2 (U9 _ _ _ _ _ fE.1 HQ.out))).mono ?_;rintro e W2 ⟨rfl,gL⟩;have cD:=hI.abides (bN kP gL);have gV:=cD.2.2.1.cell;have vO:=cD.2.1;have hbx2:=cD.1)
    | (gi_at_lookup;refine wpListIn_lookup_own_unit _ rfl _ _ 143 rfl 3 144 (Maps.int_keyed Tryz.underlying3) Tryz.underlying143 (Tryz.zeroValue144 _) (w.heap.size+1+1) acc.length _ rfl cD.2.2.2.1 _ (.int .i64 (-1-xt.f)) rfl (Maps.keyOf_int_mk Tryz.underlying3 HWF.out) ?_;rw[HHAS.out];have uB:=cD.abides (bA (bW _) (.cells #[] 144));have rE:=uB.2.2.1.cell)
    | (gi_at_mapUpdate;refine wpListIn_mapUpdate_own _ rfl _ _ _ 143 rfl 3 144 (Maps.int_keyed Tryz.underlying3) Tryz.underlying143 _ (w.heap.size+1+1) acc.length _ rfl uB.2.2.2.1 (by unfold maxLen;omega) _ _ (.int .i64 (-1-xt.f)) rfl rfl (Maps.keyOf_int_mk Tryz.underlying3 HWF.out) _ [] unitElem_mk ?_;intro W4 nQ nR;obtain⟨m1,m2,m3,m4⟩:=b3S uB nR;have rF:=m1.cell)
    | (gi_at_builtin;refine wpListIn_append_own _ rfl _ _ 79 rfl (w.heap.size+5) 3 i0 (.int .i64 0) 1 8 Tryz.underlying79 bF bZ cA eN rfl (by decide) _ _ _ rfl (m2.alloc _) ⟨W4.heap.size,0,none⟩ 1 1 [.int .i64 (-1-xt.f)] rfl rfl (cell_one_new _ _ _) (by simp[Value.oneCell']) (by unfold maxLen;omega) (by omega) (by simp;omega) ?_;intro v' w5 iO sO _;obtain⟨g',cap',rfl⟩:=ownsRow_succ iO;obtain⟨r1,r2,r3,r4⟩:=b5z uB nQ nR iO sO;have hc5:=r1.cell;have hf5:=r1.frozen))
    have hW3:Below W.heap.size W (W2.alloc (.cells #[] 144)):=bA (bN kP gL) _;refine⟨(B4 hW3 _).trans ?_,(KpT.of_below hwW hW3).trans r3,.slice (some ⟨g',0,none⟩) (acc.length+1) cap',?_⟩
    ·first | exact r2 | (rw[kC];exact r2)
    ·first
      | (rw[HS2.out];exact r4)
      | (rw[show List.map Tr.t (pre++[⟨xt,xa,xn,xc⟩])=List.map Tr.t pre++[xt] by simp,HS2.out];exact r4)
  ·have HS2:Hid (K3 (List.map Tr.t pre++[xt])=acc):=by show _=_;rw[HS.out,a6Y,if_neg hq]
   have HQ:=hid hq
   gi_wp2_with (refine⟨trivial,?_⟩;gi_at_call 103;refine(CallsIn.inRound l (callsIn_wide.2 (b7W HQ.out _ _ _ _))).mono ?_;rintro e W1 ⟨rfl,kP⟩)
   refine⟨B4 kP _,KpT.of_below hwW kP,v,?_⟩
   first
    | (rw[HS2.out];exact hI.abides kP)
    | (rw[show List.map Tr.t (pre++[⟨xt,xa,xn,xc⟩])=List.map Tr.t pre++[xt] by simp,HS2.out];exact hI.abides kP)
 case done =>
  rintro D xs W hD hS ⟨v,hI⟩ hK;obtain⟨h1,h2,h3,h4,h5,h6⟩:=hI;have hc:=h1.cell
  gi_wp2
  refine⟨by simp,.inl ⟨_,_,rfl,run_takeDeferred hK,?_⟩⟩;refine⟨_,results_tmp rfl _ _ _,v,rfl,?_,?_⟩
  ·rw[<-hS];exact r5 (ownsRow_putObj h2 _ hK rfl) (by omega)
  ·exact h5.trans (F2 _ (by omega) hK rfl).1
theorem b8c{U:Nat->Prop}{t:Tm}{a:Option Addr}{n c:Nat}{w:World}(h:Tat U w t a n c)(hm:t.size<=90000000000) :
  Calls Tryz.prog 75 #[.agg #[.int .i64 t.f,.slice a n c]] w λe W'=>∃va vc,e=.returned (.slice va (K3 t.flat).length vc)/\Pr.ok (λb=>w.heap.size<=b) W' ⟨va,(K3 t.flat).length,vc,K3 t.flat⟩/\Below w.heap.size w W':=by
 refine Calls.mono (callsIn_wide.1 (c1d t a n c w h hm)) ?_;rintro e W' ⟨v,rfl,ho,hb⟩;obtain⟨va,vc,rfl,e2,e3,e4,e5⟩:=J7 ho;refine⟨va,vc,rfl,⟨rfl,e2,e3,e4,?_⟩,hb⟩;rcases e5 with h | ⟨b,off,ha,kA,hc⟩
 ·exact .inl h
 ·refine .inr ⟨b,off,ha,?_,kA,hc⟩;subst ha;rcases ho.2 with⟨h3,_⟩ | ⟨g,cap,cur,h3,hb',_⟩
  ·cases h3
  ·cases h3;exact hb'
def Tm.wt:Tm->Nat
 | ⟨_,l⟩=>1+(l.map Tm.wt).sum
def Tm.wts(l:List Tm):Nat:=(l.map Tm.wt).sum
theorem b4L:Tm.wts []=0:=rfl
theorem a1N(t:Tm)(ts:List Tm):Tm.wts (t::ts)=t.wt+Tm.wts ts:=by simp[Tm.wts]
theorem Tm.wt_eq(t:Tm):t.wt=1+Tm.wts t.l:=by cases t with | mk f l=>rw[Tm.wt];rfl
theorem Tm.wts_mem{l:List Tm}{s:Tm}(h:s∈l):s.wt<=Tm.wts l:=by
 induction l with
 | nil=>cases h
 | cons y ys ih =>
  rw[a1N];rcases mem_cons.1 h with rfl | h
  ·omega
  ·have:=ih h;omega
theorem Tm.wts_len(l:List Tm):l.length<=Tm.wts l:=by
 induction l with
 | nil=>simp[b4L]
 | cons y ys ih=>rw[a1N,y.wt_eq,length_cons];omega
theorem Tm.size_wt(t:Tm):t.size<=t.wt:=by
 induction t using Tm.ind with
 | h f l ih =>
  rw[Tm.size_eq,Tm.wt_eq];have h1:∀l:List Tm,(∀s∈l,s.size<=s.wt)->(l.flatMap Tm.flat).length<=Tm.wts l:=by
   intro l hl
   induction l with
   | nil=>simp
   | cons y ys ih2 =>
    have h1:=hl y (by simp);unfold Tm.size at h1;rw[flatMap_cons,length_append,a1N];have:=ih2 (λs hs=>hl s (mem_cons_of_mem _ hs));omega
  unfold Tm.ps;split
  ·simp
  ·have:=h1 l ih;show 1+(l.flatMap Tm.flat).length<=1+Tm.wts l;omega
theorem b6E{w:World}{b:Nat}{x y:Value}{t:TypeId}{fl:Nat×Nat}(h:w.heap[b]?=some (.cells #[x,y] t fl)):w.cell? ⟨b,0,none⟩=some x/\w.cell? ⟨b,1,none⟩=some y:=by
 constructor<;>simp[World.cell?,h]
end
def b3r:List (Int->Int->Int)->Int->Int->Int
 | [],most,_=>most
 | c::cs,most,deep=>if most<0 then most else b3r cs (c most deep) deep
def q8:Tm->Int->Int->Int
 | ⟨f,l⟩,most,deep=>if deep<0\/f < -1000\/1000<f\/20<l.length then -1 else b3r (l.map λs=>λm d=>q8 s m d) (most-1) (deep-1)
def J9(l:List Tm)(most deep:Int):Int:=b3r (l.map λs=>λm d=>q8 s m d) most deep
theorem a2H(f:Int)(l:List Tm)(most deep:Int):q8 ⟨f,l⟩ most deep=if deep<0\/f < -1000\/1000<f\/20<l.length then -1 else J9 l (most-1) (deep-1):=by rw[q8];rfl
theorem a1f(most deep:Int):J9 [] most deep=most:=rfl
theorem P5(t:Tm)(ts:List Tm)(most deep:Int):J9 (t::ts) most deep=if most<0 then most else J9 ts (q8 t most deep) deep:=rfl
theorem a4P(l:List Tm){m:Int}(d:Int)(h:m<0):J9 l m d=m:=by
 cases l with
 | nil=>rw[a1f]
 | cons t ts=>rw[P5,if_pos h]
theorem a1v(t:Tm):∀most deep,0<=most -> -1<=q8 t most deep/\q8 t most deep<most/\(0<=q8 t most deep->q8 t most deep+t.wt<=most):=by
 induction t using Tm.ind with
 | h f l ih =>
  intro most deep hm;rw[a2H];split
  ·exact⟨by omega,by omega,by omega⟩
  ·have:∀(l:List Tm) (m d:Int),(∀t∈l,∀most deep,0<=most -> -1<=q8 t most deep/\q8 t most deep<most/\(0<=q8 t most deep->q8 t most deep+t.wt<=most)) -> -1<=m -> -1<=J9 l m d/\J9 l m d<=m/\(0<=J9 l m d->J9 l m d+Tm.wts l<=m):=by
    intro l
    induction l with
    | nil=>intro m d _ h;rw[a1f,b4L];exact⟨h,Int.le_refl _,by omega⟩
    | cons y ys ih2 =>
     intro m d hl h;rw[P5,a1N];split
     ·exact⟨by omega,by omega,by omega⟩
     ·have h1:=hl y (by simp) m d (by omega);have h2:=ih2 (q8 y m d) d (λs hs=>hl s (mem_cons_of_mem _ hs)) h1.1;refine⟨h2.1,by omega,λh3=>?_⟩;have:=h2.2.2 h3;have:=h1.2.2 (by omega);omega
   have h1:=this l (most-1) (deep-1) ih (by omega);refine⟨h1.1,by omega,λh2=>?_⟩;have:=h1.2.2 h2;rw[Tm.wt_eq];show _+((1+Tm.wts l:Nat):Int)<=_;omega
set_option maxRecDepth 100000 in
set_option maxHeartbeats 1000000 in
theorem b6k:∀(t:Tm) (U:Nat->Prop) (a:Option Addr) (n c:Nat) (most deep:Int) (w:World),Tat U w t a n c->0<=most->most<=60 -> -1<=deep->deep<=20 ->
  Calls Tryz.prog 25 #[.agg #[.int .i64 t.f,.slice a n c],.int .i64 most,.int .i64 deep] w λe w'=>e=.returned (.int .i64 (q8 t most deep))/\Below w.heap.size w w':=by
 intro t
 induction t using Tm.ind with
 | h f l ih =>
  intro U a n c most deep w ht cF lQ dM bY;obtain⟨w1,dC⟩:∃w1,w1=w.alloc (.cells #[.int .i64 f,.slice a n c] 50):=⟨_,rfl⟩
  have b1:Below w.heap.size w w1:=by rw[dC];exact bA (bW _) _
  have x1:w1.heap[w.heap.size]?=some (.cells #[.int .i64 f,.slice a n c] 50 (0,0)):=by rw[dC];exact World.alloc_heap_new _ _
  have hl:Las U w1 l a n c:=ht.las.bw b1;have HL:=hid hl.len;have hn:n<=9223372036854775807:=by have:=HL.out;unfold maxLen at this;omega
  have HX:Hid (∀V,Below w1.heap.size w1 V->V.cell? ⟨w.heap.size,0,none⟩=some (.int .i64 f)/\V.cell? ⟨w.heap.size,1,none⟩=some (.slice a n c)):=λV hb=>b6E ((hb.block _ (Array.getElem?_eq_some_iff.1 x1).1).trans x1);have HLs:Hid (∀V,Below w1.heap.size w1 V->Las U V l a n c):=λV hb=>hl.bw hb;have HI:=hid ih;have HW:=hid dC;have HD:Hid (q8 (.mk f l) most deep=if deep<0\/f < -1000\/1000<f\/20<l.length then -1 else J9 l (most-1) (deep-1)):=by show _=_;rw[a2H]
  obtain⟨z,hz⟩:∃z,z=q8 (.mk f l) most deep:=⟨_,rfl⟩
  rw[<-hz]at HD |-;obtain⟨c1,c2⟩:=HX.out w1 (bW _);clear hz dC x1 hl ht ih;simp only;by_cases hbad:deep<0\/f < -1000\/1000<f\/20<n
  ·have HE:Hid (z = -1):=by show _=_;rw[HD.out,if_pos (by have:=HL.out.1;omega)]
   rw[HE.out];have HB0:Hid (Below w.heap.size w w1):=b1;by_cases q1:deep<0
   ·go_enter Tryz.func25,Tryz.ntmps25
    go_wp2
    go_ret
    exact⟨rfl,bA (bW _) _⟩
   ·by_cases q2:f < -1000
    ·go_enter Tryz.func25,Tryz.ntmps25
     go_wp2
     go_ret
     exact⟨rfl,bA (bW _) _⟩
    ·by_cases q3:1000<f
     ·go_enter Tryz.func25,Tryz.ntmps25
      go_wp2
      go_ret
      exact⟨rfl,bA (bW _) _⟩
     ·have q4:20<n:=by omega
      go_enter Tryz.func25,Tryz.ntmps25
      go_wp2
      go_ret
      exact⟨rfl,bA (bW _) _⟩
  ·have HE:Hid (z=J9 l (most-1) (deep-1)):=by show _=_;rw[HD.out,if_neg (by have:=HL.out.1;omega)]
   have q1:¬ deep<0:=by omega
   have q2:¬ f < -1000:=by omega
   have q3:¬ 1000<f:=by omega
   have q4:¬ 20<n:=by omega
   clear hbad HD
   go_enter Tryz.func25,Tryz.ntmps25
   go_wp2_with fail
   rw[<-HW.out]
   go_loopw [1,7] (λu i wr=>∃(k:Nat) (m:Int),u=.int .i64 m/\i=.int .i64 (k:Int)/\k<=n /\ -1<=m/\m<=60/\Below w1.heap.size w1 wr/\J9 (l.drop k) m (deep-1)=z) (λu i _=>n-(intOf i).toNat)
   case atStart=>exact⟨0,most-1,rfl,rfl,by omega,by omega,by omega,bW _,by rw[HE.out];simp⟩
   case round =>
    obtain⟨k,m,rfl,rfl,hk,hm3,hm4,cM,lI⟩:=hrel;have HSM:=hid lI;obtain⟨d1,d2⟩:=HX.out wr cM;clear lI c1 c2;by_cases kA:k<n
    ·by_cases pU:0<=m
     ·obtain⟨b,off,s,a',n',c',rfl,hU,sK,hs,hT,e1,e2⟩:=(HLs.out wr cM).at kA;have HS:=hid hs;have bR:=a1v s m (deep-1) pU;have HR:Hid (J9 (l.drop (k+1)) (q8 s m (deep-1)) (deep-1)=z):=by show _=_;rw[<-HSM.out,Q4 HS.out,P5,if_neg (by omega)]
      have HCall:Hid (Calls Tryz.prog 25 #[.agg #[.int .i64 s.f,.slice a' n' c'],.int .i64 m,.int .i64 (deep-1)] wr λe w'=>e=.returned (.int .i64 (q8 s m (deep-1)))/\Below wr.heap.size wr w'):=HI.out s (mem_of_getElem? HS.out) U a' n' c' m (deep-1) wr hT pU hm4 (by omega) (by omega);obtain⟨y,hy⟩:∃y,y=q8 s m (deep-1):=⟨_,rfl⟩
      rw[<-hy]at HR HCall bR;clear hs hT hy
      go_wp2_with (go_at_call 25;refine HCall.out.mono ?_;rintro e w2 ⟨rfl,gL⟩)
      go_roundw
      case rel=>exact⟨k+1,y,rfl,by go_num,by omega,by omega,by omega,bN cM gL,HR.out⟩
      case measure=>simp[intOf];omega
     ·have HZ:Hid (z=m):=by show _=_;rw[<-HSM.out,a4P _ _ (by omega)]
      go_wp2
      go_ret
      exact⟨by rw[HZ.out];rfl,bN b1 cM⟩
    ·have HZ:Hid (z=m):=by show _=_;rw[<-HSM.out,List.drop_eq_nil_of_le (by have:=HL.out.1;omega),a1f]
     go_wp2
     go_ret
     exact⟨by rw[HZ.out];rfl,bN b1 cM⟩
def Tm.rng:Tm->Prop
 | ⟨f,l⟩=>(-9223372036854775808<=f/\f<=9223372036854775807)/\∀t∈l,Tm.rng t
theorem Tm.rng_iff(t:Tm):t.rng↔(-9223372036854775808<=t.f/\t.f<=9223372036854775807)/\∀s∈t.l,s.rng:=by cases t;rw[Tm.rng]
theorem a7K{U:Nat->Prop}{w:World}:∀{l:List Tm} {xs:List Value},(∀t∈l,∀a n c,Tat U w t a n c->Rep (λb _=>U b) w t.cv [.int .i64 t.f,.slice a n c])->Ecs U w l xs->Sq ((l.map Tm.cv).map λc=>Rep (λb _=>U b) w c) xs
 | [],xs,_,h=>Ecs.nil_iff.1 h
 | t::ts,xs,ht,h=>by
  obtain⟨a,n,c,ys,e,h1,h2⟩:=Ecs.cons_iff.1 h;exact⟨[.int .i64 t.f,.slice a n c],ys,by rw[e];rfl,ht t (by simp) a n c h1,a7K (λs hs=>ht s (mem_cons_of_mem _ hs)) h2⟩
theorem b0G{U:Nat->Prop}{w:World}{a:Option Addr}{xs:List Value}(h:Cu U w a xs):At (λb _=>U b) w a xs:=by
 rcases h with h | ⟨b,off,h1,h2,h3,h4⟩
 ·exact .inl h
 ·exact .inr ⟨b,off,h1,λi hi=>⟨h2,h4 i hi⟩⟩
theorem b2B{U:Nat->Prop}{w:World}:∀{t:Tm} {a:Option Addr} {n c:Nat},Tat U w t a n c->Rep (λb _=>U b) w t.cv [.int .i64 t.f,.slice a n c]:=by
 intro t
 induction t using Tm.ind with
 | h f l ih =>
  intro a n c h;obtain⟨_,h2,h3,h4,h5,xs,h6,h7⟩:=a0L.1 h;rw[Tm.cv_eq];refine J0.2 ⟨[.int .i64 f],[.slice a n c],rfl,a8i _ _,[.slice a n c],[],rfl,N7.2 ⟨a,n,c,rfl,by rw[length_map];exact h2,h3,h4,h5,xs,b0G h6,a7K (λt ht a n c=>ih t ht) h7⟩,rfl⟩
theorem a9W{U:Nat->Prop}{w:World}{t:Tm}{a:Option Addr}{n c:Nat}(h:Tat U w t a n c):VRep (λb _=>U b) w t.cw (.agg #[.int .i64 t.f,.slice a n c]):=by
 have:=b2B h;rw[Tm.cv_eq]at this;exact⟨_,rfl,this⟩
theorem a7h{U:Nat->Nat->Prop}{w:World}:∀{l:List Tm} {xs:List Value},(∀t∈l,∀ys,Rep U w t.cv ys->∃a n c,ys=[.int .i64 t.f,.slice a n c]/\Tat (λ_=>True) w t a n c)->Sq ((l.map Tm.cv).map λc=>Rep U w c) xs->Ecs (λ_=>True) w l xs
 | [],xs,_,h=>Ecs.nil_iff.2 h
 | t::ts,xs,ht,⟨ys,zs,e,h1,h2⟩=>by
  obtain⟨a,n,c,e1,h3⟩:=ht t (by simp) ys h1;exact Ecs.cons_iff.2 ⟨a,n,c,zs,by rw[e,e1];rfl,h3,a7h (λs hs=>ht s (mem_cons_of_mem _ hs)) h2⟩
theorem b2z{U:Nat->Nat->Prop}{w:World}:∀{t:Tm} {xs:List Value},t.rng->Rep U w t.cv xs->∃a n c,xs=[.int .i64 t.f,.slice a n c]/\Tat (λ_=>True) w t a n c:=by
 intro t
 induction t using Tm.ind with
 | h f l ih =>
  intro xs hr h;rw[Tm.rng_iff]at hr;rw[Tm.cv_eq]at h;obtain⟨y1,y2,e1,h1,y3,y4,e2,h2,h3⟩:=J0.1 h;obtain⟨rfl,_⟩:=L6.1 h1;obtain⟨a,n,c,rfl,g2,g3,g4,g5,zs,g6,g7⟩:=N7.1 h2;have h3:y4=[]:=h3;subst h3;refine⟨a,n,c,by rw[e1,e2];rfl,a0L.2 ⟨hr.1,by rw[length_map]at g2;exact g2,g3,g4,g5,zs,?_,a7h (λt ht ys hy=>ih t ht (hr.2 t ht) hy) g7⟩⟩;rcases g6 with g6 | ⟨b,off,g6,g8⟩
  ·exact .inl g6
  ·by_cases hz:zs=[]
   ·exact .inl hz
   ·refine .inr ⟨b,off,g6,trivial,?_,λi hi=>(g8 i hi).2⟩;have gO:0<zs.length:=List.length_pos_iff.2 hz;have:=(g8 0 gO).2;rw[getElem?_eq_getElem gO]at this;exact World.block_lt_of_cell? w _ this
theorem y7{U:Nat->Nat->Prop}{w:World}{t:Tm}{v:Value}(hr:t.rng)(h:VRep U w t.cw v):∃a n c,v=.agg #[.int .i64 t.f,.slice a n c]/\Tat (λ_=>True) w t a n c:=by
 obtain⟨xs,h1,h2⟩:∃xs:List Value,v=.agg xs.toArray/\Rep U w t.cw xs:=h;rw[<-Tm.cv_eq]at h2;obtain⟨a,n,c,h3,h4⟩:=b2z hr h2;exact⟨a,n,c,by rw[h1,h3],h4⟩
theorem b1E(W:World){t s:Tm}(ht:t.rng)(hs:s.rng):AFun Tryz.prog W 76 [t.cw,s.cw] (.val (.b (y0 t s))):=by
 refine⟨x0 Tryz.func76 rfl rfl,.inl rfl,rfl,?_⟩;rintro U w vs hW ⟨u1,us1,rfl,h1,u2,us2,rfl,h2,h3⟩;have h3:us2=[]:=h3;subst h3;obtain⟨a,n,c,rfl,h4⟩:=y7 ht h1;obtain⟨a',n',c',rfl,h5⟩:=y7 hs h2;refine(b7b t s a a' n c n' c' w h4 h5).mono ?_;rintro e w' ⟨rfl,hb⟩;exact⟨_,rfl,o0.2 ⟨rfl,rfl⟩,hb⟩
theorem b1s(W:World){t:Tm}(ht:t.rng)(hm:t.size<=4611686018427387904):AFun Tryz.prog W 52 [t.cw] (.val (.i (t.size:Int))):=by
 refine⟨x0 Tryz.func52 rfl rfl,.inl rfl,rfl,?_⟩;rintro U w vs hW ⟨u1,us1,rfl,h1,h3⟩;have h3:us1=[]:=h3;subst h3;obtain⟨a,n,c,rfl,h4⟩:=y7 ht h1;refine(b7w h4 hm).mono ?_;rintro e w' ⟨rfl,hb⟩;exact⟨_,rfl,o0.2 ⟨rfl,rfl⟩,hb⟩
theorem b3P(W:World){t:Tm}(ht:t.rng):AFun Tryz.prog W 88 [t.cw] (.val (.i (X5 t.flat))):=by
 refine⟨x0 Tryz.func88 rfl rfl,.inl rfl,rfl,?_⟩;rintro U w vs hW ⟨u1,us1,rfl,h1,h3⟩;have h3:us1=[]:=h3;subst h3;obtain⟨a,n,c,rfl,h4⟩:=y7 ht h1;refine(c1N h4).mono ?_;rintro e w' ⟨rfl,hb⟩;exact⟨_,rfl,o0.2 ⟨rfl,rfl⟩,hb⟩
theorem M3(W:World){t:Tm}(ht:t.rng)(hm:t.size<=90000000000):AFun Tryz.prog W 98 [t.cw] (.val t.strip.cw):=by
 refine⟨x0 Tryz.func98 rfl rfl,.inl rfl,rfl,?_⟩;rintro U w vs hW ⟨u1,us1,rfl,h1,h3⟩;have h3:us1=[]:=h3;subst h3;obtain⟨a,n,c,rfl,h4⟩:=y7 ht h1;refine(b6y t a n c w h4 hm).mono ?_;rintro e w' h;obtain⟨a',n',c',rfl,h5,hb⟩:=h.tat h4.wf;refine⟨_,rfl,?_,hb⟩;have:=a9W h5;rw[Tm.strip_f]at this;exact this.mono λb o h => .inr h
theorem b4Q{U:Nat->Nat->Prop}{w:World}:∀(l:List Int),Sq ((l.map CV.i).map λc=>Rep U w c) (l.map (Value.int .i64))
 | []=>rfl
 | z::l=>⟨[.int .i64 z],l.map (Value.int .i64),rfl,a8i _ _,b4Q l⟩
theorem b0Q(W:World){t:Tm}(ht:t.rng)(hm:t.size<=90000000000):AFun Tryz.prog W 75 [t.cw] (.val (.lst ((K3 t.flat).map CV.i))):=by
 refine⟨x0 Tryz.func75 rfl rfl,.inl rfl,rfl,?_⟩;rintro U w vs hW ⟨u1,us1,rfl,h1,h3⟩;have h3:us1=[]:=h3;subst h3;obtain⟨a,n,c,rfl,h4⟩:=y7 ht h1;refine(b8c h4 hm).mono ?_;rintro e w' ⟨va,vc,rfl,hp,hb⟩;obtain⟨p1,p2,p3,p4,p5⟩:=hp;refine⟨_,rfl,l5.2 ⟨va,_,vc,rfl,by simp,p2,p3,p4,(K3 t.flat).map (Value.int .i64),?_,b4Q _⟩,hb⟩;exact(b0G p5).keep λb o v h1 h2=>⟨.inr h1,h2⟩
theorem a6J(W:World)(t:Tm)(most deep:Int)(ht:t.rng)(h0:0<=most)(h1:most<=60)(h2 : -1<=deep)(h3:deep<=20):AFun Tryz.prog W 25 [t.cw,.i most,.i deep] (.val (.i (q8 t most deep))):=by
 refine⟨x0 Tryz.func25 rfl rfl,.inl rfl,rfl,?_⟩;rintro U w vs hW ⟨u1,us1,rfl,g1,u2,us2,rfl,g2,u3,us3,rfl,g3,g4⟩;have g4:us3=[]:=g4;subst g4;obtain⟨a,n,c,rfl,h4⟩:=y7 ht g1;obtain⟨rfl,_⟩:=o0.1 g2;obtain⟨rfl,_⟩:=o0.1 g3;refine(b6k t _ a n c most deep w h4 h0 h1 h2 h3).mono ?_;rintro e w' ⟨rfl,hb⟩;exact⟨_,rfl,o0.2 ⟨rfl,rfl⟩,hb⟩
structure Bd where
 v:Int
 t:Tm
noncomputable abbrev Bd.cw(b:Bd):CV:=.row [.i b.v,b.t.cw]
noncomputable def Bd.cv(b:Bd):CV:=b.cw
theorem Bd.size_all(l:List Bd):∀c∈l.map Bd.cv,c.size=3:=by
 intro c hc;obtain⟨b,_,rfl⟩:=mem_map.1 hc;rfl
theorem Bd.map_at{l:List Bd}{i:Nat}{b:Bd}(h:l[i]?=some b):(l.map Bd.cv)[i]?=some b.cw:=by rw[List.getElem?_map,h];rfl
def d9:List Bd->Int->Option Tm
 | [],_=>none
 | b::l,v=>if b.v=v then some b.t else d9 l v
theorem C6{l:List Bd}{v:Int}(h:∀b∈l,b.v≠v):d9 l v=none:=by
 induction l with
 | nil=>rfl
 | cons b l ih =>
  rw[d9,if_neg (h b (by simp)),ih (λx hx=>h x (mem_cons_of_mem _ hx))]
theorem b8s{l:List Bd}{v:Int}{k:Nat}{b:Bd}(hb:l[k]?=some b)(hv:b.v=v)(h:∀i c,i<k->l[i]?=some c->c.v≠v):d9 l v=some b.t:=by
 induction l generalizing k with
 | nil=>simp at hb
 | cons x l ih =>
  cases k with
  | zero=>simp at hb;subst hb;rw[d9,if_pos hv]
  | succ k =>
   rw[d9,if_neg (h 0 x (by omega) rfl)];exact ih (k:=k) (by simpa using hb) (λi c hi hc=>h (i+1) c (by omega) (by simpa using hc))
def n7(v:Int):Tm:=⟨-1-v,[]⟩
def f0(l:List Bd)(v:Int):Tm:=(d9 l v).getD (n7 v)
def a8(img:Int->Tm):Tm->Tm
 | ⟨f,l⟩=>if f<0 then(img (-1-f)).strip else⟨f,l.map (a8 img)⟩
theorem i9{img:Int->Tm}{t:Tm}(h:t.f<0):a8 img t=(img (-1-t.f)).strip:=by cases t;rw[a8,if_pos h]
theorem c9{img:Int->Tm}{t:Tm}(h:¬ t.f<0):a8 img t=⟨t.f,t.l.map (a8 img)⟩:=by cases t;rw[a8,if_neg h]
def Tm.sm:Tm->Prop
 | ⟨f,l⟩=>(-1000<=f/\f<=1000)/\∀t∈l,Tm.sm t
theorem Tm.sm_iff(t:Tm):t.sm↔(-1000<=t.f/\t.f<=1000)/\∀s∈t.l,s.sm:=by cases t;rw[Tm.sm]
theorem b7P(t:Tm):∀most deep,0<=q8 t most deep->t.sm:=by
 induction t using Tm.ind with
 | h f l ih =>
  intro most deep h;rw[a2H]at h;split at h
  ·omega
  ·rename_i hc;refine(Tm.sm_iff _).2 ⟨⟨by show -1000<=f;omega,by show f<=1000;omega⟩,?_⟩;have:∀(l:List Tm) (m d:Int),(∀t∈l,∀most deep,0<=q8 t most deep->t.sm)->0<=J9 l m d->∀t∈l,t.sm:=by
    intro l
    induction l with
    | nil=>intro m d _ _ t ht;cases ht
    | cons y ys ih2 =>
     intro m d hl h t ht;rw[P5]at h;split at h
     ·omega
     ·have hy:0<=q8 y m d:=by
       rcases Int.lt_or_le (q8 y m d) 0 with h1 | h1
       ·rw[a4P ys d h1]at h;omega
       ·exact h1
      rcases mem_cons.1 ht with rfl | ht
      ·exact hl t (by simp) m d hy
      ·exact ih2 (q8 y m d) d (λs hs=>hl s (mem_cons_of_mem _ hs)) h t ht
   exact this l _ _ ih h
theorem Tm.sm_rng{t:Tm}(h:t.sm):t.rng:=by
 induction t using Tm.ind with
 | h f l ih =>
  obtain⟨h1,h2⟩:=(Tm.sm_iff _).1 h;exact(Tm.rng_iff _).2 ⟨by simp only at h1 |-;omega,λs hs=>ih s hs (h2 s hs)⟩
theorem Tm.wt_ok{t:Tm}(h:t.wt<=1000000):t.ok:=by
 induction t using Tm.ind with
 | h f l ih =>
  rw[Tm.wt_eq]at h;simp only at h;have:=Tm.wts_len l;exact(Tm.ok_iff _).2 ⟨by simp only;omega,λs hs=>ih s hs (by have:s.wt<=Tm.wts l:=Tm.wts_mem hs;omega)⟩
theorem Tm.sm_flat{t:Tm}(h:t.sm):∀s∈t.flat,-1000<=s.f/\s.f<=1000:=by
 induction t using Tm.indp with
 | h t ih =>
  intro s hs;rw[Tm.flat_eq]at hs;rcases mem_cons.1 hs with rfl | hs
  ·exact((Tm.sm_iff _).1 h).1
  ·obtain⟨u,hu,hs⟩:=List.mem_flatMap.1 hs;exact ih u hu (((Tm.sm_iff _).1 h).2 u (Tm.ps_mem hu).1) s hs
theorem Tm.strip_rng{t:Tm}(h:t.rng):t.strip.rng:=by
 induction t using Tm.indp with
 | h t ih =>
  obtain⟨h1,h2⟩:=(Tm.rng_iff _).1 h;refine(Tm.rng_iff _).2 ⟨by rw[Tm.strip_f];exact h1,λs hs=>?_⟩;rw[Tm.strip_l]at hs;obtain⟨u,hu,rfl⟩:=mem_map.1 hs;exact ih u hu (h2 u (Tm.ps_mem hu).1)
theorem Tm.strip_ok{t:Tm}(h:t.ok):t.strip.ok:=by
 induction t using Tm.indp with
 | h t ih =>
  obtain⟨h1,h2⟩:=(Tm.ok_iff _).1 h;refine(Tm.ok_iff _).2 ⟨?_,λs hs=>?_⟩
  ·rw[Tm.strip_l,length_map];unfold Tm.ps;split
   ·simp
   ·exact h1
  ·rw[Tm.strip_l]at hs;obtain⟨u,hu,rfl⟩:=mem_map.1 hs;exact ih u hu (h2 u (Tm.ps_mem hu).1)
theorem b0F{f:Int}(h1 : -9223372036854775808<=f)(h2:f<=9223372036854775807):(Tm.mk f []).rng:=(Tm.rng_iff _).2 ⟨⟨h1,h2⟩,λs hs=>by cases hs⟩
theorem b2D(W:World)(t:Tm):AFun Tryz.prog W 103 [t.cw] (.val (.b (decide (t.f<0)))):=by
 refine b9 (rs:=[.b (decide (t.f<0))]) Tryz.func103 Tryz.ntmps103 rfl rfl rfl rfl ?_;intro w U hW;refine qz<|nc zd<|nc ze ?_;refine qz<|nc zg<|nc zh<|nc zi<|nc ze ?_;exact aT ⟨.inr rfl,rfl⟩
theorem b5u(W:World)(t:Tm):AFun Tryz.prog W 134 [t.cw] (.val (.lst (t.ps.map Tm.cv))):=by
 refine b9 (rs:=[.lst (t.ps.map Tm.cv)]) Tryz.func134 Tryz.ntmps134 rfl rfl rfl rfl ?_;intro w U hW;refine qz<|nc zd<|nc ze ?_;refine aS<|qz<|nc zj<|nc (zk (z:=b2D w t)) ?_;refine aC rfl (λhc=>?_) (λhc=>aK ?_)
 ·have hf:t.f<0:=by simpa using hc
  rw[Tm.ps_of_var hf];refine qz<|nc ze ?_;exact aT (And.intro (.inr rfl) rfl)
 ·have hf:¬ t.f<0:=by simpa using hc
  rw[Tm.ps_of_sym (by omega)];refine qz<|nc zg<|nc zh<|nc ze ?_;exact aT (And.intro (.inr rfl) rfl)
def Tm.pa(t:Tm)(n:Int):Option Tm:=if 0<=n then t.ps[n.toNat]? else none
theorem Tm.pa_some(t:Tm)(n:Int):(t.pa n).isSome=(decide (n>=0)&&decide (n<(t.ps.map Tm.cv).length)):=by
 unfold Tm.pa;rw[length_map];by_cases h:0<=n
 ·rw[if_pos h,show decide (n>=0)=true by simpa using h,Bool.true_and];by_cases h2:n<t.ps.length
  ·rw[getElem?_eq_getElem (by omega)];simp[h2]
  ·rw[List.getElem?_eq_none (by omega)];simp[h2]
 ·rw[if_neg h,show decide (n>=0)=false by simpa using h];rfl
theorem a3l(W:World)(t:Tm)(n:Int):AFun Tryz.prog W 129 [t.cw,.i n] (.val (.b (t.pa n).isSome)):=by
 rw[Tm.pa_some];refine b9 (rs:=[.b (decide (n>=0)&&decide (n<(t.ps.map Tm.cv).length))]) Tryz.func129 Tryz.ntmps129 rfl rfl rfl rfl ?_;intro w U hW;refine qz<|nc zd<|nc ze ?_;by_cases h:n>=0
 ·have hg:decide (n>=0)=true:=by simpa using h
  refine qz<|nc zl<|nc zn<|nc zl<|nc (zl (p:=gb))<|nc (zj (p:=gb))<|nc (zk (p:=gb) (z:=b5u w t))<|nc (zo (r:=gb))<|nc (zi (r:=gb))<|nc zp<|nc ze ?_;refine aT (And.intro (.inr rfl) ?_);rw[hg,Bool.true_and];rfl
 ·have hg:decide (n>=0)=false:=by simpa using h
  refine qz<|nc zl<|nc zn<|nc zl<|nc zq<|nc zq<|nc zq<|nc zq<|nc zq<|nc zr<|nc ze ?_;refine aT (And.intro (.inr rfl) ?_);rw[hg,Bool.false_and];rfl
set_option maxHeartbeats 1000000 in
theorem L7(W:World)(l:List Tm)(hl:l.length<=1000000)(hr:∀t∈l,t.rng/\t.size<=90000000000):AFun Tryz.prog W 131 [.lst (l.map Tm.cv)] (.val (.lst ((l.map Tm.strip).map Tm.cv))):=by
 have kC:=Tm.size_all l;refine b9 (rs:=[.lst ((l.map Tm.strip).map Tm.cv)]) Tryz.func131 Tryz.ntmps131 rfl rfl rfl rfl ?_;intro w U hW;refine qz<|nc ze ?_;refine qz<|nc ze ?_;refine aS<|qz<|nc zl<|nc zo<|nc zl ?_;refine aB (n6 l.length (λk=>[(3,.own (.lst (((l.take k).map Tm.strip).map Tm.cv)) 200016),(200016,.tok 41 2),(6,.val (.lst (l.map Tm.cv))),(7,.val (.i (l.map Tm.cv).length)),(8,.val (.i k))])
  ((M9 3 200016 41 2 rfl rfl rfl rfl rfl rfl rfl).trans (a7 ⟨rfl,rfl,rfl,rfl,rfl,trivial⟩)) ?_)
 intro k hk;have yL:=Tm.size_all ((l.take k).map Tm.strip);refine qz<|nc zi ?_;refine aS<|aC rfl (λhc=>aK ?_) (λhc=>aE ?_)
 ·have kE:k<l.length:=by simp only[length_map,decide_eq_true_eq]at hc;omega
  clear hc;obtain⟨t,ht⟩:∃t,l[k]?=some t:=⟨l[k],getElem?_eq_getElem kE⟩
  have rG:=Tm.map_at ht;have lW:=hr t (mem_of_getElem? ht);refine aS<|aB<|qz<|nc (zt (H:=by assumption) (hz:=by first | assumption | exact sZ rfl | exact Tm.size_all _ | exact Bd.size_all _ | exact n8 _ | exact bys_size _ | exact Lt.size_all _))<|nc zu<|nc zw<|nc zx ?_;refine aR<|nc zl<|nc zj<|nc (zk (z:=M3 w lW.1 lW.2))<|nc zy<|nc zz<|nc ze ?_;refine aR<|nc zA<|nc zl ?_;refine⟨kE,Wk.trans (a7 (s':=[(3,.own (.lst (((l.take (k+1)).map Tm.strip).map Tm.cv)) 300016),(300016,.tok 41 2),(6,.val (.lst (l.map Tm.cv))),(7,.val (.i (l.map Tm.cv).length)),(8,.val (.i ((k+1:Nat):Int)))]) ⟨?_,rfl,rfl,rfl,rfl,trivial⟩) (B1 300016 200016 rfl rfl rfl rfl)⟩;rw[take_add_one,ht,map_append,map_append];simp only[Option.toList_some,map_cons,List.map_nil,Tm.cv_eq];rfl
 ·have kE:k=l.length:=by simp only[length_map,decide_eq_false_iff_not]at hc;omega
  subst kE;rw[List.take_length];refine qz<|nc zl<|nc ze ?_;exact aT (And.intro (.inr rfl) rfl)
def atP:List Int->Tm->Option Tm
 | [],t=>some t
 | k::ks,t=>(t.pa k).bind (atP ks)
theorem b2F(p q:List Int)(t:Tm):atP (p++q) t=(atP p t).bind (atP q):=by
 induction p generalizing t with
 | nil=>rfl
 | cons k ks ih =>
  rw[cons_append,atP,atP];cases t.pa k with
  | none=>rfl
  | some s=>exact ih s
theorem a6q{t s:Tm}{n:Int}(h:t.pa n=some s):s∈t.ps:=by
 unfold Tm.pa at h;split at h
 ·exact mem_of_getElem? h
 ·cases h
theorem a6j{t s:Tm}{n:Int}(h:t.pa n=some s):¬ t.f<0:=by
 intro hf;have:=a6q h;rw[Tm.ps_of_var hf]at this;cases this
theorem c1P{t s:Tm}{n:Int}(h:t.pa n=some s):s.size<=t.size:=by
 have hm:=a6q h;have h1:=Tm.size_eq t;have:=w7 Tm.flat hm;have h2:s.size=s.flat.length:=rfl;omega
theorem a9r:∀{p:List Int} {t s:Tm},atP p t=some s->t.rng->s.rng/\s.size<=t.size
 | [],t,s,h,hr=>by cases h;exact⟨hr,Nat.le_refl _⟩
 | k::ks,t,s,h,hr=>by
  rw[atP]at h;cases hp:t.pa k with
  | none=>rw[hp]at h;cases h
  | some u =>
   rw[hp]at h;have hu:=((Tm.rng_iff _).1 hr).2 u (Tm.ps_mem (a6q hp)).1;have h2:=a9r (p:=ks) h hu;exact⟨h2.1,Nat.le_trans h2.2 (c1P hp)⟩
theorem a1U{U:Nat->Nat->Prop}{w:World}{a:Option Addr}{xs:List Value}(h:At U w a xs):Cs w a xs:=by
 rcases h with h | ⟨b,off,ha,hc⟩
 ·exact .inl h
 ·by_cases hz:xs=[]
  ·exact .inl hz
  ·refine .inr ⟨b,off,ha,?_,λi hi=>(hc i hi).2⟩;have gO:0<xs.length:=List.length_pos_iff.2 hz;have:=(hc 0 gO).2;rw[getElem?_eq_getElem gO]at this;exact World.block_lt_of_cell? w _ this
theorem a4g{w:World}{base:Nat}{e:TypeId}{size:Nat}{v:Value}{n:Nat}{xs:List Value}(h:w.ownsRow base e size v n xs) :
  ∃a c,v=.slice a n c/\n<=c/\c<=maxLen/\(a=none->n=0/\c=0)/\At (λb _=>base<=b) w a xs:=by
 have ho:=h;obtain⟨h1,h2⟩:=h;rcases h2 with⟨rfl,rfl⟩ | ⟨g,cap,cur,rfl,hb,hh,hn,hm,hs,ht⟩
 ·exact⟨none,0,rfl,by omega,by simp,λ_=>⟨rfl,rfl⟩,.inl (List.eq_nil_of_length_eq_zero (by omega))⟩
 ·refine⟨_,cap,rfl,hn,hm,(λh=>by cases h),.inr ⟨g,0,rfl,λi hi=>⟨hb,?_⟩⟩⟩;rw[show 0+i=i by omega];exact ho.cellAt i (by omega)
theorem b3Q{U:Nat->Nat->Prop}{w:World}:∀{l:List (List Tm)} {ys:List Value},Sq ((l.map λx=>CV.lst (x.map Tm.cv)).map λc=>Rep U w c) ys ->
  ∃(A:Nat->Option Addr) (L C:Nat->Nat) (R:Nat->List Value),∀r x,l[r]?=some x->ys[r]?=some (.slice (A r) (L r) (C r))/\L r=x.length/\(A r=none->L r=0/\C r=0)/\At U w (A r) (R r)/\Sq ((x.map Tm.cv).map λc=>Rep U w c) (R r)
 | [],ys,h=>⟨λ_=>none,λ_=>0,λ_=>0,λ_=>[],λr x hx=>by simp at hx⟩
 | x::l,ys,h=>by
  obtain⟨y1,y2,rfl,h1,h2⟩:=h;obtain⟨a,n,c,rfl,g1,g2,g3,g4,zs,g5,g6⟩:=N7.1 h1;obtain⟨A,L,C,R,hR⟩:=b3Q (l:=l) h2;refine⟨λr=>match r with | 0=>a | r+1=>A r,λr=>match r with | 0=>n | r+1=>L r,λr=>match r with | 0=>c | r+1=>C r,λr=>match r with | 0=>zs | r+1=>R r,λr y hy=>?_⟩;cases r with
  | zero =>
   simp at hy;subst hy;exact⟨rfl,by rw[g1,length_map],g4,g5,g6⟩
  | succ r =>
   simp at hy;exact hR r y hy
theorem b5w{U:Nat->Nat->Prop}{w:World}{l:List (List Tm)}{L:Nat->Nat}{R:Nat->List Value}(h:∀r x,l[r]?=some x->L r=x.length/\Sq ((x.map Tm.cv).map λc=>Rep U w c) (R r)) :
  ∀k,k<=l.length->Sq (((l.take k).flatten.map Tm.cv).map λc=>Rep U w c) (a3y R k)/\a4o L k=(l.take k).flatten.length:=by
 intro k
 induction k with
 | zero=>intro _;exact⟨rfl,rfl⟩
 | succ k ih =>
  intro hk;obtain⟨h1,h2⟩:=ih (by omega);obtain⟨x,hx⟩:∃x,l[k]?=some x:=⟨l[k],getElem?_eq_getElem (by omega)⟩
  obtain⟨h3,h4⟩:=h k x hx;rw[take_add_one,hx,List.flatten_append,a3y,a4o,map_append,map_append,length_append,h2,h3];simp only[Option.toList_some,List.flatten_cons,List.flatten_nil,List.append_nil];exact⟨y8 h1 h4,trivial⟩
theorem a5c(W:World)(l:List (List Tm))(hl:l.length<=1000)(hs:l.flatten.length<=1099511627776):AFun Tryz.prog W 130 [.lst (l.map λx=>CV.lst (x.map Tm.cv))] (.val (.lst (l.flatten.map Tm.cv))):=by
 refine⟨x0 Tryz.func130 rfl rfl,.inl rfl,rfl,?_⟩;rintro U w vs hW ⟨u1,us1,rfl,h1,h3⟩;have h3:us1=[]:=h3;subst h3;obtain⟨a,n,c,rfl,g1,g2,g3,g4,ys,g5,g6⟩:=l5.1 h1;rw[length_map]at g1;subst g1;obtain⟨A,L,C,R,hR⟩:=b3Q g6;obtain⟨hj,hn⟩:=b5w (λr x hx=>⟨(hR r x hx).2.1,(hR r x hx).2.2.2.2⟩) l.length (Nat.le_refl _);rw[List.take_length]at hj hn;have hrw:Rw 2 w a l.length A L C R:=by
  refine⟨λr hr=>?_,?_⟩
  ·obtain⟨k1,k2,k3,k4,k5⟩:=hR r _ (getElem?_eq_getElem hr);refine⟨k3,a1U k4,?_,G3 k5⟩;rw[B0 (n:=λ_=>2) (λc hc xs hx=>by obtain⟨t,_,rfl⟩:=mem_map.1 hc;rw[hx.len];exact Tm.size_cv t) k5,k2]
   rw[List.map_const',List.sum_replicate_nat];simp
  ·by_cases hz:l.length=0
   ·exact .inl hz
   ·refine .inr ?_;have hc:=a1U g5;have nV:=(hR 0 _ (getElem?_eq_getElem (by omega:0<l.length))).1;rcases hc with hc | ⟨b,off,ha,hb,hc⟩
    ·rw[hc]at nV;simp at nV
    ·refine⟨b,off,ha,hb,λr hr=>?_⟩;have hy:=(hR r _ (getElem?_eq_getElem hr)).1;have kA:r<ys.length:=by
      rcases Nat.lt_or_ge r ys.length with h | h
      ·exact h
      ·rw[List.getElem?_eq_none h]at hy;cases hy
     rw[hc r kA,hy]
 refine(a9L a l.length c A L C R w hrw hl (by rw[hn];exact hs)).mono ?_;rintro e w' ⟨v,rfl,ho,hb⟩;obtain⟨a',c',rfl,k1,k2,k3,k4⟩:=a4g ho;refine⟨_,rfl,l5.2 ⟨a',_,c',rfl,by rw[hn,length_map],k1,k2,k3,_,k4.keep λb o v h1 h2=>⟨.inr h1,h2⟩,hj.keep λb o v h1 h2=>⟨.inl h1,?_⟩⟩,hb⟩;rw[hb.cell (World.block_lt_of_cell? w _ h2)];exact h2
def E3(u:Tm):List Int->Tm->Option Tm
 | [],t=>some u.strip
 | k::ks,t=>(t.pa k).bind λs=>(E3 u ks s).map λv=>⟨t.f,(t.l.take k.toNat).map Tm.strip++v::(t.l.drop (k.toNat+1)).map Tm.strip⟩
section
variable{P:Program}{w0:World}{U0:UX}{nt:Nat}{ops:Array Oper}{o:Oper}{S:Nat->Option AV}{gs:List Nat}{d:Nat}
theorem c2Y{d':Nat}(hg:Go w0 U0 nt ops o gs S)(hd:o.dst=some d')(hn:Nat.blt d' nt=true)(h5:Nat.blt d' 100000=true):AOp P w0 U0 nt ops o gs [] S [(d',.tup [])]:=by
 intro s hs _ a w ⟨D,hv,h⟩ Q K hK;rw[if_neg (by rw[hg s hs a w D hv h];simp),hd];exact hK _ _ ⟨D,hv,h.put (bL hn) (bL h5) (by unfold AVRep;exact⟨[],rfl,rfl⟩)⟩
theorem zbt{P:Program}{w0:World}{U0:UX}{nt:Nat}{ops:Array Oper}{o:Oper}{S:Nat->Option AV}{gs:List Nat}{d':Nat}(p:Go w0 U0 nt ops o gs S:=by exact gc)(q:o.dst=some d':=by exact rfl)(r:Nat.blt d' nt=true:=by exact rfl)(t:Nat.blt d' 100000=true:=by exact rfl):AOp P w0 U0 nt ops o gs [] S [(d',.tup [])]:=c2Y p q r t
theorem a0e{j:Nat}{c:Bool}(hg:o.guard=some (j,c))(hj:(ops[j]?).bind (·.dst)=some d)(h5:Nat.blt d 100000=true)(hS:S d=some (.tup [])):Go w0 U0 nt ops o [d] S:=λs hs a w D hv h=>by
 obtain⟨v,h1,h2⟩:=h.slot d _ ((hs d (by simp)).trans hS) (bL h5);obtain⟨vs,h3,h4⟩:∃vs:List Value,v=.tuple vs.toArray/\VReps (Us w0 U0 D) w [] vs:=h2;simp[Region.wanted,hg,yielded,hj,h1,h3]
end
end Go.Proofs.YteegmcfobgpemaaGreat
