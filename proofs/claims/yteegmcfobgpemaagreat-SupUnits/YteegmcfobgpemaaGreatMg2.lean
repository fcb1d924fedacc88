/-
 AbTok AbFn AbLit TmMath AbTm TmMem TmSmall TmCmp FrRange TmIter TmCount TmApp TmClone TmConcat TmPlaces TmVars TmOf TmFine AbBr SbMath TmSm TmPlA TmPlB TmPlC AbOff AbObj
-/
import Derived.Test.YteegmcfobgpemaaGreatMg1
import Derived.Test.YteegmcfobgpemaaGreatChecked
import Derived.Deep.QuietTactic
import Derived.BigQuiet
import Derived.Deep.RegionHeld3
import Derived.RangeFuncNested
import Derived.RangeFuncBound
import Derived.RangeFuncCalls
import Derived.RangeFuncLeaves
import Derived.RangeFuncBox
import Derived.Shelf.Abstract
import Derived.Shelf.RegionOpen
import Derived.WalkKit
import Derived.OwnWalkIn
import Derived.TacticsInMore
import Derived.LoopNIn
import Derived.LoopIn
import Derived.RangeFuncWrites
import Derived.Maps.AppendAt
import Derived.Lib.AppendZeros
import Derived.Maps.OwnIn
import Derived.Maps.OwnSet
import Derived.Maps.Views
import Derived.Deep.RegionLaw
namespace Go.Proofs.YteegmcfobgpemaaGreat
open List (append_toArray cons_append flatMap_cons getElem?_eq_getElem getElem?_eq_none length_append length_cons length_map length_nil length_set length_take map_append map_cons mem_append_left mem_append_right mem_cons mem_cons_of_mem mem_map mem_of_getElem? nil_append push_toArray size_toArray take_add_one take_append_drop take_of_length_le)
open Go.RowKit
set_option linter.unusedVariables false
set_option linter.unusedSimpArgs false
set_option maxRecDepth 100000
section
variable {P:Program} {w0:World} {U0:UX} {nt:Nat} {s:AS}
theorem V9 {a b:Nat} (h:a≠b):Nat.beq a b=false:=by
 cases e:Nat.beq a b with
 | false=>rfl
 | true=>exact absurd (Nat.eq_of_beq_eq_true e) h
theorem rnB {n:Nat} (h:(Nat.ble 200000 n&&Nat.blt n 400000)=true):200000<=n/\n<400000:=by
 rw [Bool.and_eq_true] at h;exact ⟨Nat.le_of_ble_eq_true h.1,bL h.2⟩
theorem b5I {hv:Nat->Value}:I2 hv 1 = .slice none 0 0:=rfl
theorem R7 (kk n e z:Nat) {av:AV} (hk:look s kk=some av) (h1:av.n=1) (cW:(Nat.beq av.t 0||Nat.beq av.t 5)=true) (gF:Nat.blt kk 200000=true) (hn:(Nat.ble 200000 n&&Nat.blt n 400000)=true) (hz:Nat.blt 0 z=true) (hr:y8 s [(n,[])]=true):Wk w0 U0 nt s ((n,.tok e z)::(kk,{ av with n:=n })::s):=by
 rintro a w ⟨D,hv,h⟩;obtain ⟨hn,iX⟩:=rnB hn;have gF:=bL gF;have hz:=bL hz;have hr:=(q6 hr (n,[]) (by simp)).nr;have ht2:av.t=0\/av.t=5:=by rw [Bool.or_eq_true] at cW;exact cW.imp Nat.eq_of_beq_eq_true Nat.eq_of_beq_eq_true
 obtain ⟨gB,gK⟩:∃ gB:Nat->Value,gB=fun x=>if x=n then .slice none 0 0 else hv x:=⟨_,rfl⟩
 have hG:SimG w0 U0 nt ((n,.tok e z)::s) a w D gB:=by rw [gK];exact h.newrow (X:=fun _=>False) (v' := .slice none 0 0) ⟨hn,iX⟩ hr (by simp) (BelowX.refl _ _) (fun b hb=>hb.elim) (fun g hg=>by cases hg) (fun b o hd => .inl hd) h.dlt (fun b o u h1 h2=>⟨h1,h2⟩) (fun hv lv=>by unfold OC;exact ⟨0,[],World.ownsRow_nil _ _ _ _,hz⟩)
 have kR:gB n = .slice none 0 0:=by rw [gK];simp
 obtain ⟨t,ht⟩:∃ t,t=(n,AV.tok e z)::(kk,{ av with n:=n })::s:=⟨_,rfl⟩
 obtain ⟨t0,lB⟩:∃ t0,t0=(n,AV.tok e z)::s:=⟨_,rfl⟩
 rw [<-ht];rw [<-lB] at hG;have kB:∀ k,k≠kk->look t k=look t0 k:=fun k h2=>by
  rw [ht,lB];by_cases e:n=k
  ·subst e;rw [lS,lS]
  ·rw [lN e,lN e,lN (Ne.symm h2)]
 have kA:look t kk=some { av with n:=n }:=by rw [ht,lN (by omega),lS]
 have iI:look t0 kk=some av:=by rw [lB,lN (by omega)];exact hk
 have hl:∀ m f,t7 t m f↔t7 t0 m f:=fun m f=>by
  unfold t7;by_cases e:m=kk
  ·constructor<;>rintro ⟨_,h3,_⟩<;>omega
  ·rw [kB m e]
 have kL:a9 t=a9 t0:=by funext m;simp only [a9,hl]
 have bX:a9 t0 n := .inr ⟨(e,z),by rw [lB];exact ⟨lS _ _ _,hn,iX⟩⟩;have dK:∀ us,Tk gB (a9 t0) av us->Tk gB (a9 t0) { av with n:=n } us:=fun us h2 _=>by obtain ⟨m,c,g1,g2⟩:=h2 (.inl h1);refine ⟨m,c,g1,?_⟩;rw [g2,h1,b5I];unfold I2;simp only;rw [if_neg (by omega),kR]
 refine ⟨D,gB,hG.below,hG.dfr,hG.size,fun d av' h2 h3=>?_,fun m o av' h2 h3 h4 h6=>?_,fun m o o' av1 av2 h2 h3=>?_,fun k av' h2 h3=>?_,fun k av' g h2 h3 h4 h6=>?_,fun k k' av1 av2 g h2 h3 h4 h6 h7 h8 kE=>?_,hG.fix,hG.dlt⟩
 ·rw [kL];by_cases e:d=kk
  ·subst e;rw [kA] at h2;cases h2;obtain ⟨v,g4,g5⟩:=hG.slot d av iI h3;refine ⟨v,g4,?_⟩;unfold AVRep at g5 |-;simp only;rcases ht2 with ht2 | ht2
   ·rw [if_pos ht2] at g5 |-;exact ⟨g5.1,dK _ g5.2⟩
   ·rw [if_neg (by omega),if_neg (by omega),if_neg (by omega),if_neg (by omega),if_neg (by omega),if_neg (by omega),if_neg (by omega),if_neg (by omega),if_neg (by omega),if_neg (by omega)]
    first | trivial | exact b4Z (by simp only;omega)
  ·rw [kB d e] at h2;exact hG.slot d av' h2 h3
 ·rw [kL];rw [kB _ (by unfold f0;omega)] at h2;have kE:100000+m≠kk:=fun e=>by rw [e,kA] at h4;injection h4 with h4;rcases ht2 with ht2 | ht2<;>(have:=congrArg AV.t h4;simp only at this;omega)
  rw [kB _ kE] at h4;exact hG.fld m o av' h2 h3 h4 h6
 ·rw [kB _ (by unfold f0;omega)] at h2 h3;exact hG.fdis m o o' av1 av2 h2 h3
 ·rw [kL];by_cases e:k=kk
  ·subst e;rw [kA] at h2;cases h2;have g5:=hG.obj k av iI h3;unfold OC at g5 |-;simp only;rcases ht2 with ht2 | ht2
   ·rw [if_neg (by omega),if_neg (by omega),if_neg (by omega),if_neg (by omega),if_neg (by omega)]
    first | trivial | exact b4Z (by simp only;omega)
   ·rw [if_pos ht2] at g5 |-;obtain ⟨g,xs,ty,e1,e2,e3,e4⟩:=g5;exact ⟨g,xs,ty,e1,e2,e3,dK _ e4⟩
  ·rw [kB k e] at h2;exact hG.obj k av' h2 h3
 ·by_cases e:k=kk
  ·subst e;rw [kA] at h2;cases h2;have:=hG.blk k av g iI h3 h4 h6;exact this
  ·rw [kB k e] at h2;exact hG.blk k av' g h2 h3 h4 h6
 ·have conv:∀ q (aq:AV),look t q=some aq->aq.t≠7->∃ aq',look t0 q=some aq'/\aq'.t≠7:=fun q aq f1 f2=>by
   by_cases e:q=kk
   ·subst e;rw [kA] at f1;cases f1;exact ⟨av,iI,f2⟩
   ·rw [kB q e] at f1;exact ⟨aq,f1,f2⟩
  obtain ⟨a1,b1,c1⟩:=conv k av1 h2 h7
  obtain ⟨a2,b2,c2⟩:=conv k' av2 h3 h8
  exact hG.disj k k' a1 a2 g b1 b2 h4 h6 c1 c2 kE
def b8D (k:Nat):AS->AS
 | []=>[]
 | (d,av)::s=>(d,match Nat.beq d k with | true=>(match Nat.beq av.t 0||Nat.beq av.t 5 with | false=>av | true=>⟨av.t,av.c,0,av.o,av.p⟩) | false=>av)::b8D k s
def q8 (n n':Nat) (av:AV):AV:=⟨av.t,av.c,match Nat.beq av.t 2,Nat.beq av.n n with | false,true=>n' | _,_=>av.n,av.o,av.p⟩
def ren (n n':Nat):AS->AS
 | []=>[]
 | (k,av)::s=>(match Nat.beq k n with | true=>n' | false=>k,q8 n n' av)::ren n n' s
def S5 (s:AS) (n:Nat):Bool:=s.all fun p=>!Nat.beq p.1 n
theorem a5e {n n':Nat}:∀ {s:AS},S5 s n'=true->∀ {k:Nat} {av:AV},look (ren n n' s) k=some av->∃ k0 av0,look s k0=some av0/\av=q8 n n' av0/\((k0=n/\k=n')\/(k0≠n/\k0≠n'/\k=k0))
 | [],_,k,av,h=>by simp [ren,look] at h
 | (d,x)::s,gA,k,av,h=>by
  unfold S5 at gA;rw [List.all_cons,Bool.and_eq_true] at gA;have eB:d≠n':=fun e=>by have:=gA.1;rw [e] at this;simp at this
  obtain ⟨kd,aN⟩:∃ kd,kd=(match Nat.beq d n with | true=>n' | false=>d):=⟨_,rfl⟩
  rw [ren,<-aN,j8] at h;split at h
  ·rename_i e;rw [aN] at e;cases h;by_cases hd:d=n
   ·subst hd;refine ⟨d,x,lS _ _ _,rfl,.inl ⟨rfl,?_⟩⟩;rw [<-e,Nat.beq_refl]
   ·refine ⟨d,x,lS _ _ _,rfl,.inr ⟨hd,eB,?_⟩⟩;rw [<-e,V9 hd]
  ·rename_i e;rw [aN] at e;obtain ⟨k0,av0,h1,h2,h3⟩:=a5e (s:=s) gA.2 h;refine ⟨k0,av0,?_,h2,h3⟩;rw [lN]
   ·exact h1
   ·rintro rfl;apply e;rcases h3 with ⟨h4,h5⟩ | ⟨h4,h5,h6⟩
    ·rw [h4,Nat.beq_refl,h5]
    ·rw [V9 h4,h6]
theorem a6H {n n':Nat} {av:AV} (hn:n≠0) (gP:n'≠0) (h:q8 n n' av = .obj):av = .obj:=by
 obtain ⟨t,c,n0,o,p⟩:=av;unfold q8 at h;injection h with e1 e2 e3 e4 e5;simp only at e1 e2 e3 e4 e5;subst e1;subst e2;subst e4;subst e5;by_cases e:n0=n
 ·subst e;rw [Nat.beq_refl] at e3;exact absurd e3 gP
 ·rw [V9 e] at e3;rw [show n0=0 from e3]
theorem a1M {n n' e z:Nat} {av:AV} (hn:n≠0) (gP:n'≠0) (h:q8 n n' av = .tok e z):av = .tok e z:=by
 obtain ⟨t,c,n0,o,p⟩:=av;unfold q8 at h;injection h with e1 e2 e3 e4 e5;simp only at e1 e2 e3 e4 e5;subst e1;subst e2;subst e4;subst e5;by_cases e:n0=n
 ·subst e;rw [Nat.beq_refl] at e3;exact absurd e3 gP
 ·rw [V9 e] at e3;rw [show n0=0 from e3]
def rOk (s:AS) (n n':Nat):Bool:=match look s n with | some av=>Nat.beq av.t 6||Nat.blt n 300000||Nat.ble 300000 n' | none=>true
theorem rnF {n:Nat} (h:(Nat.ble 200000 n&&Nat.blt n 450000)=true):200000<=n/\n<450000:=by
 rw [Bool.and_eq_true] at h;exact ⟨Nat.le_of_ble_eq_true h.1,bL h.2⟩
theorem B2 (n n':Nat) (hn:(Nat.ble 200000 n&&Nat.blt n 400000)=true) (gP:(Nat.ble 200000 n'&&Nat.blt n' 400000)=true) (hr:y8 s [(n',[])]=true) (uQ:(S5 s n'&&rOk s n n')=true):Wk w0 U0 nt s (ren n n' s):=by
 rintro a w ⟨D,hv,h⟩;have hn:=rnB hn;have gP:=rnB gP;rw [Bool.and_eq_true] at uQ;obtain ⟨hk,fP⟩:=uQ;have hr:=(q6 hr (n',[]) (by simp)).nr;obtain ⟨t,ht⟩:∃ t,t=ren n n' s:=⟨_,rfl⟩
 rw [<-ht];have kB:∀ {k av},look t k=some av->∃ k0 av0,look s k0=some av0/\av=q8 n n' av0/\((k0=n/\k=n')\/(k0≠n/\k0≠n'/\k=k0)):=fun {k av} h1=>by rw [ht] at h1;exact a5e hk h1
 have kV:∀ {k av},look t k=some av->(k<200000\/400000<=k)->∃ av0,look s k=some av0/\av=q8 n n' av0:=fun {k av} h1 h2=>by
  obtain ⟨k0,av0,g1,g2,g3⟩:=kB h1;rcases g3 with ⟨g4,g5⟩ | ⟨g4,g5,g6⟩
  ·omega
  ·rw [g6];exact ⟨av0,g1,g2⟩
 have kI:∀ {m f},t7 t m f->∃ m0,t7 s m0 f/\((m0=n/\m=n')\/(m0≠n/\m0≠n'/\m=m0)):=fun {m f} h1=>by
  obtain ⟨k0,av0,g1,g2,g3⟩:=kB h1.1;refine ⟨k0,⟨?_,?_⟩,g3⟩
  ·rw [g1,a1M (by omega) (by omega) g2.symm]
  ·have:=h1.2;rcases g3 with ⟨g4,g5⟩ | ⟨g4,g5,g6⟩<;>omega
 obtain ⟨gB,gK⟩:∃ gB:Nat->Value,gB=fun x=>if x=n' then hv n else hv x:=⟨_,rfl⟩
 have kR:∀ k,k≠n'->gB k=hv k:=fun k hk=>by rw [gK];simp only [if_neg hk]
 have bK:gB n'=hv n:=by rw [gK];simp
 have hid:∀ b o v,Us w0 U0 D b o->w.cell? ⟨b,o,none⟩=some v->Us w0 U0 D b o/\w.cell? ⟨b,o,none⟩=some v:=fun _ _ _ h1 h2=>⟨h1,h2⟩
 have oS:∀ {k av0},look s k=some av0->(av0.t≠2/\av0.n=n/\(q8 n n' av0).n=n')\/((av0.t=2\/av0.n≠n)/\(q8 n n' av0).n=av0.n):=fun {k av0} h1=>by
  unfold q8;by_cases e:av0.n=n
  ·by_cases e2:av0.t=2
   ·right;exact ⟨.inl e2,by simp only [e2,Nat.beq_refl]⟩
   ·left;exact ⟨e2,e,by simp only [e,Nat.beq_refl,V9 e2]⟩
  ·right;refine ⟨.inr e,?_⟩;simp only [V9 e];cases Nat.beq av0.t 2<;>rfl
 have bX:∀ {k av0},look s k=some av0->a9 t (q8 n n' av0).n->av0.t≠2->a9 s av0.n/\I2 gB (q8 n n' av0).n=I2 hv av0.n:=fun {k av0} h1 h2 h3=>by
  have kE:=(hr k av0 h1).1;rcases oS h1 with ⟨g1,g2,g3⟩ | ⟨g1,g3⟩
  ·rw [g3] at h2 |-;rw [g2];refine ⟨?_,?_⟩
   ·rcases h2 with h2 | ⟨f,hf⟩
    ·omega
    ·obtain ⟨m0,f1,f2⟩:=kI hf;rcases f2 with ⟨f3,_⟩ | ⟨f3,f4,f5⟩
     ·exact .inr ⟨f,f3▸f1⟩
     ·omega
   ·unfold I2;rw [if_neg (by omega),if_neg (by omega),bK]
  ·rw [g3] at h2 |-;refine ⟨?_,?_⟩
   ·rcases h2 with h2 | ⟨f,hf⟩
    ·exact .inl h2
    ·obtain ⟨m0,f1,f2⟩:=kI hf;rcases f2 with ⟨_,f4⟩ | ⟨_,_,f5⟩
     ·exact absurd f4 kE
     ·rw [f5];exact .inr ⟨f,f1⟩
   ·unfold I2;rw [kR _ kE]
 have bB:∀ {k av0 v},look s k=some av0->AVRep (Us w0 U0 D) w hv (a9 s) av0 v->AVRep (Us w0 U0 D) w gB (a9 t) (q8 n n' av0) v:=fun {k av0 v} h1 h2=>by
  have kE:=(hr k av0 h1).1;unfold AVRep at h2 |-;rw [show (q8 n n' av0).t=av0.t from rfl,show (q8 n n' av0).c=av0.c from rfl,show (q8 n n' av0).o=av0.o from rfl];have ez:zOf (q8 n n' av0)=zOf av0/\zSl (q8 n n' av0)=zSl av0:=⟨rfl,rfl⟩
  rw [ez.1,ez.2];by_cases t0:av0.t=0
  ·rw [if_pos t0] at h2 |-;refine ⟨h2.1,fun he=>?_⟩;obtain ⟨f1,f2⟩:=bX h1 he (by omega);obtain ⟨m,c,f3,f4⟩:=h2.2 f1;exact ⟨m,c,f3,by rw [f4,f2]⟩
  rw [if_neg t0] at h2 |-;by_cases t2:av0.t=2
  ·rw [if_pos t2] at h2 |-;have e:(q8 n n' av0).n=av0.n:=by
    rcases oS h1 with ⟨g1,_⟩ | ⟨_,g⟩
    ·exact absurd t2 g1
    ·exact g
   have hb:=h2.1;unfold BN at hb;rw [e,kR _ (by omega)];exact h2
  rw [if_neg t2] at h2 |-;by_cases t3:av0.t=3
  ·rw [if_pos t3] at h2 |-;exact h2
  rw [if_neg t3] at h2 |-;by_cases t4:av0.t=4
  ·rw [if_pos t4] at h2 |-;exact h2
  rw [if_neg t4] at h2 |-;have hR:RN av0.n->RN (q8 n n' av0).n/\gB (q8 n n' av0).n=hv av0.n:=fun h3=>by
   rcases oS h1 with ⟨g1,g2,g3⟩ | ⟨g1,g3⟩
   ·rw [g3,g2];exact ⟨RW.rn gP,bK⟩
   ·rw [g3];exact ⟨h3,kR _ kE⟩
  by_cases t11:av0.t=11
  ·rw [if_pos t11] at h2 |-;obtain ⟨f1,f2⟩:=hR h2.1;rw [f2];exact ⟨f1,h2.2⟩
  rw [if_neg t11] at h2 |-;by_cases t12:av0.t=12
  ·rw [if_pos t12] at h2 |-;obtain ⟨f1,f2⟩:=hR h2.1;rw [f2];exact ⟨f1,h2.2⟩
  rw [if_neg t12] at h2 |-;by_cases t15:av0.t=15
  ·rw [if_pos t15] at h2 |-;obtain ⟨f1,f2⟩:=hR h2.1;rw [f2];exact ⟨f1,h2.2⟩
  rw [if_neg t15] at h2 |-;by_cases t16:av0.t=16
  ·rw [if_pos t16] at h2 |-;exact h2
  rw [if_neg t16] at h2 |-;by_cases t18:av0.t=18
  ·rw [if_pos t18] at h2 |-;exact h2
  rw [if_neg t18] at h2 |-;by_cases t19:av0.t=19
  ·rw [if_pos t19] at h2 |-;obtain ⟨f1,f2⟩:=hR h2.1;rw [f2];exact ⟨f1,h2.2⟩
  rw [if_neg t19];trivial
 have cF:∀ {k k0},((k0=n/\k=n')\/(k0≠n/\k0≠n'/\k=k0))->gB k=hv k0/\(l8 k->l8 k0):=fun {k k0} h1=>by
  unfold l8;rcases h1 with ⟨rfl,rfl⟩ | ⟨h2,h3,rfl⟩
  ·exact ⟨bK,fun _=>by omega⟩
  ·exact ⟨kR _ h3,fun h=>h⟩
 refine ⟨D,gB,h.below,h.dfr,h.size,fun d av h1 h2=>?_,fun m o av h1 h2 h3 h4=>?_,fun m o o' av av' h1 h2=>?_,fun k av h1 h2=>?_,fun k av g h1 h2 h3 h4=>?_,fun k k' av av' g h1 h2 h3 h4 h5 h6 kE=>?_,fun m g h1=>?_,h.dlt⟩
 ·obtain ⟨av0,g1,rfl⟩:=kV h1 (by omega);obtain ⟨v,g4,g5⟩:=h.slot d av0 g1 h2;exact ⟨v,g4,bB g1 g5⟩
 ·obtain ⟨av0,g1,rfl⟩:=kV h1 (by unfold f0;omega);obtain ⟨k0,av1,f1,f2,f3⟩:=kB h3;have f2:=a6H (by omega) (by omega) f2.symm;subst f2;rcases f3 with ⟨f4,f5⟩ | ⟨f4,f5,f6⟩
  ·unfold BN at h4;omega
  ·rw [<-f6] at f1;obtain ⟨v,g4,g5,g6⟩:=h.fld m o av0 g1 h2 f1 h4;exact ⟨v,bB g1 g4,g5,by rw [kR _ (by omega)];exact g6⟩
 ·obtain ⟨av0,g1,rfl⟩:=kV h1 (by unfold f0;omega);obtain ⟨av1,g2,rfl⟩:=kV h2 (by unfold f0;omega);exact h.fdis m o o' av0 av1 g1 g2
 ·obtain ⟨k0,av0,g1,rfl,g3⟩:=kB h1;obtain ⟨e1,e2⟩:=cF g3;rw [e1];have g5:=h.obj k0 av0 g1 (e2 h2);unfold OC at g5 |-;rw [show (q8 n n' av0).t=av0.t from rfl,show (q8 n n' av0).c=av0.c from rfl,show (q8 n n' av0).o=av0.o from rfl];have ez:zOf (q8 n n' av0)=zOf av0:=rfl;rw [ez];by_cases t5:av0.t=5
  ·rw [if_pos t5] at g5 |-;obtain ⟨g,xs,ty,f1,f2,f3,f4⟩:=g5;refine ⟨g,xs,ty,f1,f2,f3,fun he=>?_⟩;obtain ⟨f5,f6⟩:=bX g1 he (by omega);obtain ⟨m,c,f7,f8⟩:=f4 f5;exact ⟨m,c,f7,by rw [f8,f6]⟩
  ·rw [if_neg t5] at g5 |-;exact g5
 ·obtain ⟨k0,av0,g1,rfl,g3⟩:=kB h1;obtain ⟨e1,e2⟩:=cF g3;rw [e1] at h4 |-;obtain ⟨f1,f2,f3⟩:=h.blk k0 av0 g g1 (e2 h2) h3 h4;refine ⟨?_,f2,f3⟩;rcases g3 with ⟨rfl,rfl⟩ | ⟨_,_,rfl⟩
  ·unfold rOk at fP;rw [g1] at fP;simp only [Bool.or_eq_true] at fP;have e3:(q8 k0 k av0).t=av0.t:=rfl;rcases fP with (h6 | h6) | h6
   ·rw [N0 (Nat.eq_of_beq_eq_true h6)] at f1;rw [N0 (e3.trans (Nat.eq_of_beq_eq_true h6))];exact f1
   ·rw [a1H (bL h6)] at f1;rcases f1 with f1 | f1
    ·exact .inl f1
    ·exact absurd rfl f1.1
   ·have h7:=Nat.le_of_ble_eq_true h6;rw [P0 h7];rcases f1 with f1 | f1
    ·exact .inl f1
    ·refine .inr ⟨?_,f1.2⟩;intro e4;exact f1.1 (N0 e4)
  ·exact f1
 ·obtain ⟨k0,av0,g1,rfl,g3⟩:=kB h1;obtain ⟨k1,av1,g4,rfl,g6⟩:=kB h2;obtain ⟨e1,e2⟩:=cF g3;obtain ⟨e3,e4⟩:=cF g6;rw [e1,e3];refine h.disj k0 k1 av0 av1 g g1 g4 (e2 h3) (e4 h4) h5 h6 fun e=>kE ?_;rcases g3 with ⟨f1,f2⟩ | ⟨f1,f2,f3⟩<;>rcases g6 with ⟨f4,f5⟩ | ⟨f4,f5,f6⟩<;>omega
 ·have:=U0.hf m g h1;rw [kR _ (by omega)];exact h.fix m g h1
def b7t (s:AS) (n:Nat):Bool:=match look s n with | some av=>!Nat.beq av.t 6 | none=>true
theorem x7 (n n':Nat) (hn:(Nat.ble 200000 n&&Nat.blt n 450000)=true) (gP:(Nat.ble 200000 n'&&Nat.blt n' 450000)=true) (hf:U0.f n'=none) (cE:b7t s n=true) (hr:y8 s [(n',[])]=true) (uQ:(S5 s n'&&rOk s n n')=true):Wk w0 U0 nt s (ren n n' s):=by
 rintro a w ⟨D,hv,h⟩;have hn:=rnF hn;have gP:=rnF gP;rw [Bool.and_eq_true] at uQ;obtain ⟨hk,fP⟩:=uQ;have hr:=(q6 hr (n',[]) (by simp)).nr;obtain ⟨t,ht⟩:∃ t,t=ren n n' s:=⟨_,rfl⟩
 rw [<-ht];have kB:∀ {k av},look t k=some av->∃ k0 av0,look s k0=some av0/\av=q8 n n' av0/\((k0=n/\k=n')\/(k0≠n/\k0≠n'/\k=k0)):=fun {k av} h1=>by rw [ht] at h1;exact a5e hk h1
 have kV:∀ {k av},look t k=some av->(k<200000\/450000<=k)->∃ av0,look s k=some av0/\av=q8 n n' av0:=fun {k av} h1 h2=>by
  obtain ⟨k0,av0,g1,g2,g3⟩:=kB h1;rcases g3 with ⟨g4,g5⟩ | ⟨g4,g5,g6⟩
  ·omega
  ·rw [g6];exact ⟨av0,g1,g2⟩
 have kI:∀ {m f},t7 t m f->∃ m0,t7 s m0 f/\((m0=n/\m=n')\/(m0≠n/\m0≠n'/\m=m0)):=fun {m f} h1=>by
  obtain ⟨k0,av0,g1,g2,g3⟩:=kB h1.1;refine ⟨k0,⟨?_,?_⟩,g3⟩
  ·rw [g1,a1M (by omega) (by omega) g2.symm]
  ·have:=h1.2;rcases g3 with ⟨g4,g5⟩ | ⟨g4,g5,g6⟩
   ·exfalso;have g7:=a1M (by omega) (by omega) g2.symm;rw [g4,g7] at g1;unfold b7t at cE;rw [g1] at cE;cases cE
   ·omega
 obtain ⟨gB,gK⟩:∃ gB:Nat->Value,gB=fun x=>if x=n' then hv n else hv x:=⟨_,rfl⟩
 have kR:∀ k,k≠n'->gB k=hv k:=fun k hk=>by rw [gK];simp only [if_neg hk]
 have bK:gB n'=hv n:=by rw [gK];simp
 have hid:∀ b o v,Us w0 U0 D b o->w.cell? ⟨b,o,none⟩=some v->Us w0 U0 D b o/\w.cell? ⟨b,o,none⟩=some v:=fun _ _ _ h1 h2=>⟨h1,h2⟩
 have oS:∀ {k av0},look s k=some av0->(av0.t≠2/\av0.n=n/\(q8 n n' av0).n=n')\/((av0.t=2\/av0.n≠n)/\(q8 n n' av0).n=av0.n):=fun {k av0} h1=>by
  unfold q8;by_cases e:av0.n=n
  ·by_cases e2:av0.t=2
   ·right;exact ⟨.inl e2,by simp only [e2,Nat.beq_refl]⟩
   ·left;exact ⟨e2,e,by simp only [e,Nat.beq_refl,V9 e2]⟩
  ·right;refine ⟨.inr e,?_⟩;simp only [V9 e];cases Nat.beq av0.t 2<;>rfl
 have bX:∀ {k av0},look s k=some av0->a9 t (q8 n n' av0).n->av0.t≠2->a9 s av0.n/\I2 gB (q8 n n' av0).n=I2 hv av0.n:=fun {k av0} h1 h2 h3=>by
  have kE:=(hr k av0 h1).1;rcases oS h1 with ⟨g1,g2,g3⟩ | ⟨g1,g3⟩
  ·rw [g3] at h2 |-;rw [g2];refine ⟨?_,?_⟩
   ·rcases h2 with h2 | ⟨f,hf⟩
    ·omega
    ·obtain ⟨m0,f1,f2⟩:=kI hf;rcases f2 with ⟨f3,_⟩ | ⟨f3,f4,f5⟩
     ·exact .inr ⟨f,f3▸f1⟩
     ·omega
   ·unfold I2;rw [if_neg (by omega),if_neg (by omega),bK]
  ·rw [g3] at h2 |-;refine ⟨?_,?_⟩
   ·rcases h2 with h2 | ⟨f,hf⟩
    ·exact .inl h2
    ·obtain ⟨m0,f1,f2⟩:=kI hf;rcases f2 with ⟨_,f4⟩ | ⟨_,_,f5⟩
     ·exact absurd f4 kE
     ·rw [f5];exact .inr ⟨f,f1⟩
   ·unfold I2;rw [kR _ kE]
 have bB:∀ {k av0 v},look s k=some av0->AVRep (Us w0 U0 D) w hv (a9 s) av0 v->AVRep (Us w0 U0 D) w gB (a9 t) (q8 n n' av0) v:=fun {k av0 v} h1 h2=>by
  have kE:=(hr k av0 h1).1;unfold AVRep at h2 |-;rw [show (q8 n n' av0).t=av0.t from rfl,show (q8 n n' av0).c=av0.c from rfl,show (q8 n n' av0).o=av0.o from rfl];have ez:zOf (q8 n n' av0)=zOf av0/\zSl (q8 n n' av0)=zSl av0:=⟨rfl,rfl⟩
  rw [ez.1,ez.2];by_cases t0:av0.t=0
  ·rw [if_pos t0] at h2 |-;refine ⟨h2.1,fun he=>?_⟩;obtain ⟨f1,f2⟩:=bX h1 he (by omega);obtain ⟨m,c,f3,f4⟩:=h2.2 f1;exact ⟨m,c,f3,by rw [f4,f2]⟩
  rw [if_neg t0] at h2 |-;by_cases t2:av0.t=2
  ·rw [if_pos t2] at h2 |-;have e:(q8 n n' av0).n=av0.n:=by
    rcases oS h1 with ⟨g1,_⟩ | ⟨_,g⟩
    ·exact absurd t2 g1
    ·exact g
   have hb:=h2.1;unfold BN at hb;rw [e,kR _ (by omega)];exact h2
  rw [if_neg t2] at h2 |-;by_cases t3:av0.t=3
  ·rw [if_pos t3] at h2 |-;exact h2
  rw [if_neg t3] at h2 |-;by_cases t4:av0.t=4
  ·rw [if_pos t4] at h2 |-;exact h2
  rw [if_neg t4] at h2 |-;have hR:RN av0.n->RN (q8 n n' av0).n/\gB (q8 n n' av0).n=hv av0.n:=fun h3=>by
   rcases oS h1 with ⟨g1,g2,g3⟩ | ⟨g1,g3⟩
   ·rw [g3,g2];exact ⟨gP,bK⟩
   ·rw [g3];exact ⟨h3,kR _ kE⟩
  by_cases t11:av0.t=11
  ·rw [if_pos t11] at h2 |-;obtain ⟨f1,f2⟩:=hR h2.1;rw [f2];exact ⟨f1,h2.2⟩
  rw [if_neg t11] at h2 |-;by_cases t12:av0.t=12
  ·rw [if_pos t12] at h2 |-;obtain ⟨f1,f2⟩:=hR h2.1;rw [f2];exact ⟨f1,h2.2⟩
  rw [if_neg t12] at h2 |-;by_cases t15:av0.t=15
  ·rw [if_pos t15] at h2 |-;obtain ⟨f1,f2⟩:=hR h2.1;rw [f2];exact ⟨f1,h2.2⟩
  rw [if_neg t15] at h2 |-;by_cases t16:av0.t=16
  ·rw [if_pos t16] at h2 |-;exact h2
  rw [if_neg t16] at h2 |-;by_cases t18:av0.t=18
  ·rw [if_pos t18] at h2 |-;exact h2
  rw [if_neg t18] at h2 |-;by_cases t19:av0.t=19
  ·rw [if_pos t19] at h2 |-;obtain ⟨f1,f2⟩:=hR h2.1;rw [f2];exact ⟨f1,h2.2⟩
  rw [if_neg t19];trivial
 have cF:∀ {k k0},((k0=n/\k=n')\/(k0≠n/\k0≠n'/\k=k0))->gB k=hv k0/\(l8 k->l8 k0):=fun {k k0} h1=>by
  unfold l8;rcases h1 with ⟨rfl,rfl⟩ | ⟨h2,h3,rfl⟩
  ·exact ⟨bK,fun _=>by omega⟩
  ·exact ⟨kR _ h3,fun h=>h⟩
 refine ⟨D,gB,h.below,h.dfr,h.size,fun d av h1 h2=>?_,fun m o av h1 h2 h3 h4=>?_,fun m o o' av av' h1 h2=>?_,fun k av h1 h2=>?_,fun k av g h1 h2 h3 h4=>?_,fun k k' av av' g h1 h2 h3 h4 h5 h6 kE=>?_,fun m g h1=>?_,h.dlt⟩
 ·obtain ⟨av0,g1,rfl⟩:=kV h1 (by omega);obtain ⟨v,g4,g5⟩:=h.slot d av0 g1 h2;exact ⟨v,g4,bB g1 g5⟩
 ·obtain ⟨av0,g1,rfl⟩:=kV h1 (by unfold f0;omega);obtain ⟨k0,av1,f1,f2,f3⟩:=kB h3;have f2:=a6H (by omega) (by omega) f2.symm;subst f2;rcases f3 with ⟨f4,f5⟩ | ⟨f4,f5,f6⟩
  ·unfold BN at h4;omega
  ·rw [<-f6] at f1;obtain ⟨v,g4,g5,g6⟩:=h.fld m o av0 g1 h2 f1 h4;exact ⟨v,bB g1 g4,g5,by rw [kR _ (by omega)];exact g6⟩
 ·obtain ⟨av0,g1,rfl⟩:=kV h1 (by unfold f0;omega);obtain ⟨av1,g2,rfl⟩:=kV h2 (by unfold f0;omega);exact h.fdis m o o' av0 av1 g1 g2
 ·obtain ⟨k0,av0,g1,rfl,g3⟩:=kB h1;obtain ⟨e1,e2⟩:=cF g3;rw [e1];have g5:=h.obj k0 av0 g1 (e2 h2);unfold OC at g5 |-;rw [show (q8 n n' av0).t=av0.t from rfl,show (q8 n n' av0).c=av0.c from rfl,show (q8 n n' av0).o=av0.o from rfl];have ez:zOf (q8 n n' av0)=zOf av0:=rfl;rw [ez];by_cases t5:av0.t=5
  ·rw [if_pos t5] at g5 |-;obtain ⟨g,xs,ty,f1,f2,f3,f4⟩:=g5;refine ⟨g,xs,ty,f1,f2,f3,fun he=>?_⟩;obtain ⟨f5,f6⟩:=bX g1 he (by omega);obtain ⟨m,c,f7,f8⟩:=f4 f5;exact ⟨m,c,f7,by rw [f8,f6]⟩
  ·rw [if_neg t5] at g5 |-;exact g5
 ·obtain ⟨k0,av0,g1,rfl,g3⟩:=kB h1;obtain ⟨e1,e2⟩:=cF g3;rw [e1] at h4 |-;obtain ⟨f1,f2,f3⟩:=h.blk k0 av0 g g1 (e2 h2) h3 h4;refine ⟨?_,f2,f3⟩;rcases g3 with ⟨rfl,rfl⟩ | ⟨_,_,rfl⟩
  ·unfold rOk at fP;rw [g1] at fP;simp only [Bool.or_eq_true] at fP;have e3:(q8 k0 k av0).t=av0.t:=rfl;rcases fP with (h6 | h6) | h6
   ·rw [N0 (Nat.eq_of_beq_eq_true h6)] at f1;rw [N0 (e3.trans (Nat.eq_of_beq_eq_true h6))];exact f1
   ·rw [a1H (bL h6)] at f1;rcases f1 with f1 | f1
    ·exact .inl f1
    ·exact absurd rfl f1.1
   ·have h7:=Nat.le_of_ble_eq_true h6;rw [P0 h7];rcases f1 with f1 | f1
    ·exact .inl f1
    ·refine .inr ⟨?_,f1.2⟩;intro e4;exact f1.1 (N0 e4)
  ·exact f1
 ·obtain ⟨k0,av0,g1,rfl,g3⟩:=kB h1;obtain ⟨k1,av1,g4,rfl,g6⟩:=kB h2;obtain ⟨e1,e2⟩:=cF g3;obtain ⟨e3,e4⟩:=cF g6;rw [e1,e3];refine h.disj k0 k1 av0 av1 g g1 g4 (e2 h3) (e4 h4) h5 h6 fun e=>kE ?_;rcases g3 with ⟨f1,f2⟩ | ⟨f1,f2,f3⟩<;>rcases g6 with ⟨f4,f5⟩ | ⟨f4,f5,f6⟩<;>omega
 ·have hm:m≠n':=fun e=>by rw [e,hf] at h1;cases h1
  rw [kR _ hm];exact h.fix m g h1
end
section
variable {P:Program} {w0:World} {U0:UX} {nt:Nat} {ops:Array Oper} {o:Oper} {S:Nat->Option AV} {gs:List Nat} {d:Nat} {s:AS} {a:Act} {w:World} {D:Nat->Nat->Prop} {hv:Nat->Value}
theorem X8 {U:Nat->Nat->Prop} {c:CV} {u:Value}:VRep U w (.ptr c) u↔∃ b off ys,u = .pointer (some ⟨b,off,none⟩)/\Rep U w c ys/\∀ i,i<ys.length->U b (off+i)/\w.cell? ⟨b,off+i,none⟩=ys[i]?:=by
 rw [show VRep U w (.ptr c) u=Rep U w (.ptr c) [u] from rfl,b8f];simp
theorem T9 {U:Nat->Nat->Prop} {f n:Nat} {l:List CV} {u:Value}:VRep U w (.fn f n l) u↔∃ (ys zs:List Value),u = .func (.func f) ys.toArray zs.toArray/\ys.length=n/\Sq (l.map fun c=>Rep U w c) (ys++zs)/\∀ c∈l,c.k≠2:=by
 rw [show VRep U w (.fn f n l) u=if 10+n=2 then ∃ xs:List Value,u = .agg xs.toArray/\Rep U w (.fn f n l) xs else Rep U w (.fn f n l) [u] from rfl,if_neg (by omega),b7J];simp
theorem R8 {U:Nat->Nat->Prop}:∀ {l:List CV} {xs:List Value},(∀ c∈l,c.k≠2)->Sq (l.map fun c=>Rep U w c) xs->VReps U w l xs
 | [],xs,_,h=>h
 | c::cs,xs,hk,⟨ys,zs,e,h1,h2⟩=>by
  have hc:=hk c (by simp);have kD:=h1.len;have h1c:c.size=1:=by cases c with | mk k v l=>rw [CV.size_mk,if_neg hc]
  rw [h1c] at kD
  match ys,kD with
  | [u],_=>exact ⟨u,zs,e,by unfold VRep;rw [if_neg hc];exact h1,R8 (fun x hx=>hk x (mem_cons_of_mem _ hx)) h2⟩
theorem b0t {U:Nat->Nat->Prop}:∀ {l:List CV} {xs:List Value},(∀ c∈l,c.k≠2)->VReps U w l xs->Sq (l.map fun c=>Rep U w c) xs
 | [],xs,_,h=>h
 | c::cs,xs,hk,⟨u,us,e,h1,h2⟩=>by
  refine ⟨[u],us,e,?_,b0t (fun x hx=>hk x (mem_cons_of_mem _ hx)) h2⟩;unfold VRep at h1;rw [if_neg (hk c (by simp))] at h1;exact h1
theorem VReps.append {U:Nat->Nat->Prop}:∀ {l m:List CV} {xs ys:List Value},VReps U w l xs->VReps U w m ys->VReps U w (l++m) (xs++ys)
 | [],m,xs,ys,h,h2=>by have h:xs=[]:=h;rw [h];exact h2
 | c::cs,m,xs,ys,⟨u,us,e,h1,h3⟩,h2=>⟨u,us++ys,by rw [e];rfl,h1,VReps.append h3 h2⟩
theorem VReps.split {U:Nat->Nat->Prop}:∀ {l:List CV} {xs ys:List Value},VReps U w l (xs++ys)->VReps U w (l.take xs.length) xs/\VReps U w (l.drop xs.length) ys
 | l,[],ys,h=>⟨rfl,h⟩
 | [],x::xs,ys,h=>by have h:x::xs++ys=[]:=h;simp at h
 | c::cs,x::xs,ys,⟨u,us,e,h1,h3⟩=>by
  injection e with e1 e2;subst e1;subst e2;obtain ⟨h4,h5⟩:=VReps.split h3;exact ⟨⟨x,xs,rfl,h1,h4⟩,h5⟩
def a5q:List CV->Bool
 | []=>true
 | c::cs=>match Nat.beq c.k 2 with | true=>false | false=>a5q cs
theorem X0:∀ {l:List CV},a5q l=true->∀ c∈l,c.k≠2
 | [],_,c,hc=>by simp at hc
 | x::l,h,c,hc=>by
  unfold a5q at h;split at h
  ·cases h
  ·rename_i hb;rcases mem_cons.1 hc with rfl | hc
   ·exact fun e=>by rw [e] at hb;cases hb
   ·exact X0 h c hc
def AFunV (P:Program) (W:World) (fc:CV) (args:List CV) (r:AV):Prop:=∃ f n l,fc = .fn f n l/\AFun P W f (l.take n++(args++l.drop n)) r
theorem AFunV.up {W w:World} {fc:CV} {args:List CV} {r:AV} {U:UX} (h:AFunV P W fc args r) (hW:Hw W w U):AFunV P w fc args r:=by
 obtain ⟨f,n,l,h1,h2⟩:=h;exact ⟨f,n,l,h1,h2.up hW⟩
theorem a7s {x:Operand} {xs:Array Operand} {ts:Array TypeId} {fc:CV} {cs:List CV} {r:AV} {n q p} (hg:Gd w0 U0 nt ops o gs S) (hd:o.dst=some d) (hn:Nat.blt d nt=true) (h5:Nat.blt d 100000=true)
  (ho:o.op = .call { callee := .value x,args:=xs,argTypes:=ts }) (hf:ev S x=some ⟨0,fc,n,q,p⟩) (hx:a0q S xs.toList=some cs) (hc:AFunV P w0 fc cs r):AOp P w0 U0 nt ops o (gs++(rd x++rdl xs.toList)) [] S [(d,r)]:=by
 intro s hs _ a w ⟨D,hv,h⟩ Q K hK;rw [if_pos (hg s (fun k hk=>hs k (mem_append_left _ hk)) a w D hv h)];have hargs:=H5 h (fun k hk=>hs k (mem_append_right _ (mem_append_right _ hk))) hx;have nD:=y7 h (fun k hk=>hs k (mem_append_right _ (mem_append_left _ hk))) hf;obtain ⟨f,m,l,rfl,h1,h2,h3,h4⟩:=hc;obtain ⟨ys,zs,e1,e2,e3,e4⟩:=T9.1 nD;obtain ⟨s1,s2⟩:=VReps.split (R8 e4 e3);rw [e2] at s1 s2;have kK:=h4 _ w _ trivial (s1.append (hargs.append s2));have he:(execOp a.eval o).run P w = .ok (.enter f (ys++(xs.toList.map a.eval++zs)).toArray) w:=by
  have cR:=h1 (ys.toArray++(xs.map a.eval++zs.toArray)) w;have gR:(ys++(xs.toList.map a.eval++zs)).toArray=ys.toArray++(xs.map a.eval++zs.toArray):=by apply Array.ext';simp
  rw [gR];generalize a.eval=ρ at e1 cR |-;simp [execOp,ho,resolve,invoke,Deferred.ofValue,e1,cR]
 unfold Oper.wp;rw [he,Oper.upon_enter];refine kK.mono ?_;rintro e w' ⟨v,rfl,h6,h7⟩;rw [hd];refine hK _ _ ⟨Dn D w w',hv,(h.growN h7).put (bL hn) (bL h5) (R5 h2 h3 (Y1 rfl h7.size h.below.size h6))⟩
theorem zH {P:Program} {w0:World} {U0:UX} {nt:Nat} {ops:Array Oper} {o:Oper} {S:Nat->Option AV} {gs:List Nat} {d:Nat} {x:Operand} {xs:Array Operand} {ts:Array TypeId} {fc:CV} {cs:List CV} {r:AV} {n} {q} {p} (t:Gd w0 U0 nt ops o gs S:=by exact gN rfl) (u:o.dst=some d:=by exact rfl) (y:Nat.blt d nt=true:=by exact rfl) (z:Nat.blt d 100000=true:=by exact rfl) (A:o.op = .call { callee := .value x,args:=xs,argTypes:=ts }:=by exact rfl) (B:ev S x=some ⟨0,fc,n,q,p⟩:=by exact rfl) (C:a0q S xs.toList=some cs:=by exact rfl) (E:AFunV P w0 fc cs r):AOp P w0 U0 nt ops o (gs++(rd x++rdl xs.toList)) [] S [(d,r)]:=a7s t u y z A B C E
section
variable (hg:Gd w0 U0 nt ops o gs S) (hd:o.dst=some d) (hn:Nat.blt d nt=true) (h5:Nat.blt d 100000=true)
include hg hd hn h5
theorem b5V {f:Nat} {xs ys:Array Operand} {cs:List CV} (ho:o.op = .makeFunc (.func f) xs ys) (hx:a0q S (xs.toList++ys.toList)=some cs) (hk:a5q cs=true):AOp P w0 U0 nt ops o (gs++rdl (xs.toList++ys.toList)) [] S [(d,.val (.fn f xs.size cs))]:=
 j9 hg hd hn h5 (fun k hk=>mem_append_left _ hk) fun s hs a w D hv hm=>by
  have hargs:=H5 hm (fun k hk=>hs k (mem_append_right _ hk)) hx;rw [map_append] at hargs;refine ⟨.func (.func f) (xs.toList.map a.eval).toArray (ys.toList.map a.eval).toArray,?_,n4 (T9.2 ⟨_,_,rfl,by simp,b0t (X0 hk) hargs,X0 hk⟩)⟩;have e1:(xs.toList.map a.eval).toArray=xs.map a.eval:=by apply Array.ext';simp
  have e2:(ys.toList.map a.eval).toArray=ys.map a.eval:=by apply Array.ext';simp
  rw [e1,e2];generalize a.eval=ρ;simp [execOp,ho,Instr.makeFunc]
theorem F6 {x:Operand} {ty:TypeId} {ds:TypeDesc} {z:Nat} {c:CV} {n q p} (ho:o.op = .load ty x) (hu:P.underlying ty=some ds) (hi:(P.info? ty).map (·.size)=some z) (hx:ev S x=some ⟨0,.ptr c,n,q,p⟩) (hk:U5 ds=Nat.beq c.k 2) (hz:c.size=z):AOp P w0 U0 nt ops o (gs++rd x) [] S [(d,.val c)]:=
 j9 hg hd hn h5 (fun k hk=>mem_append_left _ hk) fun s hs a w D hv hm=>by have h0:=y7 hm (fun k hk=>hs k (mem_append_right _ hk)) hx;obtain ⟨b,off,xs,h1,h2,h3⟩:∃ b off xs,a.eval x = .pointer (some ⟨b,off,none⟩)/\Rep (Us w0 U0 D) w c xs/\∀ i,i<xs.length->Us w0 U0 D b (off+i)/\w.cell? ⟨b,off+i,none⟩=xs[i]?:=X8.1 h0;obtain ⟨v,h4,h6,_⟩:=C5 hu hi hk hz h2 (fun i hi=>(h3 i hi).2);refine ⟨v,?_,n4 h6⟩;generalize a.eval=ρ at h1 |-;simp [execOp,ho,Instr.loadAt,Instr.sureAddr,h1,h4]
theorem c2L {x y:Operand} {ts:Array TypeId} {k:IntKind} {i j:Int} {n q p n' q' p'} (ho:o.op = .call { callee := .builtin .max,args := #[x,y],argTypes:=ts }) (hx:ev S x=some ⟨0,.sc (.int k i),n,q,p⟩) (hy:ev S y=some ⟨0,.sc (.int k j),n',q',p'⟩):AOp P w0 U0 nt ops o (gs++(rd x++rd y)) [] S [(d,.val (.sc (.int k (max i j))))]:=
 j9 hg hd hn h5 (fun k hk=>mem_append_left _ hk) fun s hs a w D hv hm=>by
  have e1:=v7 hm (fun k hk=>hs k (mem_append_right _ (mem_append_left _ hk))) hx;have e2:=v7 hm (fun k hk=>hs k (mem_append_right _ (mem_append_right _ hk))) hy;refine ⟨.int k (max i j),?_,p6 rfl⟩;have e3:(if j>i then j else i)=max i j:=by split<;>omega
  generalize a.eval=ρ at e1 e2 |-;simp [execOp,ho,resolve,invoke,builtin,Builtin.max_,Builtin.max2,e1,e2];exact e3
theorem c2s {x y:Operand} {ts:Array TypeId} {k:IntKind} {i j:Int} {n q p n' q' p'} (ho:o.op = .call { callee := .builtin .min,args := #[x,y],argTypes:=ts }) (hx:ev S x=some ⟨0,.sc (.int k i),n,q,p⟩) (hy:ev S y=some ⟨0,.sc (.int k j),n',q',p'⟩):AOp P w0 U0 nt ops o (gs++(rd x++rd y)) [] S [(d,.val (.sc (.int k (min i j))))]:=
 j9 hg hd hn h5 (fun k hk=>mem_append_left _ hk) fun s hs a w D hv hm=>by
  have e1:=v7 hm (fun k hk=>hs k (mem_append_right _ (mem_append_left _ hk))) hx;have e2:=v7 hm (fun k hk=>hs k (mem_append_right _ (mem_append_right _ hk))) hy;refine ⟨.int k (min i j),?_,p6 rfl⟩;have e3:(if j<i then j else i)=min i j:=by split<;>omega
  generalize a.eval=ρ at e1 e2 |-;simp [execOp,ho,resolve,invoke,builtin,Builtin.min_,Builtin.min2,e1,e2];exact e3
omit hg hd hn h5 in
theorem b2I {U:Nat->Nat->Prop} {l:List CV} {ao:Option Addr} {m cap z lo hi:Nat} (hz:∀ c∈l,c.size=z) (h:VRep U w (.lst l) (.slice ao m cap)) (h1:lo<=hi) (h2:hi<=l.length):VRep U w (.lst ((l.drop lo).take (hi-lo))) (.slice (if cap=lo then ao else ao.map (·.add (lo*z))) (hi-lo) (cap-lo)):=by
 obtain ⟨ao',m',cap',e,e2,e3,e4,e5,ys,e6,e7⟩:=l5.1 h;injection e with e8 e9 e10;subst e8;subst e9;subst e10;have gS:l=l.take lo++((l.drop lo).take (hi-lo)++(l.drop lo).drop (hi-lo)):=by rw [take_append_drop,take_append_drop]
 have e7':=e7;rw [gS,map_append,map_append] at e7';obtain ⟨y1,y2,f1,f2,f3⟩:=x0 e7';obtain ⟨z1,z2,f4,f5,f6⟩:=x0 f3;have lP:y1.length=lo*z:=by rw [A5 (n:=CV.size) (fun c _ xs h=>h.len) f2,r8 (fun c hc=>hz c (List.mem_of_mem_take hc)),length_take,Nat.min_eq_left (by omega)]
 refine l5.2 ⟨_,hi-lo,cap-lo,rfl,by simp;omega,by omega,by omega,?_,z1,?_,f5⟩
 ·intro hn;split at hn
  ·have:=e5 hn;omega
  ·cases ao with
   | none=>have:=e5 rfl;omega
   | some a=>cases hn
 ·rcases e6 with e6 | ⟨b,off,rfl,hc⟩
  ·left;have:=congrArg List.length f1;rw [e6,f4] at this;simp at this;exact List.eq_nil_of_length_eq_zero (by omega)
  ·by_cases iU:z1=[]
   ·exact .inl iU
   ·right;have kE:cap≠lo:=fun e=>by
     have:(l.drop lo).take (hi-lo)=[]:=by rw [show hi-lo=0 by omega];rfl
     rw [this] at f5;exact iU f5
    refine ⟨b,off+lo*z,?_,fun i gH=>?_⟩
    ·rw [if_neg kE];simp [Addr.add]
    ·have:=hc (y1.length+i) (by rw [f1,f4];simp;omega);rw [f1,f4,List.getElem?_append_right (by omega),show y1.length+i-y1.length=i by omega,List.getElem?_append_left gH] at this;rw [Nat.add_assoc,<-lP];exact this
omit hg hd hn h5 in
theorem D5 {k:IntKind} {j y:Nat} {code:BoundsCode} (h:j<=y):(Instr.sliceBound (.int k (j:Int)) y code).run P w = .ok j w:=by
 have:(0:Int)<=(j:Int)/\(j:Int)<=(y:Int):=⟨by omega,by omega⟩
 simp [Instr.sliceBound,asIntOf,h]
theorem c1p {x y:Operand} {t e:TypeId} {z:Nat} {l:List CV} {k:IntKind} {i:Int} {lo:Nat} {n q p n' q' p'} (ho:o.op = .slice t x (some y) none none) (hu:P.underlying t=some (.slice e)) (hi:(P.info? e).map (·.size)=some z) (hx:ev S x=some ⟨0,.lst l,n,q,p⟩) (hy:ev S y=some ⟨0,.sc (.int k i),n',q',p'⟩) (jY:i=(lo:Int)) (fQ:lo<=l.length) (hz:∀ c∈l,c.size=z):AOp P w0 U0 nt ops o (gs++(rd x++rd y)) [] S [(d,.val (.lst (l.drop lo)))]:=
 j9 hg hd hn h5 (fun k hk=>mem_append_left _ hk) fun s hs a w D hv hm=>by
  have hv:=y7 hm (fun k hk=>hs k (mem_append_right _ (mem_append_left _ hk))) hx;have e2:=v7 hm (fun k hk=>hs k (mem_append_right _ (mem_append_right _ hk))) hy;obtain ⟨ao,m,cap,h1,h2,h3,_⟩:=l5.1 hv;rw [h1] at hv;have nE:=b2I hz hv (lo:=lo) (hi:=l.length) fQ (Nat.le_refl _);rw [take_of_length_le (by simp)] at nE;have kC:(sizeOf e).run P w = .ok z w:=by
   cases gH:P.info? e with
   | none=>rw [gH] at hi;simp at hi
   | some i=>rw [gH] at hi;simp at hi;simp [sizeOf,typeInfo,gH,hi]
  subst jY;refine ⟨_,?_,n4 nE⟩;have hb:=D5 (P:=P) (w:=w) (k:=k) (j:=lo) (y:=l.length) (code := .sliceB) fQ;subst h2;generalize a.eval=ρ at h1 e2 |-;simp [execOp,ho,Instr.sliceAt,Instr.slice,run_underlying hu,h1,e2,Instr.sliceBounds,hb,kC]
theorem c1s {x y:Operand} {t e:TypeId} {z:Nat} {l:List CV} {k:IntKind} {i:Int} {gH:Nat} {n q p n' q' p'} (ho:o.op = .slice t x none (some y) none) (hu:P.underlying t=some (.slice e)) (hi:(P.info? e).map (·.size)=some z) (hx:ev S x=some ⟨0,.lst l,n,q,p⟩) (hy:ev S y=some ⟨0,.sc (.int k i),n',q',p'⟩) (jY:i=(gH:Int)) (aO:gH<=l.length) (hz:∀ c∈l,c.size=z):AOp P w0 U0 nt ops o (gs++(rd x++rd y)) [] S [(d,.val (.lst (l.take gH)))]:=
 j9 hg hd hn h5 (fun k hk=>mem_append_left _ hk) fun s hs a w D hv hm=>by
  have hv:=y7 hm (fun k hk=>hs k (mem_append_right _ (mem_append_left _ hk))) hx;have e2:=v7 hm (fun k hk=>hs k (mem_append_right _ (mem_append_right _ hk))) hy;obtain ⟨ao,m,cap,h1,h2,h3,_⟩:=l5.1 hv;rw [h1] at hv;have nE:=b2I hz hv (lo:=0) (hi:=gH) (Nat.zero_le _) aO;rw [List.drop_zero,Nat.sub_zero,Nat.sub_zero] at nE;have kC:(sizeOf e).run P w = .ok z w:=by
   cases gH:P.info? e with
   | none=>rw [gH] at hi;simp at hi
   | some i=>rw [gH] at hi;simp at hi;simp [sizeOf,typeInfo,gH,hi]
  subst jY;refine ⟨_,?_,n4 nE⟩;have hb:=D5 (P:=P) (w:=w) (k:=k) (j:=gH) (y:=cap) (code := .sliceAcap) (by omega);generalize a.eval=ρ at h1 e2 |-;simp [execOp,ho,Instr.sliceAt,Instr.slice,run_underlying hu,h1,e2,Instr.sliceBounds,hb,kC]
end
theorem zG {P:Program} {w0:World} {U0:UX} {nt:Nat} {ops:Array Oper} {o:Oper} {S:Nat->Option AV} {gs:List Nat} {d:Nat} {f:Nat} {xs:Array Operand} {ys:Array Operand} {cs:List CV} (p:Gd w0 U0 nt ops o gs S:=by exact gN rfl) (q:o.dst=some d:=by exact rfl) (r:Nat.blt d nt=true:=by exact rfl) (t:Nat.blt d 100000=true:=by exact rfl) (u:o.op = .makeFunc (.func f) xs ys:=by exact rfl) (v:a0q S (xs.toList++ys.toList)=some cs:=by exact rfl) (x:a5q cs=true:=by exact rfl):AOp P w0 U0 nt ops o (gs++rdl (xs.toList++ys.toList)) [] S [(d,.val (.fn f xs.size cs))]:=b5V p q r t u v x
theorem zI {P:Program} {w0:World} {U0:UX} {nt:Nat} {ops:Array Oper} {o:Oper} {S:Nat->Option AV} {gs:List Nat} {d:Nat} {x:Operand} {ty:TypeId} {ds:TypeDesc} {z:Nat} {c:CV} {n} {q} {p} (r:Gd w0 U0 nt ops o gs S:=by exact gN rfl) (t:o.dst=some d:=by exact rfl) (u:Nat.blt d nt=true:=by exact rfl) (y:Nat.blt d 100000=true:=by exact rfl) (A:o.op = .load ty x:=by exact rfl) (B:P.underlying ty=some ds:=by exact rfl) (C:(P.info? ty).map (·.size)=some z:=by exact rfl) (E:ev S x=some ⟨0,.ptr c,n,q,p⟩:=by exact rfl) (F:U5 ds=Nat.beq c.k 2:=by exact rfl) (G:c.size=z:=by exact rfl):AOp P w0 U0 nt ops o (gs++rd x) [] S [(d,.val c)]:=F6 r t u y A B C E F G
theorem zJ {P:Program} {w0:World} {U0:UX} {nt:Nat} {ops:Array Oper} {o:Oper} {S:Nat->Option AV} {gs:List Nat} {d:Nat} {x:Operand} {y:Operand} {ts:Array TypeId} {k:IntKind} {i:Int} {j:Int} {n} {q} {p} {n'} {q'} {p'} (r:Gd w0 U0 nt ops o gs S:=by exact gN rfl) (t:o.dst=some d:=by exact rfl) (u:Nat.blt d nt=true:=by exact rfl) (v:Nat.blt d 100000=true:=by exact rfl) (z:o.op = .call { callee := .builtin .min,args := #[x,y],argTypes:=ts }:=by exact rfl) (A:ev S x=some ⟨0,.sc (.int k i),n,q,p⟩:=by exact rfl) (B:ev S y=some ⟨0,.sc (.int k j),n',q',p'⟩:=by exact rfl):AOp P w0 U0 nt ops o (gs++(rd x++rd y)) [] S [(d,.val (.sc (.int k (min i j))))]:=c2s r t u v z A B
theorem zK {P:Program} {w0:World} {U0:UX} {nt:Nat} {ops:Array Oper} {o:Oper} {S:Nat->Option AV} {gs:List Nat} {d:Nat} {x:Operand} {y:Operand} {ts:Array TypeId} {k:IntKind} {i:Int} {j:Int} {n} {q} {p} {n'} {q'} {p'} (r:Gd w0 U0 nt ops o gs S:=by exact gN rfl) (t:o.dst=some d:=by exact rfl) (u:Nat.blt d nt=true:=by exact rfl) (v:Nat.blt d 100000=true:=by exact rfl) (z:o.op = .call { callee := .builtin .max,args := #[x,y],argTypes:=ts }:=by exact rfl) (A:ev S x=some ⟨0,.sc (.int k i),n,q,p⟩:=by exact rfl) (B:ev S y=some ⟨0,.sc (.int k j),n',q',p'⟩:=by exact rfl):AOp P w0 U0 nt ops o (gs++(rd x++rd y)) [] S [(d,.val (.sc (.int k (max i j))))]:=c2L r t u v z A B
theorem zbv {P:Program} {w0:World} {U0:UX} {nt:Nat} {ops:Array Oper} {o:Oper} {S:Nat->Option AV} {gs:List Nat} {d:Nat} {x:Operand} {y:Operand} {t:TypeId} {e:TypeId} {z:Nat} {l:List CV} {k:IntKind} {i:Int} {lo:Nat} {n} {q} {p} {n'} {q'} {p'} (r:Gd w0 U0 nt ops o gs S:=by exact gN rfl) (u:o.dst=some d:=by exact rfl) (v:Nat.blt d nt=true:=by exact rfl) (A:Nat.blt d 100000=true:=by exact rfl) (B:o.op = .slice t x (some y) none none:=by exact rfl) (C:P.underlying t=some (.slice e):=by exact rfl) (E:(P.info? e).map (·.size)=some z:=by exact rfl) (F:ev S x=some ⟨0,.lst l,n,q,p⟩:=by exact rfl) (G:ev S y=some ⟨0,.sc (.int k i),n',q',p'⟩:=by exact rfl) (H:i=(lo:Int):=by exact rfl) (fQ:lo<=l.length:=by omega) (hz:∀ c∈l,c.size=z:=by first | assumption | exact sZ rfl | exact Tm.size_all _ | exact Bd.size_all _ | exact p8 _ | exact bys_size _ | exact Lt.size_all _):AOp P w0 U0 nt ops o (gs++(rd x++rd y)) [] S [(d,.val (.lst (l.drop lo)))]:=c1p r u v A B C E F G H fQ hz
theorem zbI {P:Program} {w0:World} {U0:UX} {nt:Nat} {ops:Array Oper} {o:Oper} {S:Nat->Option AV} {gs:List Nat} {d:Nat} {x:Operand} {y:Operand} {t:TypeId} {e:TypeId} {z:Nat} {l:List CV} {k:IntKind} {i:Int} {gH:Nat} {n} {q} {p} {n'} {q'} {p'} (r:Gd w0 U0 nt ops o gs S:=by exact gN rfl) (u:o.dst=some d:=by exact rfl) (v:Nat.blt d nt=true:=by exact rfl) (A:Nat.blt d 100000=true:=by exact rfl) (B:o.op = .slice t x none (some y) none:=by exact rfl) (C:P.underlying t=some (.slice e):=by exact rfl) (E:(P.info? e).map (·.size)=some z:=by exact rfl) (F:ev S x=some ⟨0,.lst l,n,q,p⟩:=by exact rfl) (G:ev S y=some ⟨0,.sc (.int k i),n',q',p'⟩:=by exact rfl) (H:i=(gH:Int):=by exact rfl) (aO:gH<=l.length:=by omega) (hz:∀ c∈l,c.size=z:=by first | assumption | exact sZ rfl | exact Tm.size_all _ | exact Bd.size_all _ | exact p8 _ | exact bys_size _ | exact Lt.size_all _):AOp P w0 U0 nt ops o (gs++(rd x++rd y)) [] S [(d,.val (.lst (l.take gH)))]:=c1s r u v A B C E F G H aO hz
theorem SimG.moreD (h:SimG w0 U0 nt s a w D hv) {g:Nat} (hg:g<w.heap.size) (gA:∀ k av,look s k=some av->l8 k->av.t≠7->hb (hv k)≠some g):SimG w0 U0 nt s a w (fun b o=>D b o\/b=g) hv:=by
 have kM:∀ b o v,Us w0 U0 D b o->w.cell? ⟨b,o,none⟩=some v->Us w0 U0 (fun b o=>D b o\/b=g) b o/\w.cell? ⟨b,o,none⟩=some v:=fun b o v hu hc=>⟨hu.imp id fun h=>⟨h.1,.inl h.2⟩,hc⟩
 refine ⟨h.below,h.dfr,h.size,fun d av h1 h2=>?_,fun m o av h1 h2 h3 h4=>?_,h.fdis,fun k av h1 h2=>?_,fun k av g' h1 h2 h3 h4=>?_,h.disj,h.fix,fun b o hd=>?_⟩
 ·obtain ⟨v,h3,h4⟩:=h.slot d av h1 h2;exact ⟨v,h3,h4.keep kM⟩
 ·obtain ⟨v,h5,h6⟩:=h.fld m o av h1 h2 h3 h4;exact ⟨v,h5.keep kM,h6⟩
 ·exact (h.obj k av h1 h2).move kM (fun _ h3=>⟨h3,rfl⟩) fun _ _=>rfl
 ·obtain ⟨f1,f2,f3⟩:=h.blk k av g' h1 h2 h3 h4;refine ⟨f1,f2,fun o ho hd=>?_⟩;rcases hd with hd | hd
  ·exact f3 o ho hd
  ·exact gA k av h1 h2 h3 (by rw [h4,hd])
 ·rcases hd with hd | hd
  ·exact h.dlt b o hd
  ·rw [hd];exact hg
theorem SimG.know (h:SimG w0 U0 nt s a w D hv) {d:Nat} {av:AV} {v:Value} (h5:d<100000) (gB:a.tmps[d]?=some v) (bB:AVRep (Us w0 U0 D) w hv (a9 s) av v):SimG w0 U0 nt ((d,av)::s) a w D hv:=by
 have kA:d<nt:=by
  rw [<-h.size];rcases Nat.lt_or_ge d a.tmps.size with h1 | h1
  ·exact h1
  ·rw [Array.getElem?_eq_none h1] at gB;cases gB
 have:=h.put kA h5 bB;have e:a.put (some d) v=a:=by
  have:a.tmps.setIfInBounds d v=a.tmps:=by
   apply Array.ext_getElem?;intro i;rw [Array.getElem?_setIfInBounds];split
   ·rename_i e;subst e;rw [if_pos (by rw [h.size];exact kA),gB]
   ·rfl
  show { a with tmps:=a.tmps.setIfInBounds d v }=a;rw [this]
 rw [e] at this;exact this
theorem p9 (n:Nat) {c:CV} {k q p v l q1} (hb:look s (100000+n)=some ⟨5,c,k,q,p⟩) (hs:look s n=some ⟨2,⟨q1,v,l⟩,n,0,[]⟩) (jF:Nat.blt n 100000=true) {s':AS} (kJ:SubL s s') (hk:S5 s' (100000+n)=true) (gW:S5 s' n=true) (hr:y8 s' [(n,[])]=true):Wk w0 U0 nt s ((n,.val (.ptr c))::s'):=by
 rintro a w ⟨D,hv,h⟩;have hn:=bL jF;obtain ⟨g,xs,ty,g0,g1,g2,g5⟩:=h.box hb (by omega);obtain ⟨v',g6,g7⟩:=h.slot n _ hs hn;have g7:v' = .pointer (some ⟨p7 (hv (100000+n)),0,none⟩):=g7.2;have jG:Go.Proofs.YteegmcfobgpemaaGreat.hb (hv (100000+n))=some g:=by rw [g0];rfl
 have rR:p7 (hv (100000+n))=g:=by rw [g0];rfl
 rw [rR] at g7;have kJ:=kJ.sub;obtain ⟨f1,f2,f3⟩:=h.blk (100000+n) _ g hb ⟨by omega,by omega⟩ (by simp) jG;have nokey:∀ {t:AS} {m:Nat},S5 t m=true->∀ av,look t m≠some av:=fun {t m} h1 av h2=>by have h3:=C7 h2;unfold S5 at h1;rw [List.all_eq_true] at h1;have:=h1 _ h3;simp at this
 have pM:∀ av,look s' (100000+n)≠some av:=nokey hk;have h2:=(h.sub kJ).moreD (g:=g) f2 fun k av h3 h4 h5 h6=>h.disj (100000+n) k _ av g hb (kJ _ _ h3) ⟨by omega,by omega⟩ h4 (by simp) h5 (fun e=>pM av (e▸h3)) jG h6;rcases f1 with f1 | f1
 ·refine ⟨_,hv,h2.know hn g6 (n4 ?_)⟩;rw [g7];refine X8.2 ⟨g,0,xs,rfl,g2.keep fun b o v hu hc=>⟨hu.imp id fun h=>⟨h.1,.inl h.2⟩,hc⟩,fun i hi=>⟨.inr ⟨f1,.inr rfl⟩,?_⟩⟩;have:=G7 (ys:=[]) (us:=[]) g1 (by simp) i hi;simpa using this
 ·exact absurd (a1H (by omega) _) f1.1
end
section
variable {P:Program} {w0:World} {U0:UX} {nt:Nat} {ops:Array Oper} {o:Oper} {S:Nat->Option AV} {gs:List Nat} {d:Nat} {s:AS} {a:Act} {w:World} {D:Nat->Nat->Prop} {hv:Nat->Value}
theorem a2A (w:World) (o:Obj):w.grownBy (w.alloc o) none:=⟨rfl,rfl,rfl,by simp,fun k hk _=>Below.heap_alloc _ _ _ hk⟩
theorem SimG.lit (h:SimG w0 U0 nt s a w D hv) (hd:d<nt) (h5:d<100000) {n e z len:Nat} (hn:RW n) (hr:S3 s n) (hz:0<z) (kD:len<=maxLen) {r:Array Value} (iV:r.size=len*z) {cs:List CV} (eF:cs.length=len) (rS:Sq (cs.map fun c=>Rep (Us w0 U0 D) w c) r.toList) :
  Sim w0 U0 nt ((d,.own (.lst cs) n)::(n,.tok e z)::s) (a.put (some d) (.slice (some ⟨w.heap.size,0,none⟩) len len)) (w.alloc (.cells r e)):=by
 have hb:Below w.heap.size w (w.alloc (.cells r e)):=(Below.refl _ _).alloc (Nat.le_refl _) _;have ho:(w.alloc (.cells r e)).ownsRow 0 e z (.slice (some ⟨w.heap.size,0,none⟩) len len) (0+len) ([]++r.toList):=by refine ⟨by simp [iV],.inr ⟨w.heap.size,len,r,by simp,Nat.zero_le _,w7 _ _,by simp,kD,iV,?_⟩⟩;rw [Nat.zero_add,nil_append,take_of_length_le (by simp [iV])]
 obtain ⟨s1,s2⟩:=h.app (v := .slice none 0 0) hn hr (World.ownsRow_nil _ _ e z) hz (fun g hg=>by cases hg) ho (a2A w _) (.inr ⟨a2A w _,fun g hg=>by cases hg;exact Nat.le_refl _⟩);refine ⟨_,_,s1.put hd h5 ⟨?_,fun _=>?_⟩⟩
 ·refine l5.2 ⟨_,len,len,rfl,eF.symm,Nat.le_refl _,kD,(fun h=>by cases h),r.toList,?_,rS.keep s2⟩;have:=At.new (U:=Us w0 U0 (Da D (.slice (some ⟨w.heap.size,0,none⟩) len len) ((0+len)*z))) w r.toList e (fun i hi => .inr ⟨h.below.size,.inr ⟨rfl,by rw [Nat.zero_add,<-iV];simpa using hi⟩⟩);rw [Array.toArray_toList] at this;exact this
 ·refine ⟨0,.lst cs,rfl,?_⟩;unfold I2;rw [if_neg (by show n≠1;unfold RW at hn;omega)];simp [Value.cells]
theorem b4D (hg:Gd w0 U0 nt ops o gs S) (hd:o.dst=some d) (hn:Nat.blt d nt=true) (h5:Nat.blt d 100000=true) {t e:TypeId} {ie:TypeInfo} {sz:Nat} (ho:o.op = .buildSlice t 0 #[]) (hu:P.underlying t=some (.slice e)) (hi:P.info? e=some ie) (rT:ie.size=sz) (hp:Nat.blt 0 sz=true) :
  AOp P w0 U0 nt ops o gs [(300000+d,[])] S [(d,.own (.lst []) (300000+d)),(300000+d,.tok e sz)]:=by
 subst rT;intro s hs hN a w ⟨D,hv,h⟩ Q K hK;rw [if_pos (hg s hs a w D hv h)];have he:(execOp a.eval o).run P w = .ok (.value (.slice (some ⟨w.heap.size,0,none⟩) 0 0)) (w.alloc (.cells #[] e)):=by simp [execOp,ho,Instr.buildSlice,run_underlying hu,sizeOf,typeInfo,hi,Instr.fill,newRow];congr 2;apply Array.ext';simp
 unfold Oper.wp;rw [he,Oper.upon_value,hd];exact hK _ _ (h.lit (bL hn) (bL h5) ⟨by omega,by have:=bL h5;omega⟩ (hN (300000+d,[]) (by simp)).nr (bL hp) (by unfold maxLen;omega) (by simp) rfl rfl)
theorem zU {P:Program} {w0:World} {U0:UX} {nt:Nat} {ops:Array Oper} {o:Oper} {S:Nat->Option AV} {gs:List Nat} {d:Nat} {t:TypeId} {e:TypeId} {ie:TypeInfo} {sz:Nat} (p:Gd w0 U0 nt ops o gs S:=by exact gN rfl) (q:o.dst=some d:=by exact rfl) (r:Nat.blt d nt=true:=by exact rfl) (u:Nat.blt d 100000=true:=by exact rfl) (v:o.op = .buildSlice t 0 #[]:=by exact rfl) (x:P.underlying t=some (.slice e):=by exact rfl) (y:P.info? e=some ie:=by exact rfl) (z:ie.size=sz:=by exact rfl) (A:Nat.blt 0 sz=true:=by exact rfl):AOp P w0 U0 nt ops o gs [(300000+d,[])] S [(d,.own (.lst []) (300000+d)),(300000+d,.tok e sz)]:=b4D p q r u v x y z A
end
structure Tm where
 f:Int
 l:List Tm
def Tm.ps (t:Tm):List Tm:=if t.f<0 then [] else t.l
theorem Tm.ind {P:Tm->Prop} (h:∀ f l,(∀ t∈l,P t)->P (.mk f l)):∀ t,P t:=by
 intro t
 induction hn:SizeOf.sizeOf t using Nat.strongRecOn generalizing t with
 | ind n ih =>
  cases t with
  | mk f l =>
   refine h f l fun s hs=>ih (SizeOf.sizeOf s) ?_ s rfl;have:=List.sizeOf_lt_of_mem hs;simp at hn;omega
theorem Tm.ps_mem {t s:Tm} (h:s∈t.ps):s∈t.l/\0<=t.f:=by
 unfold Tm.ps at h;split at h
 ·cases h
 ·exact ⟨h,by omega⟩
theorem Tm.ps_of_var {t:Tm} (h:t.f<0):t.ps=[]:=if_pos h
theorem Tm.ps_of_sym {t:Tm} (h:0<=t.f):t.ps=t.l:=if_neg (by omega)
theorem Tm.indp {P:Tm->Prop} (h:∀ t,(∀ s∈t.ps,P s)->P t):∀ t,P t:=
 Tm.ind fun f l ih=>h _ fun s hs=>ih s (Tm.ps_mem hs).1
def Tm.flat:Tm->List Tm
 | ⟨f,l⟩=>⟨f,l⟩::(if f<0 then [] else (l.map Tm.flat).flatten)
theorem Tm.flat_eq (t:Tm):t.flat=t::t.ps.flatMap Tm.flat:=by
 cases t with
 | mk f l =>
  rw [Tm.flat,<-List.flatMap_def];unfold Tm.ps;simp only;by_cases h:f<0<;>simp [h]
def Tm.size (t:Tm):Nat:=t.flat.length
theorem Tm.size_eq (t:Tm):t.size=1+(t.ps.flatMap Tm.flat).length:=by
 unfold Tm.size;rw [Tm.flat_eq,length_cons];omega
theorem t8 {α β:Type} (g:α->List β) {l:List α} {x:α} (h:x∈l):(g x).length<=(l.flatMap g).length:=by
 induction l with
 | nil=>cases h
 | cons y ys ih =>
  rw [flatMap_cons,length_append];rcases mem_cons.1 h with rfl | h
  ·omega
  ·have:=ih h;omega
theorem Tm.size_pos (t:Tm):1<=t.size:=by rw [Tm.size_eq];omega
theorem Tm.size_part {t s:Tm} (h:s∈t.ps):s.size<t.size:=by
 have:=t8 Tm.flat h;rw [t.size_eq];unfold Tm.size;omega
theorem Tm.len_ps (t:Tm):t.ps.length<t.size:=by
 rw [t.size_eq];have:∀ l:List Tm,l.length<=(l.flatMap Tm.flat).length:=by
  intro l
  induction l with
  | nil=>simp
  | cons y ys ih =>
   have:=y.size_pos;unfold Tm.size at this;rw [flatMap_cons,length_append,length_cons];omega
 have:=this t.ps;omega
def Tm.strip:Tm->Tm
 | ⟨f,l⟩=>⟨f,if f<0 then [] else l.map Tm.strip⟩
theorem Tm.strip_eq (t:Tm):t.strip = .mk t.f (t.ps.map Tm.strip):=by
 cases t with
 | mk f l =>
  rw [Tm.strip];unfold Tm.ps;simp only;by_cases h:f<0<;>simp [h]
theorem Tm.strip_f (t:Tm):t.strip.f=t.f:=by rw [Tm.strip_eq]
theorem Tm.strip_l (t:Tm):t.strip.l=t.ps.map Tm.strip:=by rw [Tm.strip_eq]
theorem Tm.strip_ps (t:Tm):t.strip.ps=t.ps.map Tm.strip:=by
 unfold Tm.ps;rw [Tm.strip_f,Tm.strip_l];split
 ·rfl
 ·unfold Tm.ps;rw [if_neg (by assumption)]
theorem Tm.strip_strip (t:Tm):t.strip.strip=t.strip:=by
 induction t using Tm.indp with
 | h t ih =>
  rw [Tm.strip_eq t.strip,Tm.strip_f,Tm.strip_ps,List.map_map,Tm.strip_eq t];congr 1;exact List.map_congr_left fun s hs=>ih s hs
theorem Tm.strip_size (t:Tm):t.strip.size=t.size:=by
 induction t using Tm.indp with
 | h t ih =>
  rw [Tm.size_eq,Tm.size_eq,Tm.strip_ps];congr 1;have:∀ l:List Tm,(∀ s∈l,s.strip.size=s.size)->((l.map Tm.strip).flatMap Tm.flat).length=(l.flatMap Tm.flat).length:=by
   intro l hl
   induction l with
   | nil=>rfl
   | cons y ys ih2 =>
    have h1:=hl y (by simp);unfold Tm.size at h1;rw [map_cons,flatMap_cons,flatMap_cons,length_append,length_append,h1,ih2 (fun s hs=>hl s (mem_cons_of_mem _ hs))]
  exact this _ ih
noncomputable def Tm.cv (t:Tm):CV:=Tm.rec (motive_1:=fun _=>CV) (motive_2:=fun _=>List CV) (fun f _ ih => .row [.i f,.lst ih]) [] (fun _ _ a b=>a::b) t
noncomputable abbrev Tm.cw (t:Tm):CV := .row [.i t.f,.lst (t.l.map Tm.cv)]
theorem Tm.cv_eq (t:Tm):t.cv=t.cw:=by
 cases t with
 | mk f l =>
  have hl:∀ l:List Tm,Tm.rec_1 (motive_1:=fun _=>CV) (motive_2:=fun _=>List CV) (fun f _ ih => .row [.i f,.lst ih]) [] (fun _ _ a b=>a::b) l=l.map Tm.cv:=by
   intro l
   induction l with
   | nil=>rfl
   | cons c cs ih=>rw [map_cons,<-ih];rfl
  show CV.row [.i f,.lst _]=CV.row [.i f,.lst _];rw [<-hl]
theorem Tm.size_cv (t:Tm):t.cv.size=2:=by rw [Tm.cv_eq];rfl
theorem Tm.size_all (l:List Tm):∀ c∈l.map Tm.cv,c.size=2:=by
 intro c hc;obtain ⟨t,_,rfl⟩:=mem_map.1 hc;exact t.size_cv
theorem Tm.map_at {l:List Tm} {i:Nat} {t:Tm} (h:l[i]?=some t):(l.map Tm.cv)[i]?=some t.cw:=by rw [List.getElem?_map,h,Option.map_some,Tm.cv_eq]
def Tm.ok:Tm->Prop
 | ⟨f,l⟩=>l.length<=10000000000/\∀ t∈l,Tm.ok t
theorem Tm.ok_iff (t:Tm):t.ok↔t.l.length<=10000000000/\∀ s∈t.l,s.ok:=by cases t;rw [Tm.ok]
set_option maxHeartbeats 1000000 in
theorem p8 (l:List Int):∀ c∈l.map CV.i,c.size=1:=by
 intro c hc;obtain ⟨z,_,rfl⟩:=mem_map.1 hc;rfl
def Cu (U:Nat->Prop) (w:World) (a:Option Addr) (xs:List Value):Prop:=
 xs=[]\/∃ b off,a=some ⟨b,off,none⟩/\U b/\b<w.heap.size/\∀ i,i<xs.length->w.cell? ⟨b,off+i,none⟩=xs[i]?
def c2f:List (Int×(Option Addr->Nat->Nat->Prop))->List Value->Prop
 | [],xs=>xs=[]
 | t::ts,xs=>∃ a n c ys,xs = .int .i64 t.1 :: .slice a n c::ys/\t.2 a n c/\c2f ts ys
def Tat (U:Nat->Prop) (w:World):Tm->Option Addr->Nat->Nat->Prop
 | ⟨f,l⟩,a,n,c=>(-9223372036854775808<=f/\f<=9223372036854775807)/\(n=l.length/\n<=c/\c<=maxLen/\(a=none->n=0/\c=0)/\∃ xs,Cu U w a xs/\c2f (l.map fun s=>(s.f,fun a n c=>Tat U w s a n c)) xs)
def Ecs (U:Nat->Prop) (w:World) (l:List Tm) (xs:List Value):Prop:=c2f (l.map fun s=>(s.f,fun a n c=>Tat U w s a n c)) xs
def Las (U:Nat->Prop) (w:World) (l:List Tm) (a:Option Addr) (n c:Nat):Prop:=
 n=l.length/\n<=c/\c<=maxLen/\(a=none->n=0/\c=0)/\∃ xs,Cu U w a xs/\Ecs U w l xs
theorem a0r {U:Nat->Prop} {w:World} {t:Tm} {a:Option Addr} {n c:Nat}:Tat U w t a n c↔(-9223372036854775808<=t.f/\t.f<=9223372036854775807)/\Las U w t.l a n c:=by
 cases t with
 | mk f l=>rw [Tat];rfl
theorem Ecs.nil_iff {U:Nat->Prop} {w:World} {xs:List Value}:Ecs U w [] xs↔xs=[]:=Iff.rfl
theorem Ecs.cons_iff {U:Nat->Prop} {w:World} {t:Tm} {ts:List Tm} {xs:List Value}:Ecs U w (t::ts) xs↔∃ a n c ys,xs = .int .i64 t.f :: .slice a n c::ys/\Tat U w t a n c/\Ecs U w ts ys:=Iff.rfl
theorem Las.nil (U:Nat->Prop) (w:World):Las U w [] none 0 0:=⟨rfl,Nat.le_refl _,by unfold maxLen;omega,fun _=>⟨rfl,rfl⟩,[],.inl rfl,Ecs.nil_iff.2 rfl⟩
theorem Ecs.length {U:Nat->Prop} {w:World}:∀ {l:List Tm} {xs:List Value},Ecs U w l xs->xs.length=l.length*2
 | [],_,h=>by rw [Ecs.nil_iff.1 h];rfl
 | t::ts,_,h=>by
  obtain ⟨a,n,c,ys,rfl,_,h2⟩:=Ecs.cons_iff.1 h;have:=Ecs.length h2;simp only [length_cons];omega
theorem Ecs.at {U:Nat->Prop} {w:World}:∀ {l:List Tm} {xs:List Value},Ecs U w l xs->∀ {i:Nat},i<l.length->∃ s a n c,l[i]?=some s/\Tat U w s a n c/\xs[i*2]?=some (.int .i64 s.f)/\xs[i*2+1]?=some (.slice a n c)
 | [],_,h,i,hi=>by simp at hi
 | t::ts,_,h,i,hi=>by
  obtain ⟨a,n,c,ys,rfl,h1,h2⟩:=Ecs.cons_iff.1 h;cases i with
  | zero=>exact ⟨t,a,n,c,rfl,h1,rfl,rfl⟩
  | succ i =>
   obtain ⟨s,a',n',c',e1,e2,e3,e4⟩:=Ecs.at h2 (i:=i) (by simpa using hi);refine ⟨s,a',n',c',by simpa using e1,e2,?_,?_⟩
   ·rw [show (i+1)*2=i*2+1+1 by omega];simpa using e3
   ·rw [show (i+1)*2+1=i*2+1+1+1 by omega];simpa using e4
theorem Ecs.append {U:Nat->Prop} {w:World}:∀ {l m:List Tm} {xs ys:List Value},Ecs U w l xs->Ecs U w m ys->Ecs U w (l++m) (xs++ys)
 | [],m,xs,ys,h,h2=>by rw [Ecs.nil_iff.1 h];exact h2
 | t::ts,m,xs,ys,h,h2=>by
  obtain ⟨a,n,c,zs,rfl,h1,h3⟩:=Ecs.cons_iff.1 h;exact Ecs.cons_iff.2 ⟨a,n,c,zs++ys,rfl,h1,Ecs.append h3 h2⟩
theorem Ecs.single {U:Nat->Prop} {w:World} {t:Tm} {a:Option Addr} {n c:Nat} (h:Tat U w t a n c):Ecs U w [t] [.int .i64 t.f,.slice a n c]:=Ecs.cons_iff.2 ⟨a,n,c,[],rfl,h,Ecs.nil_iff.2 rfl⟩
theorem Las.at {U:Nat->Prop} {w:World} {l:List Tm} {a:Option Addr} {n c:Nat} (h:Las U w l a n c) {i:Nat} (hi:i<n) :
  ∃ b off s a' n' c',a=some ⟨b,off,none⟩/\U b/\b<w.heap.size/\l[i]?=some s/\Tat U w s a' n' c'/\w.cell? ⟨b,off+i*2,none⟩=some (.int .i64 s.f)/\w.cell? ⟨b,off+i*2+1,none⟩=some (.slice a' n' c'):=by
 obtain ⟨h1,_,_,_,xs,h2,h3⟩:=h;obtain ⟨s,a',n',c',e1,e2,e3,e4⟩:=h3.at (i:=i) (by omega);have hl:=h3.length;rcases h2 with rfl | ⟨b,off,rfl,hu,kA,hc⟩
 ·simp at e3
 ·refine ⟨b,off,s,a',n',c',rfl,hu,kA,e1,e2,?_,?_⟩
  ·rw [hc (i*2) (by omega),e3]
  ·rw [Nat.add_assoc,hc (i*2+1) (by omega),e4]
theorem a0B {w w':World} {b o:Nat} (h:w'.heap[b]?=w.heap[b]?):w'.cell? ⟨b,o,none⟩=w.cell? ⟨b,o,none⟩:=by simp [World.cell?,h]
theorem Cu.keep {U V:Nat->Prop} {w w':World} {a:Option Addr} {xs:List Value} (h:Cu U w a xs) (hs:∀ b,U b->b<w.heap.size->V b/\w'.heap[b]?=w.heap[b]?):Cu V w' a xs:=by
 rcases h with h | ⟨b,off,ha,hu,kA,hc⟩
 ·exact .inl h
 ·obtain ⟨h1,h2⟩:=hs b hu kA;refine .inr ⟨b,off,ha,h1,?_,fun i hi=>?_⟩
  ·rw [Array.getElem?_eq_getElem kA] at h2;exact (Array.getElem?_eq_some_iff.1 h2).1
  ·rw [a0B h2];exact hc i hi
theorem a4R {U V:Nat->Prop} {w w':World}:∀ {l:List Tm} {xs:List Value},(∀ t∈l,∀ a n c,Tat U w t a n c->Tat V w' t a n c)->Ecs U w l xs->Ecs V w' l xs
 | [],_,_,h=>h
 | t::ts,_,ht,h=>by
  obtain ⟨a,n,c,ys,h1,h2,h3⟩:=Ecs.cons_iff.1 h;exact Ecs.cons_iff.2 ⟨a,n,c,ys,h1,ht t (by simp) a n c h2,a4R (fun s hs=>ht s (mem_cons_of_mem _ hs)) h3⟩
theorem Tat.keep {U V:Nat->Prop} {w w':World} (hs:∀ b,U b->b<w.heap.size->V b/\w'.heap[b]?=w.heap[b]?):∀ {t:Tm} {a:Option Addr} {n c:Nat},Tat U w t a n c->Tat V w' t a n c:=by
 intro t
 induction t using Tm.ind with
 | h f l ih =>
  intro a n c h;rw [a0r] at h |-;obtain ⟨h1,h2,h3,h4,h5,xs,h6,h7⟩:=h;exact ⟨h1,h2,h3,h4,h5,xs,h6.keep hs,a4R (fun s gD a n c=>ih s gD) h7⟩
theorem Ecs.keep {U V:Nat->Prop} {w w':World} (hs:∀ b,U b->b<w.heap.size->V b/\w'.heap[b]?=w.heap[b]?) {l:List Tm} {xs:List Value} (h:Ecs U w l xs):Ecs V w' l xs:=a4R (fun s _ a n c h'=>h'.keep hs) h
theorem Las.keep {U V:Nat->Prop} {w w':World} (hs:∀ b,U b->b<w.heap.size->V b/\w'.heap[b]?=w.heap[b]?) {l:List Tm} {a:Option Addr} {n c:Nat} (h:Las U w l a n c):Las V w' l a n c:=by
 obtain ⟨h2,h3,h4,h5,xs,h6,h7⟩:=h;exact ⟨h2,h3,h4,h5,xs,h6.keep hs,Ecs.keep hs h7⟩
theorem Tat.below {U:Nat->Prop} {B:Nat} {w w':World} (hb:Below B w w') (hU:∀ b,U b->b<w.heap.size->b<B) {t:Tm} {a:Option Addr} {n c:Nat} (h:Tat U w t a n c):Tat U w' t a n c:=
 h.keep fun b h1 h2=>⟨h1,hb.block b (hU b h1 h2)⟩
theorem Las.below {U:Nat->Prop} {B:Nat} {w w':World} (hb:Below B w w') (hU:∀ b,U b->b<w.heap.size->b<B) {l:List Tm} {a:Option Addr} {n c:Nat} (h:Las U w l a n c):Las U w' l a n c:=
 h.keep fun b h1 h2=>⟨h1,hb.block b (hU b h1 h2)⟩
theorem Ecs.below {U:Nat->Prop} {B:Nat} {w w':World} (hb:Below B w w') (hU:∀ b,U b->b<w.heap.size->b<B) {l:List Tm} {xs:List Value} (h:Ecs U w l xs):Ecs U w' l xs:=
 h.keep fun b h1 h2=>⟨h1,hb.block b (hU b h1 h2)⟩
theorem Tat.mono {U V:Nat->Prop} {w:World} (hU:∀ b,U b->b<w.heap.size->V b) {t:Tm} {a:Option Addr} {n c:Nat} (h:Tat U w t a n c):Tat V w t a n c:=
 h.keep fun b h1 h2=>⟨hU b h1 h2,rfl⟩
theorem Ecs.mono {U V:Nat->Prop} {w:World} (hU:∀ b,U b->b<w.heap.size->V b) {l:List Tm} {xs:List Value} (h:Ecs U w l xs):Ecs V w l xs:=
 h.keep fun b h1 h2=>⟨hU b h1 h2,rfl⟩
theorem Tat.las {U:Nat->Prop} {w:World} {t:Tm} {a:Option Addr} {n c:Nat} (h:Tat U w t a n c):Las U w t.l a n c:=(a0r.1 h).2
theorem Tat.wf {U:Nat->Prop} {w:World} {t:Tm} {a:Option Addr} {n c:Nat} (h:Tat U w t a n c) : -9223372036854775808<=t.f/\t.f<=9223372036854775807:=(a0r.1 h).1
theorem Las.len {U:Nat->Prop} {w:World} {l:List Tm} {a:Option Addr} {n c:Nat} (h:Las U w l a n c):n=l.length/\n<=c/\c<=maxLen:=⟨h.1,h.2.1,h.2.2.1⟩
theorem hid {p:Prop} (h:p):Hid p:=h
theorem bW (w:World):Below w.heap.size w w:=Below.refl _ _
theorem bA {w w':World} (h:Below w.heap.size w w') (o:Obj):Below w.heap.size w (w'.alloc o):=h.alloc h.size o
theorem bN {w w' w'':World} (h:Below w.heap.size w w') (h2:Below w'.heap.size w' w''):Below w.heap.size w w'':=h.trans (h2.mono h.size)
theorem bD {w w':World} (h:Below w.heap.size w w'):Below w.heap.size w w'.drew:=h.drew
theorem Tat.bw {U:Nat->Prop} {w w':World} {t:Tm} {a:Option Addr} {n c:Nat} (h:Tat U w t a n c) (hb:Below w.heap.size w w'):Tat U w' t a n c:=h.below hb fun _ _ h=>h
theorem Las.bw {U:Nat->Prop} {w w':World} {l:List Tm} {a:Option Addr} {n c:Nat} (h:Las U w l a n c) (hb:Below w.heap.size w w'):Las U w' l a n c:=h.below hb fun _ _ h=>h
theorem J3 (f:Int) (a:Option Addr) (n c:Nat) (w:World) :
  Calls Tryz.prog 103 #[.agg #[.int .i64 f,.slice a n c]] w fun e w'=>e = .returned (.bool (decide (f<0)))/\Below w.heap.size w w':=by
 go_enter Tryz.func103,Tryz.ntmps103
 go_wp2
 go_ret
 exact ⟨rfl,bA (bW _) _⟩
theorem a3w (f:Int) (a:Option Addr) (n c:Nat) (w:World) (h1 : -9223372036854775808<=f) (h2:f<0) :
  Calls Tryz.prog 104 #[.agg #[.int .i64 f,.slice a n c]] w fun e w'=>e = .returned (.int .i64 (-1-f))/\Below w.heap.size w w':=by
 go_enter Tryz.func104,Tryz.ntmps104
 go_wp2
 go_ret
 exact ⟨rfl,bA (bW _) _⟩
set_option maxHeartbeats 400000 in
theorem b4A (f:Int) (a:Option Addr) (n c:Nat) (w:World) (h:f<0) :
  Calls Tryz.prog 134 #[.agg #[.int .i64 f,.slice a n c]] w fun e w'=>e = .returned (.slice none 0 0)/\Below w.heap.size w w':=by
 go_enter Tryz.func134,Tryz.ntmps134
 go_wp2_with (go_at_call 103;refine (J3 _ _ _ _ _).mono ?_;rintro e w1 ⟨rfl,kW⟩)
 go_wp2
 go_ret
 exact ⟨rfl,bN (bA (bW _) _) kW⟩
set_option maxHeartbeats 400000 in
theorem b4I (f:Int) (a:Option Addr) (n c:Nat) (w:World) (h:0<=f) :
  Calls Tryz.prog 134 #[.agg #[.int .i64 f,.slice a n c]] w fun e w'=>e = .returned (.slice a n c)/\Below w.heap.size w w':=by
 have h':¬ f<0:=by omega
 have uR:∀ w1,Below (w.alloc (.cells #[.int .i64 f,.slice a n c] 41)).heap.size (w.alloc (.cells #[.int .i64 f,.slice a n c] 41)) w1->w1.cell? ⟨w.heap.size,1,none⟩=some (.slice a n c):=fun w1 hb=>by rw [hb.cell (by simp),World.cell?_alloc_mark];rfl
 go_enter Tryz.func134,Tryz.ntmps134
 go_wp2_with (go_at_call 103;refine (J3 _ _ _ _ _).mono ?_;rintro e w1 ⟨rfl,kW⟩;have gO:=uR w1 kW)
 go_wp2
 go_ret
 exact ⟨rfl,bN (bA (bW _) _) kW⟩
theorem Z9 {U:Nat->Prop} {t:Tm} {a:Option Addr} {n c:Nat} {w:World} (h:Tat U w t a n c) :
  Calls Tryz.prog 134 #[.agg #[.int .i64 t.f,.slice a n c]] w fun e w'=>Below w.heap.size w w'/\∃ a' n' c',e = .returned (.slice a' n' c')/\Las U w' t.ps a' n' c':=by
 by_cases hf:t.f<0
 ·refine (b4A _ _ _ _ _ hf).mono ?_;rintro e w' ⟨rfl,hb⟩;exact ⟨hb,_,_,_,rfl,by rw [Tm.ps_of_var hf];exact Las.nil _ _⟩
 ·refine (b4I _ _ _ _ _ (by omega)).mono ?_;rintro e w' ⟨rfl,hb⟩;exact ⟨hb,_,_,_,rfl,by rw [Tm.ps_of_sym (by omega)];exact h.las.bw hb⟩
theorem a1W (x:Int) (w:World) :
  Calls Tryz.prog 164 #[.int .i64 x] w fun e w'=>e = .returned (.bool false)/\w'=w:=by
 go_enter Tryz.func164,Tryz.ntmps164
 go_wp2
 go_ret
 exact ⟨by simp,rfl⟩
def N7 (x y:Int):Int:=if x<y then -1 else if y<x then 1 else 0
set_option maxHeartbeats 400000 in
theorem M8 (x y:Int) (w:World) :
  Calls Tryz.prog 137 #[.int .i64 x,.int .i64 y] w fun e w'=>e = .returned (.int .i64 (N7 x y))/\Below w.heap.size w w':=by
 rcases Int.lt_trichotomy x y with h | h | h
 ·have h2:N7 x y = -1:=if_pos h;rw [h2];clear h2
  go_enter Tryz.func137,Tryz.ntmps137
  go_wp2_with (go_at_call 164;refine (a1W _ _).mono ?_;rintro e w1 ⟨rfl,rfl⟩)
  go_ret
  exact ⟨rfl,bW _⟩
 ·subst h;have h2:N7 x x=0:=by simp [N7]
  rw [h2];clear h2
  go_enter Tryz.func137,Tryz.ntmps137
  go_wp2_with (go_at_call 164;refine (a1W _ _).mono ?_;rintro e w1 ⟨rfl,rfl⟩)
  go_ret
  exact ⟨rfl,bW _⟩
 ·have h2:N7 x y=1:=by unfold N7;rw [if_neg (by omega),if_pos h]
  rw [h2];clear h2
  go_enter Tryz.func137,Tryz.ntmps137
  go_wp2_with (go_at_call 164;refine (a1W _ _).mono ?_;rintro e w1 ⟨rfl,rfl⟩)
  go_ret
  exact ⟨rfl,bW _⟩
def a7M (x y:Int):Int:=if x<0/\y<0 then N7 (-1-x) (-1-y) else N7 x y
theorem c3a {w w1:World} {x y:Value} {t:TypeId} (hb:Below (w.alloc (.cells #[x,y] t)).heap.size (w.alloc (.cells #[x,y] t)) w1):w1.cell? ⟨w.heap.size,0,none⟩=some x/\w1.cell? ⟨w.heap.size,1,none⟩=some y:=by
 constructor
 ·rw [hb.cell (by simp),World.cell?_alloc_mark];rfl
 ·rw [hb.cell (by simp),World.cell?_alloc_mark];rfl
theorem c1V {w w1:World} {x y x' y':Value} {t t':TypeId} (hb:Below ((w.alloc (.cells #[x,y] t)).alloc (.cells #[x',y'] t')).heap.size ((w.alloc (.cells #[x,y] t)).alloc (.cells #[x',y'] t')) w1) :
  (w1.cell? ⟨w.heap.size,0,none⟩=some x/\w1.cell? ⟨w.heap.size,1,none⟩=some y)/\(w1.cell? ⟨w.heap.size+1,0,none⟩=some x'/\w1.cell? ⟨w.heap.size+1,1,none⟩=some y'):=by
 refine ⟨c3a (bN (bA (bW _) _) hb),?_⟩;have:=c3a hb;rw [World.size_alloc] at this;exact this
set_option maxHeartbeats 800000 in
theorem b3S (f g:Int) (a b:Option Addr) (n c m d:Nat) (w:World) (hf : -9223372036854775808<=f) (hg : -9223372036854775808<=g) :
  Calls Tryz.prog 136 #[.agg #[.int .i64 f,.slice a n c],.agg #[.int .i64 g,.slice b m d]] w fun e w'=>e = .returned (.int .i64 (a7M f g))/\Below w.heap.size w w':=by
 obtain ⟨w0,eT⟩:∃ w0,w0=(w.alloc (.cells #[.int .i64 f,.slice a n c] 41)).alloc (.cells #[.int .i64 g,.slice b m d] 41):=⟨_,rfl⟩
 have HB:Hid (∀ w1,Below w0.heap.size w0 w1->(w1.cell? ⟨w.heap.size,0,none⟩=some (.int .i64 f)/\w1.cell? ⟨w.heap.size,1,none⟩=some (.slice a n c))/\(w1.cell? ⟨w.heap.size+1,0,none⟩=some (.int .i64 g)/\w1.cell? ⟨w.heap.size+1,1,none⟩=some (.slice b m d))):=fun w1 hb=>by rw [eT] at hb;exact c1V hb
 have HW:Hid (w0=(w.alloc (.cells #[.int .i64 f,.slice a n c] 41)).alloc (.cells #[.int .i64 g,.slice b m d] 41)):=eT;have HB0:Hid (Below w.heap.size w w0):=by rw [eT];exact bA (bA (bW _) _) _
 clear eT;have hq:Below w0.heap.size w0 w0:=bW _;obtain ⟨⟨c1,c2⟩,c3,c4⟩:=HB.out w0 hq;by_cases h1:f<0
 ·by_cases h2:g<0
  ·have h3:a7M f g=N7 (-1-f) (-1-g):=if_pos ⟨h1,h2⟩;rw [h3];clear h3;have qL:g <= -1:=by omega
   have h1':f <= -1:=by omega
   go_enter Tryz.func136,Tryz.ntmps136
   go_wp2_with fail
   rw [<-HW.out]
   go_wp2_with (go_at_call 103;refine (J3 _ _ _ _ _).mono ?_;rintro e w1 ⟨rfl,kW⟩;replace hq:=bN hq kW;clear c1 c2 c3 c4 kW;obtain ⟨⟨c1,c2⟩,c3,c4⟩:=HB.out _ hq)
   go_region_held3 (fun w'=>(w'.cell? ⟨w.heap.size,0,none⟩=some (.int .i64 f)/\w'.cell? ⟨w.heap.size,1,none⟩=some (.slice a n c))/\(w'.cell? ⟨w.heap.size+1,0,none⟩=some (.int .i64 g)/\w'.cell? ⟨w.heap.size+1,1,none⟩=some (.slice b m d))) (exact HB.out _ (by first | with_reducible exact hq | with_reducible exact bD hq))
    (first
     | (go_at_call 104;refine (a3w _ _ _ _ _ (by assumption) (by assumption)).mono ?_;rintro e w2 ⟨rfl,gV⟩;replace hq:=bN (by first | with_reducible exact hq | with_reducible exact bD hq) gV;clear gV;dsimp only)
     | (go_at_call 137;refine (M8 _ _ _).mono ?_;rintro e w2 ⟨rfl,gV⟩;replace hq:=bN (by first | with_reducible exact hq | with_reducible exact bD hq) gV;clear gV;dsimp only))
   go_wp2_with fail
   go_ret
   exact ⟨rfl,bN HB0.out hq⟩
  ·have h3:a7M f g=N7 f g:=if_neg (by omega);rw [h3];clear h3
   go_enter Tryz.func136,Tryz.ntmps136
   go_wp2_with fail
   rw [<-HW.out]
   go_wp2_with (first
    | (go_at_call 103;refine (J3 _ _ _ _ _).mono ?_;rintro e w1 ⟨rfl,kW⟩;replace hq:=bN hq kW;clear c1 c2 c3 c4 kW;obtain ⟨⟨c1,c2⟩,c3,c4⟩:=HB.out _ hq)
    | (go_at_call 137;refine (M8 _ _ _).mono ?_;rintro e w1 ⟨rfl,kW⟩))
   go_ret
   exact ⟨rfl,bN (bN HB0.out hq) kW⟩
 ·have h3:a7M f g=N7 f g:=if_neg (by omega);rw [h3];clear h3
  go_enter Tryz.func136,Tryz.ntmps136
  go_wp2_with fail
  rw [<-HW.out]
  go_wp2_with (first
   | (go_at_call 103;refine (J3 _ _ _ _ _).mono ?_;rintro e w1 ⟨rfl,kW⟩;replace hq:=bN hq kW;clear c1 c2 c3 c4 kW;obtain ⟨⟨c1,c2⟩,c3,c4⟩:=HB.out _ hq)
   | (go_at_call 137;refine (M8 _ _ _).mono ?_;rintro e w1 ⟨rfl,kW⟩))
  go_ret
  exact ⟨rfl,bN (bN HB0.out hq) kW⟩
def c1W:List (Tm->Int)->List Tm->Int
 | [],[]=>0
 | [],_::_ => -1
 | _::_,[]=>1
 | c::cs,s::ss=>if c s≠0 then c s else c1W cs ss
def a0M:Tm->Tm->Int
 | ⟨f,l⟩,b=>if f≠b.f then a7M f b.f else if f<0 then 0 else if l.length≠b.l.length then N7 l.length b.l.length else c1W (l.map fun s=>fun b=>a0M s b) b.l
def X4 (l m:List Tm):Int:=c1W (l.map fun s=>fun b=>a0M s b) m
theorem a0X:X4 [] []=0:=rfl
theorem a7A (s:Tm) (ss:List Tm):X4 [] (s::ss) = -1:=rfl
theorem a7O (t:Tm) (ts:List Tm):X4 (t::ts) []=1:=rfl
theorem a6N (t s:Tm) (ts ss:List Tm):X4 (t::ts) (s::ss)=if a0M t s≠0 then a0M t s else X4 ts ss:=rfl
theorem b2g (a b:Tm):a0M a b=if a.f≠b.f then a7M a.f b.f else if a.ps.length≠b.ps.length then N7 a.ps.length b.ps.length else X4 a.ps b.ps:=by
 cases a with
 | mk f l =>
  cases b with
  | mk g m =>
   rw [a0M];unfold Tm.ps;show _=if ¬ f=g then _ else if ¬ (if f<0 then [] else l).length=(if g<0 then [] else m).length then _ else X4 (if f<0 then [] else l) (if g<0 then [] else m)
   simp only;by_cases h:f=g
   ·subst h;by_cases h2:f<0
    ·simp [h2,a0X]
    ·by_cases h3:l.length=m.length<;>simp [h2,h3,X4]
   ·simp [h]
theorem U3 {α:Type} {l:List α} {k:Nat} {x:α} (h:l[k]?=some x):l.drop k=x::l.drop (k+1):=by
 obtain ⟨kA,rfl⟩:=List.getElem?_eq_some_iff.1 h;exact List.drop_eq_getElem_cons kA
set_option maxRecDepth 100000 in
set_option maxHeartbeats 800000 in
theorem a2O {U:Nat->Prop} {la lb:List Tm} {a1 a2:Option Addr} {n1 c1 n2 c2:Nat} {w:World} (h1:Las U w la a1 n1 c1) (h2:Las U w lb a2 n2 c2)
  (hC:∀ t∈la,∀ (s:Tm) (a a':Option Addr) (n c n' c':Nat) (w':World),Tat U w' t a n c->Tat U w' s a' n' c'->Calls Tryz.prog 105 #[.agg #[.int .i64 t.f,.slice a n c],.agg #[.int .i64 s.f,.slice a' n' c']] w' fun e w''=>e = .returned (.int .i64 (a0M t s))/\Below w'.heap.size w' w'') :
  Calls Tryz.prog 138 #[.slice a1 n1 c1,.slice a2 n2 c2,.func (.func 105) #[] #[]] w fun e w'=>e = .returned (.int .i64 (X4 la lb))/\Below w.heap.size w w':=by
 have HL1:Hid (n1=la.length/\n1<=c1/\c1<=maxLen):=h1.len;have HL2:Hid (n2=lb.length/\n2<=c2/\c2<=maxLen):=h2.len;have bS:n1<=9223372036854775807:=by have:=HL1.out;unfold maxLen at this;omega
 have bR:n2<=9223372036854775807:=by have:=HL2.out;unfold maxLen at this;omega
 have HA1:Hid (∀ w',Below w.heap.size w w'->Las U w' la a1 n1 c1):=fun w' hb=>h1.bw hb;have HA2:Hid (∀ w',Below w.heap.size w w'->Las U w' lb a2 n2 c2):=fun w' hb=>h2.bw hb;have HC:=hid hC;clear h1 h2 hC
 go_enter Tryz.func138,Tryz.ntmps138
 go_wp2
 go_loopw [13] (fun i wr=>∃ k:Nat,i = .int .i64 (k:Int)/\k<=n1/\Below w.heap.size w wr/\X4 (la.drop k) (lb.drop k)=X4 la lb) (fun i _=>n1-(intOf i).toNat)
 case atStart=>exact ⟨0,rfl,by omega,bW _,by simp⟩
 case round =>
  obtain ⟨k,rfl,hk,cJ,mK⟩:=hrel;have HCM:=hid mK;clear mK;by_cases kA:k<n1
  ·obtain ⟨b,off,t,a',n',c',rfl,hU,rV,ht,hT,e1,e2⟩:=(HA1.out wr cJ).at kA;have HT:=hid ht;clear ht;by_cases h2:k<n2
   ·obtain ⟨b2,off2,s,a2',n2',c2',rfl,hU2,hlt2',hs,hS,e3,e4⟩:=(HA2.out wr cJ).at h2;have HS:=hid hs;clear hs;have HCall:Hid (∀ w',Below wr.heap.size wr w'->Calls Tryz.prog 105 #[.agg #[.int .i64 t.f,.slice a' n' c'],.agg #[.int .i64 s.f,.slice a2' n2' c2']] w' fun e w''=>e = .returned (.int .i64 (a0M t s))/\Below w'.heap.size w' w''):=fun w' hb=>HC.out t (mem_of_getElem? HT.out) s _ _ _ _ _ _ w' (hT.bw hb) (hS.bw hb);have HD:Hid (X4 (la.drop k) (lb.drop k)=if a0M t s≠0 then a0M t s else X4 (la.drop (k+1)) (lb.drop (k+1))):=by show _=_;rw [U3 HT.out,U3 HS.out,a6N]
    obtain ⟨z,hz⟩:∃ z,z=a0M t s:=⟨_,rfl⟩
    rw [<-hz] at HD HCall;clear hz;by_cases hz0:z=0
    ·subst hz0;have HE:Hid (X4 (la.drop (k+1)) (lb.drop (k+1))=X4 la lb):=by show _=_;rw [<-HCM.out,HD.out];simp
     go_wp2_with (go_at_call 105;refine (HCall.out _ (bA (bA (bW _) _) _)).mono ?_;rintro e w1 ⟨rfl,kW⟩)
     go_roundw
     case rel=>exact ⟨k+1,by go_num,by omega,bN cJ (bN (bA (bA (bW _) _) _) kW),HE.out⟩
     case measure=>simp [intOf];omega
    ·have HE:Hid (X4 la lb=z):=by show _=_;rw [<-HCM.out,HD.out];simp [hz0]
     go_wp2_with (go_at_call 105;refine (HCall.out _ (bA (bA (bW _) _) _)).mono ?_;rintro e w1 ⟨rfl,kW⟩)
     go_ret
     exact ⟨by rw [HE.out];rfl,bN cJ (bN (bA (bA (bW _) _) _) kW)⟩
   ·have HE:Hid (X4 la lb=1):=by show _=_;rw [<-HCM.out,U3 HT.out,show lb.drop k=[] from List.drop_eq_nil_of_le (by have:=HL2.out;omega),a7O]
    go_wp2
    go_ret
    exact ⟨by rw [HE.out];rfl,bN cJ (bA (bW _) _)⟩
  ·have HE:Hid (X4 la lb=if n1<n2 then -1 else 0):=by
    show _=_;rw [<-HCM.out,show la.drop k=[] from List.drop_eq_nil_of_le (by have:=HL1.out;omega)];cases hd:lb.drop k with
    | nil =>
     rw [a0X,if_neg];have:=List.drop_eq_nil_iff.1 hd;have:=HL2.out;omega
    | cons x xs =>
     rw [a7A,if_pos];have h3:¬ lb.drop k=[]:=by rw [hd];simp
     rw [List.drop_eq_nil_iff] at h3;have:=HL2.out;have:=HL1.out;omega
   by_cases h3:n1<n2
   ·go_wp2
    go_ret
    exact ⟨by rw [HE.out,if_pos h3];rfl,cJ⟩
   ·go_wp2
    go_ret
    exact ⟨by rw [HE.out,if_neg (by omega)];rfl,cJ⟩
set_option maxRecDepth 100000 in
set_option maxHeartbeats 800000 in
theorem a8z {U:Nat->Prop}:∀ (t s:Tm) (a a':Option Addr) (n c n' c':Nat) (w:World),Tat U w t a n c->Tat U w s a' n' c' ->
  Calls Tryz.prog 105 #[.agg #[.int .i64 t.f,.slice a n c],.agg #[.int .i64 s.f,.slice a' n' c']] w fun e w'=>e = .returned (.int .i64 (a0M t s))/\Below w.heap.size w w':=by
 intro t
 induction t using Tm.indp with
 | h t ih =>
  intro s a a' n c n' c' w ht hs;obtain ⟨w0,eT⟩:∃ w0,w0=(w.alloc (.cells #[.int .i64 t.f,.slice a n c] 41)).alloc (.cells #[.int .i64 s.f,.slice a' n' c'] 41):=⟨_,rfl⟩
  have HB:Hid (∀ w1,Below w0.heap.size w0 w1->(w1.cell? ⟨w.heap.size,0,none⟩=some (.int .i64 t.f)/\w1.cell? ⟨w.heap.size,1,none⟩=some (.slice a n c))/\(w1.cell? ⟨w.heap.size+1,0,none⟩=some (.int .i64 s.f)/\w1.cell? ⟨w.heap.size+1,1,none⟩=some (.slice a' n' c'))):=fun w1 hb=>by rw [eT] at hb;exact c1V hb
  have HW:=hid eT;have HB0:Hid (Below w.heap.size w w0):=by rw [eT];exact bA (bA (bW _) _) _
  clear eT;have HT:Hid (∀ w1,Below w0.heap.size w0 w1->Tat U w1 t a n c/\Tat U w1 s a' n' c'):=fun w1 hb=>⟨ht.bw (bN HB0.out hb),hs.bw (bN HB0.out hb)⟩
  have HF:=hid (And.intro ht.wf hs.wf);have HE:=hid (b2g t s);have HI:=hid ih;have hq:Below w0.heap.size w0 w0:=bW _;obtain ⟨z,hz⟩:∃ z,z=a0M t s:=⟨_,rfl⟩
  rw [<-hz] at HE |-;clear hz ht hs ih;by_cases hf:t.f=s.f
  ·have HE2:Hid (z=if t.ps.length≠s.ps.length then N7 t.ps.length s.ps.length else X4 t.ps s.ps):=by show _=_;rw [HE.out,if_neg (by simp [hf])]
   have HP1:Hid (∀ w1,Below w0.heap.size w0 w1->Calls Tryz.prog 134 #[.agg #[.int .i64 t.f,.slice a n c]] w1 fun e w'=>Below w1.heap.size w1 w'/\∃ a' n' c',e = .returned (.slice a' n' c')/\Las U w' t.ps a' n' c'):=fun w1 hb=>Z9 (HT.out w1 hb).1;have HP2:Hid (∀ w1,Below w0.heap.size w0 w1->Calls Tryz.prog 134 #[.agg #[.int .i64 t.f,.slice a' n' c']] w1 fun e w'=>Below w1.heap.size w1 w'/\∃ a' n' c',e = .returned (.slice a' n' c')/\Las U w' s.ps a' n' c'):=fun w1 hb=>by have:=Z9 (HT.out w1 hb).2;rw [<-hf] at this;exact this
   rw [<-hf] at HB HW |-;obtain ⟨f,lQ⟩:∃ f,f=t.f:=⟨_,rfl⟩
   rw [<-lQ] at HB HW HP1 HP2 |-;clear HE lQ hf HF HT;obtain ⟨⟨c1,c2⟩,c3,c4⟩:=HB.out w0 hq
   go_enter Tryz.func105,Tryz.ntmps105
   go_wp2_with fail
   rw [<-HW.out]
   go_region_held3 (fun w'=>(w'.cell? ⟨w.heap.size,0,none⟩=some (.int .i64 f)/\w'.cell? ⟨w.heap.size,1,none⟩=some (.slice a n c))/\(w'.cell? ⟨w.heap.size+1,0,none⟩=some (.int .i64 f)/\w'.cell? ⟨w.heap.size+1,1,none⟩=some (.slice a' n' c'))) (exact HB.out _ (by first | with_reducible exact hq | with_reducible exact bD hq))
    (first
     | (go_at_call_of 134 (Value.agg #[Value.int .i64 f,Value.slice a n c]);refine (HP1.out _ (by first | with_reducible exact hq | with_reducible exact bD hq)).mono ?_;rintro e w2 ⟨gV,a2,n2,c2,rfl,kL⟩;replace hq:=bN (by first | with_reducible exact hq | with_reducible exact bD hq) gV;clear gV;dsimp only)
     | (go_at_call_of 134 (Value.agg #[Value.int .i64 f,Value.slice a' n' c']);refine (HP2.out _ (by first | with_reducible exact hq | with_reducible exact bD hq)).mono ?_;rintro e w3 ⟨dV,a3,n3,c3,rfl,iC⟩;replace hq:=bN (by first | with_reducible exact hq | with_reducible exact bD hq) dV;replace kL:=kL.bw (by first | with_reducible exact dV | with_reducible exact bN (bD (bW _)) dV);dsimp only))
   have HN:Hid (n2=t.ps.length/\n3=s.ps.length):=⟨kL.1,iC.1⟩
   by_cases hn:n2=n3
   ·subst hn;have HE3:Hid (z=X4 t.ps s.ps):=by show _=_;rw [HE2.out,if_neg (by have:=HN.out;omega)]
    go_wp2_with (go_at_call 138;refine (a2O kL iC HI.out).mono ?_;rintro e w4 ⟨rfl,eU⟩)
    go_ret
    exact ⟨by rw [HE3.out];rfl,bN (bN HB0.out hq) eU⟩
   ·have HE3:Hid (z=N7 n2 n3):=by show _=_;rw [HE2.out,if_pos (by have:=HN.out;omega),HN.out.1,HN.out.2]
    go_wp2_with (go_at_call 137;refine (M8 _ _ _).mono ?_;rintro e w4 ⟨rfl,eU⟩)
    go_ret
    exact ⟨by rw [HE3.out];rfl,bN (bN HB0.out hq) eU⟩
  ·have HE2:Hid (z=a7M t.f s.f):=by show _=_;rw [HE.out,if_pos hf]
   have xS:=HF.out.1.1;have pN:=HF.out.2.1;obtain ⟨f,lQ⟩:∃ f,f=t.f:=⟨_,rfl⟩
   obtain ⟨g,rW⟩:∃ g,g=s.f:=⟨_,rfl⟩
   rw [<-lQ,<-rW] at HB HW HE2 hf |-;rw [<-lQ] at xS;rw [<-rW] at pN;clear HE lQ rW HF HT;obtain ⟨⟨c1,c2⟩,c3,c4⟩:=HB.out w0 hq
   go_enter Tryz.func105,Tryz.ntmps105
   go_wp2_with fail
   rw [<-HW.out]
   go_wp2_with (go_at_call 136;refine (b3S _ _ _ _ _ _ _ _ _ xS pN).mono ?_;rintro e w1 ⟨rfl,kW⟩)
   go_ret
   exact ⟨by rw [HE2.out];rfl,bN (bN HB0.out hq) kW⟩
def E5 (t s:Tm):Bool:=a0M t s == 0
set_option maxHeartbeats 400000 in
theorem b6s {U:Nat->Prop} (t s:Tm) (a a':Option Addr) (n c n' c':Nat) (w:World) (ht:Tat U w t a n c) (hs:Tat U w s a' n' c') :
  Calls Tryz.prog 76 #[.agg #[.int .i64 t.f,.slice a n c],.agg #[.int .i64 s.f,.slice a' n' c']] w fun e w'=>e = .returned (.bool (E5 t s))/\Below w.heap.size w w':=by
 have HC:Hid (∀ w1,Below w.heap.size w w1->Calls Tryz.prog 105 #[.agg #[.int .i64 t.f,.slice a n c],.agg #[.int .i64 s.f,.slice a' n' c']] w1 fun e w'=>e = .returned (.int .i64 (a0M t s))/\Below w1.heap.size w1 w'):=fun w1 hb=>a8z t s _ _ _ _ _ _ w1 (ht.bw hb) (hs.bw hb);unfold E5;clear ht hs
 go_enter Tryz.func76,Tryz.ntmps76
 go_wp2_with (go_at_call 105;refine (HC.out _ (bA (bA (bW _) _) _)).mono ?_;rintro e w1 ⟨rfl,kW⟩)
 go_ret
 exact ⟨rfl,bN (bA (bA (bW _) _) _) kW⟩
section
variable {α:Type} {P:Program}
def a2J (P:Program) (gf:Nat) (lb:Array Value) (encs:α->Array Value) (Ok:List α->α->World->Prop) (Kp:World->World->Prop) (S:List α->Prop) (w:World):Prop:=
 ∀ (l:Nat) (J:List α->World->Prop) (W:World),Below w.heap.size w W->(∀ pre A B,J pre A->Below A.heap.size A B->J pre B) ->
  (∀ pre x V,J pre V->Ok pre x V->YieldAt Fence.wide 1 P l (encs x) V fun e V'=>e = .returned (.bool true)/\J (pre++[x]) V'/\Kp V V') ->
  J [] W->CallsIn Fence.wide 2 P gf (#[.func (.yield l) #[] #[]]++lb) W fun e W'=>(∃ v,e = .returned v)/\∃ xs,S xs/\J xs W'
def o8 (fn:FuncId) (tmps:Array Value) (ps:Array Tmp) (assign body:Code) (D:Nat) (st:LoopState):Loop:=
 { state:=st,pending:=none,fn:=fn,tmps:=tmps,params:=ps,assign:=assign,body:=body,defers:=D }
end
section
open Go.RowKit Go.Shelf
attribute [local go_sem] Oper.semAt_some
structure Tr where
 t:Tm
 a:Option Addr
 n:Nat
 c:Nat
def Tr.v (x:Tr):Value := .agg #[.int .i64 x.t.f,.slice x.a x.n x.c]
def Tr.ok (n₀:Nat) (x:Tr) (V:World):Prop:=Tat (·< n₀) V x.t x.a x.n x.c
def KpT (n₀:Nat) (V V':World):Prop:=Below n₀ V V'/\∀ (g:Nat) cs fl,V.heap[g]?=some (Obj.cells cs 41 fl)->V'.heap[g]?=some (Obj.cells cs 41 fl)
theorem KpT.refl (n₀:Nat) (V:World):KpT n₀ V V:=⟨Below.refl _ _,fun _ _ _ h=>h⟩
theorem KpT.trans {n₀:Nat} {A B C:World} (h:KpT n₀ A B) (k:KpT n₀ B C):KpT n₀ A C:=⟨h.1.trans k.1,fun g cs fl e=>k.2 g cs fl (h.2 g cs fl e)⟩
theorem KpT.of_below {n₀:Nat} {A B:World} (hn:n₀<=A.heap.size) (h:Below A.heap.size A B):KpT n₀ A B:=⟨h.mono hn,fun g cs fl e=>by
 rw [h.block g (Array.getElem?_eq_some_iff.1 e).1];exact e⟩
theorem Q9 {w:World} {b:Nat} {x y:Value} {t:TypeId} {fl:Nat×Nat} (h:w.heap[b]?=some (.cells #[x,y] t fl)):w.cell? ⟨b,0,none⟩=some x/\w.cell? ⟨b,1,none⟩=some y:=by
 constructor<;>simp [World.cell?,h]
theorem a8Z {m:Nat} (m':Nat) {P:Program} {l:Nat} {args:Array Value} {W:World} {R:Ending->World->Prop} (h:YieldAt Fence.wide m P l args W R):YieldAt Fence.wide m' P l args W R:=by
 obtain ⟨fn,tmps,assign,body,hy,hR⟩:=h;exact ⟨fn,tmps,assign,body,hy,hR.1,fun c cs _=>hR.2 c cs (fun d h=>by cases h)⟩
set_option maxRecDepth 100000 in
set_option maxHeartbeats 2000000 in
theorem b9y (l n₀ N:Nat) (J:List Tr->World->Prop) (hJ:∀ pre A B,J pre A->Below A.heap.size A B->J pre B)
  (hY:∀ m pre (x:Tr) V,J pre V->x.ok n₀ V/\pre.length<N->YieldAt Fence.wide m Tryz.prog l #[x.v] V fun e V'=>e = .returned (.bool true)/\J (pre++[x]) V'/\KpT n₀ V V') (t:Tm) :
  ∀ (d:Nat) (a:Option Addr) (n c:Nat) (pre:List Tr) (W:World),Tat (·< n₀) W t a n c->n₀<=W.heap.size->J pre W->pre.length+t.size<=N ->
   CallsIn Fence.wide d Tryz.prog 107 #[.agg #[.int .i64 t.f,.slice a n c],.func (.yield l) #[] #[]] W fun e W'=>e = .returned (.bool true)/\∃ xs:List Tr,xs.map Tr.t=t.flat/\J (pre++xs) W'/\KpT n₀ W W':=by
 induction t using Tm.indp with
 | h t ih =>
  intro d a n c pre W ht hn gC hN;have dT:=t.size_pos;have qO:∀ k:Nat,(Fence.wide.depth.isSome=true->1<=k):=fun k h=>by cases h
  obtain ⟨W1,gX⟩:∃ W1,W1=W.alloc (.cells #[.int .i64 t.f,.slice a n c] 41):=⟨_,rfl⟩
  have kW:Below W.heap.size W W1:=by rw [gX];exact bA (bW _) _
  have fR:W1.heap[W.heap.size]?=some (.cells #[.int .i64 t.f,.slice a n c] 41 (0,0)):=by rw [gX];exact World.alloc_heap_new _ _
  obtain ⟨c1,c2⟩:=Q9 fR;have lB:Tat (·< n₀) W1 t a n c:=ht.bw kW;obtain ⟨fn,tmps,assign,body,hy,hR⟩:=hY (d-1) pre ⟨t,a,n,c⟩ W1 (hJ _ _ _ gC kW) ⟨lB,by omega⟩;dsimp only [Tr.v] at hy;have HW:=hid gX;clear gX;refine callsIn_of_wp Tryz.func107 rfl trivial ?_ rfl;simp only [Tryz.ntmps107,size_toArray,length_cons,length_nil,Nat.reduceAdd,Nat.reduceSub,Array.replicate_succ,Array.replicate_zero,push_toArray,append_toArray,nil_append,cons_append];rw [HW.out] at hy hR
  gi_wp2_with fail
  refine ⟨qO _,hR.mono ?_⟩;rw [<-HW.out];rintro e W2 ⟨rfl,jI,gW⟩;obtain ⟨c1,c2⟩:=Q9 (gW.2 _ _ _ fR);have ht2:Tat (·< n₀) W2 t a n c:=lB.below gW.1 fun b h _=>h;have gF:KpT n₀ W W2:=(KpT.of_below hn kW).trans gW;have bR:n₀<=W2.heap.size:=Nat.le_trans hn gF.1.size
  gi_wp2_with (refine ⟨trivial,qO _,?_⟩;gi_at_call 134;refine (callsIn_wide.2 (Z9 ht2)).mono ?_;rintro e W3 ⟨dV,a3,n3,c3,rfl,iC⟩)
  have HL3:=hid iC.len;have hm3:n3<=9223372036854775807:=by have:=HL3.out;unfold maxLen at this;omega
  have qP:KpT n₀ W W3:=gF.trans (KpT.of_below bR dV);have pO:=hJ _ _ _ jI dV;have HLs:Hid (∀ V,KpT n₀ W3 V->Las (·< n₀) V t.ps a3 n3 c3):=fun V h=>iC.below h.1 fun b hb _=>hb;have fS:n₀<=W3.heap.size:=Nat.le_trans bR dV.size;have HN:Hid (pre.length+t.size<=N):=hN;have HI:=hid ih;clear iC jI gW gF ht2 c1 c2 dV ih hN hY hy hR fR lB kW ht
  gi_loopw [14] (fun i wr=>∃ (k:Nat) (xs:List Tr),i = .int .i64 (k:Int)/\k<=n3/\xs.map Tr.t=t::(t.ps.take k).flatMap Tm.flat/\J (pre++xs) wr/\KpT n₀ W3 wr) (fun i _=>n3-(intOf i).toNat)
  case atStart=>exact ⟨0,[⟨t,a,n,c⟩],rfl,by omega,by simp,pO,KpT.refl _ _⟩
  case round =>
   obtain ⟨k,xs,rfl,hk,eV,oT,xT⟩:=hrel;have HX:=hid eV;clear eV;have jJ:n₀<=wr.heap.size:=Nat.le_trans fS xT.1.size;by_cases kA:k<n3
   ·obtain ⟨b,off,s,a',n',c',rfl,hU,rV,hs,hT,e1,e2⟩:=(HLs.out wr xT).at kA;have HS:=hid hs;clear hs;have eU:Below wr.heap.size wr (wr.alloc (.cells #[.int .i64 s.f,.slice a' n' c'] 41)):=bA (bW _) _;have HC:Hid (CallsIn Fence.wide (d-1) Tryz.prog 107 #[.agg #[.int .i64 s.f,.slice a' n' c'],.func (.yield l) #[] #[]] (wr.alloc (.cells #[.int .i64 s.f,.slice a' n' c'] 41)) fun e W'=>e = .returned (.bool true)/\∃ ys:List Tr,ys.map Tr.t=s.flat/\J ((pre++xs)++ys) W'/\KpT n₀ (wr.alloc (.cells #[.int .i64 s.f,.slice a' n' c'] 41)) W'):=by
     refine HI.out s (mem_of_getElem? HS.out) (d-1) a' n' c' (pre++xs) _ (hT.bw eU) (by simp;omega) (hJ _ _ _ oT eU) ?_;have h1:=congrArg List.length HX.out;simp only [length_map,length_cons] at h1;rw [length_append,h1];have h2:=t.size_eq;have h3:(t.ps.flatMap Tm.flat).length=((t.ps.take k).flatMap Tm.flat).length+(s.flat.length+((t.ps.drop (k+1)).flatMap Tm.flat).length):=by conv=>lhs;rw [<-take_append_drop k t.ps,U3 HS.out,List.flatMap_append,flatMap_cons,length_append,length_append]
     have h4:=HN.out;unfold Tm.size at *;omega
    have HK5:Hid (∀ V,KpT n₀ (wr.alloc (.cells #[.int .i64 s.f,.slice a' n' c'] 41)) V->KpT n₀ W3 V):=fun V h=>(xT.trans (KpT.of_below jJ eU)).trans h
    gi_wp2_with (refine ⟨trivial,qO _,?_⟩;gi_at_call 107;refine HC.out.mono ?_;rintro e W4 ⟨rfl,ys,eX,hJ4,oQ⟩)
    go_roundw
    case rel =>
     refine ⟨k+1,xs++ys,by go_num,by omega,?_,by rw [<-List.append_assoc];exact hJ4,HK5.out _ oQ⟩;rw [map_append,HX.out,eX,take_add_one,HS.out,List.flatMap_append];simp
    case measure=>simp [intOf];omega
   ·gi_wp2
    go_ret
    refine ⟨rfl,xs,?_,oT,qP.trans xT⟩;rw [HX.out,t.flat_eq,take_of_length_le (by have:=HL3.out;omega)]
section
variable {α:Type} {P:Program}
def a6G (B:Nat) (Kp:World->World->Prop) (I:World->Prop) (W:World):Exit->Act->World->Prop
 | .normal,_,W'=>KeepsFrom B W W'/\Kp W W'/\I W'
 | _,_,_=>False
theorem a8G {g:Operand} {ps:Array Tmp} {assign body:Code} {Q:Exit->Act->World->Prop} {a:Act} {w:World} {gf:Nat} {lb:Array Value}
  (hg:a.eval g = .func (.func gf) #[] lb) (eg:∀ args w,(callFunc gf args).run P w = .ok (.enter gf args) w)
  {encs:α->Array Value} {Ok:List α->α->World->Prop} {Kp:World->World->Prop} {S:List α->Prop} (nG:a2J P gf lb encs Ok Kp S w)
  (pP:∀ {A B C:World},Kp A B->Kp B C->Kp A C)
  (pQ:∀ (W:World) (l:Nat) (o o':Obj),w.heap.size<=l->W.heap[l]?=some o->o.isCells=false->Kp W (W.putObj l o'))
  (aP:∀ (pre:List α) (x:α) (W:World) (l:Nat) (o o':Obj),w.heap.size<=l->Ok pre x W->W.heap[l]?=some o->o.isCells=false->Ok pre x (W.putObj l o'))
  (bE:∀ x,(encs x).size=ps.size) (I:List α->World->Prop) (hI:∀ pre A B,I pre A->Below A.heap.size A B->I pre B)
  (lC:∀ (pre:List α) (A:World) (l:Nat) (o o':Obj),I pre A->w.heap.size<=l->A.heap[l]?=some o->o.isCells=false->I pre (A.putObj l o'))
  (h0:I [] w) (a₁:α->Act)
  (cB:∀ (l:Nat) (x:α) (W:World) (K:Act->World->Prop),K (a₁ x) W ->
   assign.wpIn (Fence.wide.inRound l) 1 P (Exit.then K (fun _ _ _=>False)) { tmps:=(ps.zip (encs x)).foldl (fun t (p,v)=>t.setIfInBounds p v) a.tmps,defers:=[] } W)
  (fF:∀ (l:Nat) (pre:List α) (x:α) (W:World),I pre W->Ok pre x W->body.wpIn (Fence.wide.inRound l) 1 P (a6G w.heap.size Kp (I (pre++[x])) W) (a₁ x) W)
  (dF:∀ (D:Nat) (xs:List α) (W:World),w.heap.size<=D->S xs->I xs W->W.heap[D]?=some (.deferred (some []))->Q .normal { a with defers:={ target := .collected D,args := #[] }::a.defers } W) :
  (Code.rangeFunc g ps assign body).wpIn Fence.wide 3 P Q a w:=by
 refine wpIn_rangeFunc fun fn dM=>?_
 have hD:∃ D,D=w.heap.size:=⟨_,rfl⟩
 obtain ⟨D,hD⟩:=hD;obtain ⟨W1,gX⟩:∃ W1,W1=(w.alloc (.deferred (some []))).alloc (.loop (o8 fn a.tmps ps assign body D .ready)):=⟨_,rfl⟩
 have below1:Below w.heap.size w W1:=by rw [gX];exact ((Below.refl _ w).alloc (Nat.le_refl _) _).alloc (by simp) _
 have atL:W1.heap[D+1]?=some (.loop (o8 fn a.tmps ps assign body D .ready)):=by have:=World.alloc_heap_new (w.alloc (.deferred (some []))) (.loop (o8 fn a.tmps ps assign body D .ready));rw [World.size_alloc,<-hD,<-gX] at this;exact this
 have atD:W1.heap[D]?=some (.deferred (some [])):=by have h:=World.alloc_heap_new w (.deferred (some []));rw [<-hD] at h;rw [gX,Below.heap_alloc _ _ _ (by simp;omega)];exact h
 refine ⟨D+1,[{ target := .collected D,args := #[] }],W1,{ target := .fn (.func gf) lb,args := #[.func (.yield (D+1)) #[] #[]] },W1,gf,#[.func (.yield (D+1)) #[] #[]]++lb,W1,?_,?_,fun _ _=>trivial,?_,(fun _=>by omega),?_⟩
 ·rw [gX,hD];exact run_enterLoop_outer _ _ _ _ _
 ·simp only [resolve,hg];simp [go_sem]
 ·simp [invoke,go_sem,eg]
 refine (nG (D+1) (fun pre V=>I pre V/\V.heap[D+1]?=some (.loop (o8 fn a.tmps ps assign body D .ready))/\V.heap[D]?=some (.deferred (some []))) W1 below1 ?abides ?rounds ⟨hI _ _ _ h0 below1,atL,atD⟩).mono ?after
 case abides =>
  rintro pre A B ⟨h1,h2,h3⟩ hb;exact ⟨hI _ _ _ h1 hb,(hb.block _ (Array.getElem?_eq_some_iff.1 h2).1).trans h2,(hb.block _ (Array.getElem?_eq_some_iff.1 h3).1).trans h3⟩
 case rounds =>
  rintro pre x V ⟨h1,h2,h3⟩ hx;have kA:=(Array.getElem?_eq_some_iff.1 h2).1;have hy:=run_yield (P:=P) (args:=encs x) h2 (bE x);refine ⟨fn,_,assign,body,hy,roundIn_of_wpIn dM (cB _ x V _ ⟨_,run_beginRound h2 rfl,?_⟩)⟩;have nH:w.heap.size<=D+1:=by omega
  have b2:(V.putObj (D+1) (.loop (o8 fn a.tmps ps assign body D .busy))).heap[D+1]?=some (.loop (o8 fn a.tmps ps assign body D .busy)):=World.putObj_heap_same kA;have b3:(V.putObj (D+1) (.loop (o8 fn a.tmps ps assign body D .busy))).heap[D]?=some (.deferred (some [])):=(World.putObj_heap_other (by omega)).trans h3;refine wpIn_mono (fF _ pre x (V.putObj (D+1) (.loop (o8 fn a.tmps ps assign body D .busy))) (lC _ _ _ _ _ h1 nH h2 rfl) (aP _ _ _ _ _ _ nH hx h2 rfl)) ?_;rintro e a3 U hp;cases e with
  | normal =>
   obtain ⟨k1,k2,k3⟩:=hp;have u2:=k1.same _ _ (by omega) b2 rfl;have u3:=k1.same _ _ (by omega) b3 rfl;have hr:=run_endRound (P:=P) none u2;refine ⟨_,_,hr,rfl,⟨lC _ _ _ _ _ k3 nH u2 rfl,World.putObj_heap_same (Array.getElem?_eq_some_iff.1 u2).1,(World.putObj_heap_other (by omega)).trans u3⟩,?_⟩;exact pP (pP (pQ _ _ _ _ nH h2 rfl) k2) (pQ _ _ _ _ nH u2 rfl)
  | ret=>exact hp.elim
  | exit _=>exact hp.elim
  | goto _=>exact hp.elim
  | panic _=>exact hp.elim
  | outgrown=>exact hp.elim
 case after =>
  rintro e V ⟨⟨v,rfl⟩,xs,hS,h1,h2,h3⟩;exact ⟨none,_,run_endLoop (P:=P) h2 (by simp [o8]),dF D xs _ (by omega) hS (lC _ _ _ _ _ h1 (by omega) h2 rfl) ((World.putObj_heap_other (by omega)).trans h3)⟩
theorem a2v {g:Operand} {ps:Array Tmp} {assign body:Code} {Q:Exit->Act->World->Prop} {a:Act} {w:World} {gf:Nat} {lb:Array Value}
  (hg:a.eval g = .func (.func gf) #[] lb) (eg:∀ args w,(callFunc gf args).run P w = .ok (.enter gf args) w)
  {encs:α->Array Value} {Ok:List α->α->World->Prop} {Kp:World->World->Prop} {S:List α->Prop} (nG:a2J P gf lb encs Ok Kp S w)
  (pP:∀ {A B C:World},Kp A B->Kp B C->Kp A C)
  (pQ:∀ (W:World) (l:Nat) (o o':Obj),w.heap.size<=l->W.heap[l]?=some o->o.isCells=false->Kp W (W.putObj l o'))
  (aP:∀ (pre:List α) (x:α) (W:World) (l:Nat) (o o':Obj),w.heap.size<=l->Ok pre x W->W.heap[l]?=some o->o.isCells=false->Ok pre x (W.putObj l o'))
  (bE:∀ x,(encs x).size=ps.size) (I:List α->World->Prop) (hI:∀ pre A B,I pre A->Below A.heap.size A B->I pre B)
  (lC:∀ (pre:List α) (A:World) (l:Nat) (o o':Obj),I pre A->w.heap.size<=l->A.heap[l]?=some o->o.isCells=false->I pre (A.putObj l o'))
  (h0:I [] w) (a₁:α->Nat->Act) (ob:α->Obj) (hKa:∀ (V:World) (x:α),w.heap.size<=V.heap.size->Kp V (V.alloc (ob x))) (aQ:∀ (pre:List α) (x:α) (V:World),Ok pre x V->Ok pre x (V.alloc (ob x)))
  (cB:∀ (l:Nat) (x:α) (W:World) (K:Act->World->Prop),K (a₁ x W.heap.size) (W.alloc (ob x)) ->
   assign.wpIn (Fence.wide.inRound l) 1 P (Exit.then K (fun _ _ _=>False)) { tmps:=(ps.zip (encs x)).foldl (fun t (p,v)=>t.setIfInBounds p v) a.tmps,defers:=[] } W)
  (fF:∀ (l:Nat) (pre:List α) (x:α) (W:World) (b:Nat),w.heap.size<=b->W.heap[b]?=some (ob x)->I pre W->Ok pre x W->body.wpIn (Fence.wide.inRound l) 1 P (a6G w.heap.size Kp (I (pre++[x])) W) (a₁ x b) W)
  (dF:∀ (D:Nat) (xs:List α) (W:World),w.heap.size<=D->S xs->I xs W->W.heap[D]?=some (.deferred (some []))->Q .normal { a with defers:={ target := .collected D,args := #[] }::a.defers } W) :
  (Code.rangeFunc g ps assign body).wpIn Fence.wide 3 P Q a w:=by
 refine wpIn_rangeFunc fun fn dM=>?_
 have hD:∃ D,D=w.heap.size:=⟨_,rfl⟩
 obtain ⟨D,hD⟩:=hD;obtain ⟨W1,gX⟩:∃ W1,W1=(w.alloc (.deferred (some []))).alloc (.loop (o8 fn a.tmps ps assign body D .ready)):=⟨_,rfl⟩
 have below1:Below w.heap.size w W1:=by rw [gX];exact ((Below.refl _ w).alloc (Nat.le_refl _) _).alloc (by simp) _
 have atL:W1.heap[D+1]?=some (.loop (o8 fn a.tmps ps assign body D .ready)):=by have:=World.alloc_heap_new (w.alloc (.deferred (some []))) (.loop (o8 fn a.tmps ps assign body D .ready));rw [World.size_alloc,<-hD,<-gX] at this;exact this
 have atD:W1.heap[D]?=some (.deferred (some [])):=by have h:=World.alloc_heap_new w (.deferred (some []));rw [<-hD] at h;rw [gX,Below.heap_alloc _ _ _ (by simp;omega)];exact h
 refine ⟨D+1,[{ target := .collected D,args := #[] }],W1,{ target := .fn (.func gf) lb,args := #[.func (.yield (D+1)) #[] #[]] },W1,gf,#[.func (.yield (D+1)) #[] #[]]++lb,W1,?_,?_,fun _ _=>trivial,?_,(fun _=>by omega),?_⟩
 ·rw [gX,hD];exact run_enterLoop_outer _ _ _ _ _
 ·simp only [resolve,hg];simp [go_sem]
 ·simp [invoke,go_sem,eg]
 refine (nG (D+1) (fun pre V=>I pre V/\V.heap[D+1]?=some (.loop (o8 fn a.tmps ps assign body D .ready))/\V.heap[D]?=some (.deferred (some []))) W1 below1 ?abides ?rounds ⟨hI _ _ _ h0 below1,atL,atD⟩).mono ?after
 case abides =>
  rintro pre A B ⟨h1,h2,h3⟩ hb;exact ⟨hI _ _ _ h1 hb,(hb.block _ (Array.getElem?_eq_some_iff.1 h2).1).trans h2,(hb.block _ (Array.getElem?_eq_some_iff.1 h3).1).trans h3⟩
 case rounds =>
  rintro pre x V0 ⟨g1,g2,g3⟩ gx;have iI:=(Array.getElem?_eq_some_iff.1 g2).1;have nI:=(Array.getElem?_eq_some_iff.1 g3).1;have hy:=run_yield (P:=P) (args:=encs x) g2 (bE x);obtain ⟨V,hV⟩:∃ V,V=V0.alloc (ob x):=⟨_,rfl⟩
  have bV:Below V0.heap.size V0 V:=by rw [hV];exact (Below.refl _ V0).alloc (Nat.le_refl _) _
  have h1:I pre V:=hI _ _ _ g1 bV;have h2:V.heap[D+1]?=some (.loop (o8 fn a.tmps ps assign body D .ready)):=(bV.block _ iI).trans g2;have h3:V.heap[D]?=some (.deferred (some [])):=(bV.block _ nI).trans g3;have hx:Ok pre x V:=by rw [hV];exact aQ _ _ _ gx
  have oU:Kp V0 V:=by rw [hV];exact hKa _ _ (by omega)
  have fR:V.heap[V0.heap.size]?=some (ob x):=by rw [hV];exact World.alloc_heap_new _ _
  have kA:=(Array.getElem?_eq_some_iff.1 h2).1;refine ⟨fn,_,assign,body,hy,roundIn_of_wpIn dM (cB _ x V0 _ ?_)⟩;rw [<-hV];refine ⟨_,run_beginRound h2 rfl,?_⟩;have nH:w.heap.size<=D+1:=by omega
  have b2:(V.putObj (D+1) (.loop (o8 fn a.tmps ps assign body D .busy))).heap[D+1]?=some (.loop (o8 fn a.tmps ps assign body D .busy)):=World.putObj_heap_same kA;have b3:(V.putObj (D+1) (.loop (o8 fn a.tmps ps assign body D .busy))).heap[D]?=some (.deferred (some [])):=(World.putObj_heap_other (by omega)).trans h3;have b4:(V.putObj (D+1) (.loop (o8 fn a.tmps ps assign body D .busy))).heap[V0.heap.size]?=some (ob x):=(World.putObj_heap_other (by omega)).trans fR;refine wpIn_mono (fF _ pre x (V.putObj (D+1) (.loop (o8 fn a.tmps ps assign body D .busy))) V0.heap.size (by omega) b4 (lC _ _ _ _ _ h1 nH h2 rfl) (aP _ _ _ _ _ _ nH hx h2 rfl)) ?_;rintro e a3 U hp;cases e with
  | normal =>
   obtain ⟨k1,k2,k3⟩:=hp;have u2:=k1.same _ _ (by omega) b2 rfl;have u3:=k1.same _ _ (by omega) b3 rfl;have hr:=run_endRound (P:=P) none u2;refine ⟨_,_,hr,rfl,⟨lC _ _ _ _ _ k3 nH u2 rfl,World.putObj_heap_same (Array.getElem?_eq_some_iff.1 u2).1,(World.putObj_heap_other (by omega)).trans u3⟩,?_⟩;exact pP oU (pP (pP (pQ _ _ _ _ nH h2 rfl) k2) (pQ _ _ _ _ nH u2 rfl))
  | ret=>exact hp.elim
  | exit _=>exact hp.elim
  | goto _=>exact hp.elim
  | panic _=>exact hp.elim
  | outgrown=>exact hp.elim
 case after =>
  rintro e V ⟨⟨v,rfl⟩,xs,hS,h1,h2,h3⟩;exact ⟨none,_,run_endLoop (P:=P) h2 (by simp [o8]),dF D xs _ (by omega) hS (lC _ _ _ _ _ h1 (by omega) h2 rfl) ((World.putObj_heap_other (by omega)).trans h3)⟩
end
theorem a5O {n₀ Bb:Nat} {t:Tm} {a:Option Addr} {n c:Nat} {w:World} (hn:n₀<=w.heap.size) (fR:w.heap[Bb]?=some (.cells #[.int .i64 t.f,.slice a n c] 41 (0,0))) (ht:Tat (·< n₀) w t a n c) :
  a2J Tryz.prog 106 #[.pointer (some ⟨Bb,0,none⟩)] (fun x:Tr => #[x.v]) (fun pre x V=>x.ok n₀ V/\pre.length<t.size) (KpT n₀) (fun xs=>xs.map Tr.t=t.flat) w:=by
 intro l J W hW hJ hY h0;have qO:∀ k:Nat,(Fence.wide.depth.isSome=true->1<=k):=fun k h=>by cases h
 have hb:W.heap[Bb]?=some (.cells #[.int .i64 t.f,.slice a n c] 41 (0,0)):=(hW.block Bb (Array.getElem?_eq_some_iff.1 fR).1).trans fR;obtain ⟨c1,c2⟩:=Q9 hb;have hwk:=b9y l n₀ t.size J hJ (fun m pre x V hj hx=>a8Z m (hY pre x V hj hx)) t 1 a n c [] W (ht.bw hW) (Nat.le_trans hn hW.size) h0 (by simp);refine callsIn_of_wp Tryz.func106 rfl trivial ?_ rfl;simp only [Tryz.ntmps106,size_toArray,length_cons,length_nil,Nat.reduceAdd,Nat.reduceSub,Array.replicate_succ,Array.replicate_zero,push_toArray,append_toArray,nil_append,cons_append]
 gi_wp2_with (refine ⟨trivial,?_⟩;gi_at_call 107;refine hwk.mono ?_;rintro e W1 ⟨rfl,xs,eV,hJ1,fE⟩)
 go_end0
 exact ⟨⟨_,rfl⟩,xs,eV,by simpa using hJ1⟩
theorem b7C (f:Int) (a:Option Addr) (n c:Nat) (w:World) :
  CallsIn Fence.wide 2 Tryz.prog 77 #[.agg #[.int .i64 f,.slice a n c]] w fun e w'=>e = .returned (.func (.func 106) #[] #[.pointer (some ⟨w.heap.size,0,none⟩)])/\w'=w.alloc (.cells #[.int .i64 f,.slice a n c] 41):=by
 refine callsIn_of_wp Tryz.func77 rfl trivial ?_ rfl;simp only [Tryz.ntmps77,size_toArray,length_cons,length_nil,Nat.reduceAdd,Nat.reduceSub,Array.replicate_succ,Array.replicate_zero,push_toArray,append_toArray,nil_append,cons_append]
 gi_wp2
 go_ret
 exact ⟨rfl,rfl⟩
attribute [local go_sem] Oper.semAt_some
theorem a7n {n₀ B:Nat} {W:World} {ty:TypeId} {v:Value} (h:Boxed W B ty v) (aU:ty≠41) (hn:n₀<=B) (u:Value):KpT n₀ W (W.setCell ⟨B,0,none⟩ u):=by
 refine ⟨(Below.refl n₀ W).setCell (p:=⟨B,0,none⟩) hn _,fun g cs fl e=>?_⟩;rw [Below.heap_setCell _ _ _ g (fun e'=>?_)]
 ·exact e
 ·simp only at e';subst e';rw [show W.heap[g]?=_ from h] at e;cases e;exact aU rfl
theorem L8 {n₀ l:Nat} {W:World} {o:Obj} (o':Obj) (hn:n₀<=l) (h:W.heap[l]?=some o) (ho:o.isCells=false):KpT n₀ W (W.putObj l o'):=by
 refine ⟨⟨rfl,rfl,rfl,by simp [World.putObj],fun q hq=>World.putObj_heap_other (by omega)⟩,fun g cs fl e=>?_⟩;rw [World.putObj_heap_other]
 ·exact e
 ·rintro rfl;rw [h] at e;cases e;cases ho
def IntI (w:World) (B:Nat) (v:Value) (W:World):Prop:=Boxed W B 3 v/\Below w.heap.size w W
theorem IntI.abides {w A B:World} {b:Nat} {v:Value} (h:IntI w b v A) (hb:Below A.heap.size A B):IntI w b v B:=
 ⟨(hb.block b h.1.lt).trans h.1,h.2.trans (hb.mono h.2.size)⟩
theorem IntI.putObj {w A:World} {b:Nat} {v:Value} (h:IntI w b v A) {l:Nat} {o:Obj} (o':Obj) (eQ:w.heap.size<=l) (hl:A.heap[l]?=some o) (ho:o.isCells=false):IntI w b v (A.putObj l o'):=by
 refine ⟨(World.putObj_heap_other ?_).trans h.1,h.2.trans (L8 o' eQ hl ho).1⟩;rintro rfl;rw [show A.heap[_]?=_ from h.1] at hl;cases hl;cases ho
theorem IntI.set {w W:World} {B b:Nat} {v:Value} (h:IntI w b v W) (hb:w.heap.size<=b) (u:Value):KeepsFrom B W (W.setCell ⟨b,0,none⟩ u)/\KpT w.heap.size W (W.setCell ⟨b,0,none⟩ u)/\IntI w b u (W.setCell ⟨b,0,none⟩ u):=
 ⟨(KeepsOthers.setCell _ _ _).from _,a7n h.1 (by decide) hb u,h.1.set u,h.2.trans (a7n h.1 (by decide) hb u).1⟩
theorem Tr.ok.kept {n₀:Nat} {x:Tr} {V V':World} (h:x.ok n₀ V) (hb:Below n₀ V V'):x.ok n₀ V':=h.below hb fun b h _=>h
set_option maxRecDepth 100000 in
set_option maxHeartbeats 2000000 in
theorem b9u {U:Nat->Prop} (t:Tm) (a:Option Addr) (n c:Nat) (w:World) (h:Tat U w t a n c) (hm:t.size<=4611686018427387904) :
  CallsIn Fence.wide 3 Tryz.prog 52 #[.agg #[.int .i64 t.f,.slice a n c]] w fun e W'=>e = .returned (.int .i64 (t.size:Int))/\Below w.heap.size w W':=by
 refine callsIn_of_wp_marks Tryz.func52 rfl trivial ?_ rfl;simp only [Tryz.ntmps52,size_toArray,length_cons,length_nil,Nat.reduceAdd,Nat.reduceSub,Array.replicate_succ,Array.replicate_zero,push_toArray,append_toArray,nil_append,cons_append]
 gi_wp2_with (refine ⟨trivial,?_⟩;gi_at_call 77;refine (b7C _ _ _ _ _).mono ?_;rintro e w' ⟨rfl,rfl⟩)
 obtain ⟨wl,eQ⟩:∃ wl,wl=((w.alloc (.cells #[.int .i64 t.f,.slice a n c] 41)).alloc (.cells #[.int .i64 0] 3)).alloc (.cells #[.int .i64 t.f,.slice a n c] 41):=⟨_,rfl⟩
 have lR:Below w.heap.size w wl:=by rw [eQ];exact bA (bA (bA (bW _) _) _) _
 have kC:wl.heap.size=w.heap.size+3:=by rw [eQ];simp
 have fR:wl.heap[w.heap.size+1+1]?=some (.cells #[.int .i64 t.f,.slice a n c] 41 (0,0)):=by rw [eQ];have:=World.alloc_heap_new ((w.alloc (.cells #[.int .i64 t.f,.slice a n c] 41)).alloc (.cells #[.int .i64 0] 3)) (.cells #[.int .i64 t.f,.slice a n c] 41);rw [World.size_alloc,World.size_alloc] at this;exact this
 have qQ:IntI w (w.heap.size+1) (.int .i64 (([]:List Tr).length:Int)) wl:=by refine ⟨?_,lR⟩;rw [eQ];have bO:=Boxed.new (w.alloc (.cells #[.int .i64 t.f,.slice a n c] 41)) 3 (.int .i64 0);rw [World.size_alloc] at bO;exact bO.alloc _
 have ht:Tat (·< w.heap.size) wl t a n c:=(h.mono (V:=(·< w.heap.size)) fun b _ hb=>hb).below lR fun b hb _=>hb;rw [<-eQ];clear eQ h;refine a8G (gf:=106) (lb := #[.pointer (some ⟨w.heap.size+1+1,0,none⟩)]) rfl (enters_of Tryz.func106 (by kernel_rfl) rfl)
  (a5O (n₀:=w.heap.size) (by omega) fR ht) (fun h k=>h.trans k) (fun W l o o' hl h ho=>L8 o' (by omega) h ho) (fun pre x W l o o' hl hx h ho=>⟨hx.1.kept (L8 o' (by omega) h ho).1,hx.2⟩) (fun _=>rfl)
  (fun pre W=>IntI w (w.heap.size+1) (.int .i64 (pre.length:Int)) W) (fun pre A B h hb=>h.abides hb) (fun pre A l o o' h hl h1 h2=>h.putObj o' (by omega) h1 h2) qQ
  (fun x=>{ tmps := #[.agg #[.int .i64 t.f,.slice a n c],.pointer (some ⟨w.heap.size,0,none⟩),.int .i64 0,.pointer (some ⟨w.heap.size+1,0,none⟩),.agg #[.int .i64 t.f,.slice a n c],.func (.func 106) #[] #[.pointer (some ⟨w.heap.size+1+1,0,none⟩)],x.v,undef,undef,undef],defers:=[] }) ?assign ?body ?done
 case assign =>
  intro l x W K hK
  gi_wp2
  have hz:(#[6]:Array Tmp).zip #[x.v] = #[(6,x.v)]:=by simp
  rw [hz];exact hK
 case body =>
  rintro l pre x W hI ⟨hx,kA⟩;have hc:=hI.1.cell;have hf:=hI.1.frozen;have xR:pre.length<4611686018427387904:=by omega
  gi_wp2
  have:=hI.set (B:=wl.heap.size) (by omega) (.int .i64 ((pre.length:Int)+1));rw [length_append];exact this
 case done =>
  rintro D xs W hD hS hI hK;have hc:=hI.1.cell
  gi_wp2
  refine ⟨by simp,.inl ⟨_,_,rfl,run_takeDeferred hK,?_⟩⟩;refine ⟨_,results_tmp rfl _ _ _,?_,?_⟩
  ·have h1:=congrArg List.length hS;rw [length_map] at h1;rw [show t.size=xs.length from h1.symm];rfl
  ·exact hI.2.trans (L8 _ (by omega) hK rfl).1
theorem b5B {U:Nat->Prop} {t:Tm} {a:Option Addr} {n c:Nat} {w:World} (h:Tat U w t a n c) (hm:t.size<=4611686018427387904) :
  Calls Tryz.prog 52 #[.agg #[.int .i64 t.f,.slice a n c]] w fun e W'=>e = .returned (.int .i64 (t.size:Int))/\Below w.heap.size w W':=
 callsIn_wide.1 (b9u t a n c w h hm)
def Tr.ob (x:Tr):Obj := .cells #[.int .i64 x.t.f,.slice x.a x.n x.c] 41 (0,0)
theorem T2 {W W':World} (h:Below W.heap.size W W') (B:Nat):KeepsFrom B W W':=⟨h.size,fun k o _ hk _=>(h.block k (Array.getElem?_eq_some_iff.1 hk).1).trans hk⟩
def U4 (l:List Tm):Int:=l.foldl (fun m s=>if s.f<0 then max m (-1-s.f) else m) (-1)
theorem b3K (l:List Tm) (s:Tm):U4 (l++[s])=if s.f<0 then max (U4 l) (-1-s.f) else U4 l:=by simp [U4]
set_option maxRecDepth 100000 in
set_option maxHeartbeats 2000000 in
theorem c1i {U:Nat->Prop} (t:Tm) (a:Option Addr) (n c:Nat) (w:World) (h:Tat U w t a n c) :
  CallsIn Fence.wide 3 Tryz.prog 88 #[.agg #[.int .i64 t.f,.slice a n c]] w fun e W'=>e = .returned (.int .i64 (U4 t.flat))/\Below w.heap.size w W':=by
 refine callsIn_of_wp_marks Tryz.func88 rfl trivial ?_ rfl;simp only [Tryz.ntmps88,size_toArray,length_cons,length_nil,Nat.reduceAdd,Nat.reduceSub,Array.replicate_succ,Array.replicate_zero,push_toArray,append_toArray,nil_append,cons_append]
 gi_wp2_with (refine ⟨trivial,?_⟩;gi_at_call 77;refine (b7C _ _ _ _ _).mono ?_;rintro e w' ⟨rfl,rfl⟩)
 obtain ⟨w1,dW⟩:∃ w1,w1=w.alloc (.cells #[.int .i64 t.f,.slice a n c] 41):=⟨_,rfl⟩
 obtain ⟨w3,uS⟩:∃ w3,w3=w1.alloc (.cells #[.int .i64 (-1)] 3):=⟨_,rfl⟩
 obtain ⟨wl,eQ⟩:∃ wl,wl=w3.alloc (.cells #[.int .i64 t.f,.slice a n c] 41):=⟨_,rfl⟩
 have s1:w1.heap.size=w.heap.size+1:=by rw [dW];simp
 have s3:w3.heap.size=w.heap.size+2:=by rw [uS];simp;omega
 have kC:wl.heap.size=w.heap.size+3:=by rw [eQ];simp;omega
 have lR:Below w.heap.size w wl:=by rw [eQ,uS,dW];exact bA (bA (bA (bW _) _) _) _
 have fR:wl.heap[w.heap.size+1+1]?=some (.cells #[.int .i64 t.f,.slice a n c] 41 (0,0)):=by have:=World.alloc_heap_new w3 (.cells #[.int .i64 t.f,.slice a n c] 41);rw [s3,<-eQ] at this;exact this
 have qQ:IntI w (w.heap.size+1) (.int .i64 (U4 (([]:List Tr).map Tr.t))) wl:=by have b2:=Boxed.new w1 3 (.int .i64 (-1));rw [s1,<-uS] at b2;have b3:=b2.alloc (.cells #[.int .i64 t.f,.slice a n c] 41);rw [<-eQ] at b3;exact ⟨b3,lR⟩
 have ht:Tat (·< w.heap.size) wl t a n c:=(h.mono (V:=(·< w.heap.size)) fun b _ hb=>hb).below lR fun b hb _=>hb;rw [<-dW,<-uS,<-eQ];clear eQ h dW uS s1 s3;refine a2v (gf:=106) (lb := #[.pointer (some ⟨w.heap.size+1+1,0,none⟩)]) rfl (enters_of Tryz.func106 (by kernel_rfl) rfl)
  (a5O (n₀:=w.heap.size) (by omega) fR ht) (fun h k=>h.trans k) (fun W l o o' hl h ho=>L8 o' (by omega) h ho) (fun pre x W l o o' hl hx h ho=>⟨hx.1.kept (L8 o' (by omega) h ho).1,hx.2⟩) (fun _=>rfl)
  (fun pre W=>IntI w (w.heap.size+1) (.int .i64 (U4 (pre.map Tr.t))) W) (fun pre A B h hb=>h.abides hb) (fun pre A l o o' h hl h1 h2=>h.putObj o' (by omega) h1 h2) qQ
  (fun x b=>{ tmps := #[.agg #[.int .i64 t.f,.slice a n c],.pointer (some ⟨w.heap.size,0,none⟩),.int .i64 0,.pointer (some ⟨w.heap.size+1,0,none⟩),.pointer (some ⟨b,0,none⟩),.agg #[.int .i64 t.f,.slice a n c],.func (.func 106) #[] #[.pointer (some ⟨w.heap.size+1+1,0,none⟩)],x.v,undef,undef,undef,undef,undef,undef,undef],defers:=[] })
  Tr.ob (fun V x hV=>KpT.of_below (by omega) (bA (bW _) _)) (fun pre x V hx=>⟨hx.1.bw (bA (bW _) _),hx.2⟩) ?assign ?body ?done
 case assign =>
  intro l x W K hK;obtain ⟨xt,xa,xn,xc⟩:=x;simp only [Tr.v,Tr.ob] at hK |-
  gi_wp2
  exact hK
 case body =>
  rintro l pre x W b hb eG hI ⟨hx,kA⟩;have iK:=hx.wf;have lT:=(Array.getElem?_eq_some_iff.1 eG).1;obtain ⟨xt,xa,xn,xc⟩:=x;simp only [Tr.v,Tr.ob] at *;have HS:=hid (b3K (pre.map Tr.t) xt);obtain ⟨m,hm⟩:∃ m,m=U4 (pre.map Tr.t):=⟨_,rfl⟩
  rw [<-hm] at hI HS;clear hm;obtain ⟨e1,e2⟩:=Q9 eG;by_cases hq:xt.f<0
  ·have HS2:Hid (U4 (List.map Tr.t pre++[xt])=max m (-1-xt.f)):=by show _=_;rw [HS.out,if_pos hq]
   gi_wp2_with (first
    | (refine ⟨trivial,?_⟩;gi_at_call 103;refine (CallsIn.inRound l (callsIn_wide.2 (J3 _ _ _ _ _))).mono ?_;rintro e W1 ⟨rfl,kW⟩;clear e1 e2;obtain ⟨e1,e2⟩:=Q9 ((kW.block b lT).trans eG);have iD:=hI.abides kW;have hc:=iD.1.cell;have hf:=iD.1.frozen))
   have aV:b<W1.heap.size:=Nat.lt_of_lt_of_le lT kW.size;have aW:=(kW.block b lT).trans eG;have hmx:Tryz.prog.follows .mixedOrders=true:=by kernel_rfl
   have fE:=KpT.of_below hI.2.size kW;have HK1:=hid kW;have hsI:w.heap.size<=W1.heap.size:=iD.2.size;clear lT eG kW hI hb
   gi_region_with_o (refine ⟨trivial,?_⟩;gi_at_call 104;refine (CallsIn.inRound l (callsIn_wide.2 (a3w _ _ _ _ _ iK.1 hq))).mono ?_;rintro e W2 ⟨rfl,aY⟩;have gV:Below W1.heap.size W1 W2:=bN (bD (bW _)) aY;have fG:=iD.abides gV;have gY:=fG.1.cell;have pN:=fG.1.frozen;obtain ⟨e3,e4⟩:=Q9 ((gV.block b aV).trans aW))
   all_goals gi_wp2
   all_goals refine ⟨(T2 (bN HK1.out gV) _).trans ((KeepsOthers.setCell _ _ _).from _),(fE.trans (KpT.of_below hsI gV)).trans (a7n fG.1 (by decide) (by omega) _),?_⟩
   all_goals rw [HS2.out]
   all_goals first
    | (rw [Int.max_eq_right (by omega)];exact (fG.set (B:=0) (by omega) _).2.2)
    | (rw [Int.max_eq_left (by omega)];exact (fG.set (B:=0) (by omega) _).2.2)
  ·have HS2:Hid (U4 (List.map Tr.t pre++[xt])=m):=by show _=_;rw [HS.out,if_neg hq]
   gi_wp2_with (refine ⟨trivial,?_⟩;gi_at_call 103;refine (CallsIn.inRound l (callsIn_wide.2 (J3 _ _ _ _ _))).mono ?_;rintro e W1 ⟨rfl,kW⟩)
   refine ⟨T2 kW _,KpT.of_below hI.2.size kW,?_⟩;rw [show List.map Tr.t (pre++[⟨xt,xa,xn,xc⟩])=List.map Tr.t pre++[xt] by simp,HS2.out];exact hI.abides kW
 case done =>
  rintro D xs W hD hS hI hK;have hc:=hI.1.cell
  gi_wp2
  refine ⟨by simp,.inl ⟨_,_,rfl,run_takeDeferred hK,?_⟩⟩;refine ⟨_,results_tmp rfl _ _ _,?_,?_⟩
  ·rw [<-hS];rfl
  ·exact hI.2.trans (L8 _ (by omega) hK rfl).1
theorem b8X {U:Nat->Prop} {t:Tm} {a:Option Addr} {n c:Nat} {w:World} (h:Tat U w t a n c) :
  Calls Tryz.prog 88 #[.agg #[.int .i64 t.f,.slice a n c]] w fun e W'=>e = .returned (.int .i64 (U4 t.flat))/\Below w.heap.size w W':=
 callsIn_wide.1 (c1i t a n c w h)
end
theorem b1v {P:Program} (w:World) (t ty e:TypeId) (z:Value) (size bytes:Nat) (ht:P.underlying t=some (.slice e)) (hi:(P.info? e).map (fun i=>(i.zero,i.size,i.bytes))=some (some z,size,bytes)) (bH:z.cells.size=size) (kC:0<size)
  (v:Value) (n:Nat) (xs:List Value) (kT:w.ownsRow 0 e size v n xs) (ad:Addr) (m c:Nat) (ys:List Value) (hb:Cs w (some ad) ys) (hl:ys.length=m*size) (h1:∀ u∈ys,u.oneCell'=true) (oP:n+m<=maxLen) (gZ:(n+m)*bytes<=140737488355328) :
  ∃ v' w',Sem.run P (Builtin.append_ #[t,t] ty #[v,.slice (some ad) m c]) w = .ok v' w'/\w'.ownsRow 0 e size v' (n+m) (xs++ys)/\w.grownBy w' v.ownBlock/\(v'.ownBlock=v.ownBlock\/∀ g,v'.ownBlock=some g->w.heap.size<=g):=by
 obtain ⟨i,bT,cO,cN,fD⟩:=info_parts hi;have bY:∀ j u,ys[j]?=some u->w.cell? (ad.add j)=some u:=by
  intro j u hj;have gJ:j<ys.length:=by
   rcases Nat.lt_or_ge j ys.length with h | h
   ·exact h
   ·rw [getElem?_eq_none h] at hj;cases hj
  rcases hb with rfl | ⟨b,off,ha,kA,hc⟩
  ·simp at gJ
  ·cases ha;rw [show (⟨b,off,none⟩:Addr).add j=⟨b,off+j,none⟩ by simp [Addr.add],hc j gJ,hj]
 rcases kT.2 with ⟨rfl,rfl⟩ | ⟨g,cap,cur,rfl,hbg,hg,mJ,mK,fN,uJ⟩
 ·have hx:xs=[]:=List.eq_nil_of_length_eq_zero (by simpa using kT.1);subst hx;obtain ⟨v',w',hr,ho,hg,_⟩:=run_append_own (P:=P) w w.heap.size t ty e i z size bytes ht bT cO cN fD bH kC (.slice none 0 0) 0 [] (World.ownsRow_nil _ _ _ _) ad m c ys hl bY h1 oP gZ (Nat.le_refl _);exact ⟨v',w',hr,r9 ho (Nat.zero_le _),hg,.inr (fun g hg=>(ho.lt g hg).1)⟩
 ·by_cases hroom:n+m<=cap
  ·obtain ⟨w',hr,ho,cT⟩:=run_append_fits (P:=P) w 0 t ty e i size ht bT cN g n cap xs kT ad m c ys hl bY h1 hroom;exact ⟨_,w',hr,ho,cT,.inl rfl⟩
  ·obtain ⟨v',w',hr,ho,cT⟩:=run_append_arg_grows (P:=P) w t ty e i z size bytes ht bT cO cN fD bH kC ⟨g,0,none⟩ n cap xs kT.1 (kT.cells (g:=g) rfl) ad m c ys hl bY (by omega) oP gZ;exact ⟨v',w',hr,r9 ho (Nat.zero_le _),cT.but _,.inr (fun g hg=>(ho.lt g hg).1)⟩
theorem a5s {P:Program} (w:World) {ops:Array Oper} {rest:List Oper} {o:Oper} {a:Act} {Q:Exit->Act->World->Prop} (mW:Region.wanted o (yielded ops a.tmps)=true) (so x:Operand) (t:TypeId)
  (ho:o.op = .call { callee := .builtin .append,args := #[so,x],argTypes := #[t,t] }) (v y:Value) (hs:a.eval so=v) (hx:a.eval x=y) (v':Value) (w':World) (kZ:Sem.run P (Builtin.append_ #[t,t] o.type #[v,y]) w = .ok v' w') (h:wpList P ops Q rest (a.put o.dst v') w'):wpList P ops Q (o::rest) a w:=by
 refine a0j mW fun K hK=>?_;unfold Oper.wp;simp [execOp,ho,resolve,invoke,builtin,hs,hx,kZ,Result.andThen];exact hK _ _ h
theorem b3N {P:Program} (w:World) {ops:Array Oper} {o:Oper} {a:Act} {K:Act->World->Prop} {Q:Exit->Act->World->Prop} {E:Prop} (mW:Region.wanted o (yielded ops a.tmps)=true) (f:Nat) (x:Operand) (ts:Array TypeId)
  (ho:o.op = .call { callee := .value (.func f),args := #[x],argTypes:=ts }) (eg:∀ args w,(callFunc f args).run P w = .ok (.enter f args) w) (v:Value) (hx:a.eval x=v) {R:Ending->World->Prop} (hc:Calls P f #[v] w R) (h:∀ e w',R e w'->∃ u,e = .returned u/\K (a.put o.dst u) w') :
  if Region.wanted o (yielded ops a.tmps)=true then Oper.wp P o a w K Q else E:=by
 rw [if_pos mW];unfold Oper.wp;have he:(execOp a.eval o).run P w = .ok (.enter f #[v]) w:=by rw [<-hx];cases x<;>simp [execOp,ho,resolve,invoke,go_sem,eg]
 rw [he,Oper.upon_enter];refine hc.mono ?_;rintro e w' hr;obtain ⟨u,rfl,hk⟩:=h e w' hr;exact hk
theorem a9a {w:World} {B:Nat} {e:TypeId} {size:Nat} {v:Value} {n:Nat} {xs:List Value} (h:w.ownsRow 0 e size v n xs) (hb:∀ g,v.ownBlock=some g->B<=g):w.ownsRow B e size v n xs:=by
 obtain ⟨h1,h2⟩:=h;refine ⟨h1,?_⟩;rcases h2 with h2 | ⟨g,cap,cur,rfl,hg,r⟩
 ·exact .inl h2
 ·exact .inr ⟨g,cap,cur,rfl,hb g rfl,r⟩
theorem b8S {P:Program} {w:World} {B:Nat} (hB:B<=w.heap.size) (t e:TypeId) (z:Value) (size bytes:Nat) (ht:P.underlying t=some (.slice e)) (hi:(P.info? e).map (fun i=>(i.zero,i.size,i.bytes))=some (some z,size,bytes)) (bH:z.cells.size=size) (kC:0<size)
  (v:Value) (n:Nat) (xs ys:List Value) (jK:w.ownsRow B e size v n xs) (hl:ys.length=size) (h1:∀ u∈ys,u.oneCell'=true) (hn:n<=100000000000) (dL:bytes<=1000) :
  ∃ a' c' w',Sem.run P (Builtin.append_ #[t,t] t #[v,.slice (some ⟨w.heap.size,0,none⟩) 1 1]) (w.alloc (.cells ys.toArray e)) = .ok (.slice a' (n+1) c') w'/\w'.ownsRow B e size (.slice a' (n+1) c') (n+1) (xs++ys)/\Below B w w'/\(∀ b,b<w.heap.size->v.ownBlock≠some b->w'.heap[b]?=w.heap[b]?)/\∀ g,(Value.slice a' (n+1) c').ownBlock=some g->v.ownBlock=some g\/w.heap.size<=g:=by
 have nA:(n+1)*bytes<=100000000001*1000:=Nat.mul_le_mul (by omega) dL;have uT:(w.alloc (.cells ys.toArray e)).ownsRow 0 e size v n xs:=r9 (jK.alloc _) (Nat.zero_le _);obtain ⟨v',w',kZ,ho,hg,hv⟩:=b1v (P:=P) (w.alloc (.cells ys.toArray e)) t t e z size bytes ht hi bH kC v n xs uT ⟨w.heap.size,0,none⟩ 1 1 ys (Cs.new _ _ _) (by rw [hl,Nat.one_mul]) h1 (by unfold maxLen;omega) (by omega);obtain ⟨a',c',rfl,_⟩:=L6 ho;have kG:∀ g,(Value.slice a' (n+1) c').ownBlock=some g->v.ownBlock=some g\/w.heap.size<=g:=fun g dC=>by
  rcases hv with e | e
  ·left;rw [<-e];exact dC
  ·right;have:=e g dC;rw [World.size_alloc] at this;omega
 refine ⟨a',c',w',kZ,a9a ho (fun g dC=>?_),?_,fun b hb kE=>?_,kG⟩
 ·rcases kG g dC with e | e
  ·exact (jK.lt g e).1
  ·omega
 ·exact ((Below.refl B w).alloc hB _).trans ((Below.refl _ _).grown hg (by simp;omega) fun k hk=>(jK.lt k hk).1)
 ·rw [hg.block b (by simp;omega) (fun e=>kE e.symm),Below.heap_alloc _ _ _ hb]
def OwnT (e:TypeId) (U:Nat->Prop) (w:World) (base:Nat) (v:Value) (l:List Tm):Prop:=∃ xs,w.ownsRow base e 2 v l.length xs/\Ecs (fun b=>U b/\v.ownBlock≠some b) w l xs
theorem OwnT.nil (e:TypeId) (U:Nat->Prop) (w:World) (base:Nat):OwnT e U w base (.slice none 0 0) []:=⟨[],World.ownsRow_nil _ _ _ _,Ecs.nil_iff.2 rfl⟩
theorem OwnT.las {e:TypeId} {U:Nat->Prop} {w:World} {base:Nat} {v:Value} {l:List Tm} (h:OwnT e U w base v l) (hU:∀ b,base<=b->b<w.heap.size->U b):∃ a c,v = .slice a l.length c/\Las U w l a l.length c:=by
 obtain ⟨xs,h1,h2⟩:=h;obtain ⟨a,c,e1,e2,e3,e4,e5⟩:=L6 h1;refine ⟨a,c,e1,rfl,e2,e3,e4,xs,?_,h2.mono fun b hb _=>hb.1⟩;rcases e5 with h | ⟨b,off,ha,kA,hc⟩
 ·exact .inl h
 ·refine .inr ⟨b,off,ha,hU b ?_ kA,kA,hc⟩;subst ha;obtain ⟨_,h3⟩:=h1;rcases h3 with ⟨h3,_⟩ | ⟨g,cap,cur,h3,hb,_⟩
  ·rw [e1] at h3;cases h3
  ·rw [e1] at h3;cases h3;exact hb
theorem OwnT.lt {e:TypeId} {U:Nat->Prop} {w:World} {base:Nat} {v:Value} {l:List Tm} (h:OwnT e U w base v l) {g:Nat} (hg:v.ownBlock=some g):base<=g/\g<w.heap.size:=by
 obtain ⟨xs,h1,h2⟩:=h;exact h1.lt g hg
theorem OwnT.bw {e:TypeId} {U:Nat->Prop} {w w':World} {base:Nat} {v:Value} {l:List Tm} (h:OwnT e U w base v l) (hb:Below w.heap.size w w'):OwnT e U w' base v l:=by
 obtain ⟨xs,h1,h2⟩:=h;exact ⟨xs,a5m h1 hb (Nat.le_refl _),h2.below hb fun b _ h=>h⟩
theorem OwnT.keep {e:TypeId} {U:Nat->Prop} {w w':World} {base:Nat} {v:Value} {l:List Tm} (h:OwnT e U w base v l) (hU:∀ b,U b->base<=b) (hs:∀ b,base<=b->b<w.heap.size->w'.heap[b]?=w.heap[b]?):OwnT e U w' base v l:=by
 obtain ⟨xs,h1,h2⟩:=h;refine ⟨xs,?_,h2.keep fun b hb kA=>⟨hb,hs b (hU b hb.1) kA⟩⟩;refine ⟨h1.1,?_⟩;rcases h1.2 with h3 | ⟨g,cap,cur,rfl,hg,hh,r⟩
 ·exact .inl h3
 ·exact .inr ⟨g,cap,cur,rfl,hg,(hs g hg (Array.getElem?_eq_some_iff.1 hh).1).trans hh,r⟩
theorem OwnT.mono {e:TypeId} {U V:Nat->Prop} {w:World} {base base':Nat} {v:Value} {l:List Tm} (h:OwnT e U w base v l) (hb:base'<=base) (hU:∀ b,U b->V b):OwnT e V w base' v l:=by
 obtain ⟨xs,h1,h2⟩:=h;exact ⟨xs,r9 h1 hb,h2.mono fun b hb _=>⟨hU b hb.1,hb.2⟩⟩
theorem c0N {P:Program} {U:Nat->Prop} {w:World} {B:Nat} (hB:B<=w.heap.size) (t e:TypeId) (z:Value) (bytes:Nat) (ht:P.underlying t=some (.slice e)) (hi:(P.info? e).map (fun i=>(i.zero,i.size,i.bytes))=some (some z,2,bytes)) (bH:z.cells.size=2) (dL:bytes<=1000)
  {v:Value} {l:List Tm} {s:Tm} {a:Option Addr} {n c:Nat} (h:OwnT e U w B v l) (hs:Tat (fun b=>U b/\v.ownBlock≠some b) w s a n c) (hn:l.length<=100000000000) :
  ∃ a' c' w',Sem.run P (Builtin.append_ #[t,t] t #[v,.slice (some ⟨w.heap.size,0,none⟩) 1 1]) (w.alloc (.cells #[.int .i64 s.f,.slice a n c] e)) = .ok (.slice a' (l.length+1) c') w'/\OwnT e U w' B (.slice a' (l.length+1) c') (l++[s])/\Below B w w'/\(∀ b,b<w.heap.size->v.ownBlock≠some b->w'.heap[b]?=w.heap[b]?)/\∀ g,(Value.slice a' (l.length+1) c').ownBlock=some g->v.ownBlock=some g\/w.heap.size<=g:=by
 obtain ⟨xs,h1,h2⟩:=h;obtain ⟨a',c',w',hr,ho,hb,hk,hv⟩:=b8S (P:=P) hB t e z 2 bytes ht hi bH (by decide) v l.length xs [.int .i64 s.f,.slice a n c] h1 rfl (by simp [Value.oneCell']) hn dL;have kM:∀ b,(U b/\v.ownBlock≠some b)->b<w.heap.size->(U b/\(Value.slice a' (l.length+1) c').ownBlock≠some b)/\w'.heap[b]?=w.heap[b]?:=fun b h3 h4=>by
  refine ⟨⟨h3.1,fun e=>?_⟩,hk b h4 h3.2⟩;rcases hv b e with e' | e'
  ·exact h3.2 e'
  ·omega
 refine ⟨a',c',w',hr,⟨xs++[.int .i64 s.f,.slice a n c],?_,(h2.keep kM).append (Ecs.single (hs.keep kM))⟩,hb,hk,hv⟩;rw [length_append];exact ho
theorem a7E:(Tryz.prog.info? 41).map (fun i=>(i.zero,i.size,i.bytes))=some (some (.agg #[.int .i64 0,.slice none 0 0]),2,32):=by kernel_rfl
theorem a0J:(Tryz.prog.info? 41).map (fun i=>i.size)=some 2:=by kernel_rfl
def CloneSays (w:World) (t:Tm) (e:Ending) (w':World):Prop:=∃ a c,e = .returned (.agg #[.int .i64 t.f,.slice a t.ps.length c])/\OwnT 41 (fun b=>w.heap.size<=b) w' w.heap.size (.slice a t.ps.length c) (t.ps.map Tm.strip)/\Below w.heap.size w w'
theorem CloneSays.tat {w w':World} {t:Tm} {e:Ending} (h:CloneSays w t e w') (hf : -9223372036854775808<=t.f/\t.f<=9223372036854775807):∃ a n c,e = .returned (.agg #[.int .i64 t.f,.slice a n c])/\Tat (fun b=>w.heap.size<=b) w' t.strip a n c/\Below w.heap.size w w':=by
 obtain ⟨a0,c0,h1,h2,h3⟩:=h;obtain ⟨a,c,e1,h4⟩:=h2.las fun b h _=>h;rw [e1] at h1;refine ⟨a,_,c,h1,a0r.2 ⟨by rw [Tm.strip_f];exact hf,?_⟩,h3⟩;rw [Tm.strip_l];exact h4
set_option maxRecDepth 100000 in
set_option maxHeartbeats 800000 in
theorem a6S {U:Nat->Prop} {l:List Tm} {a:Option Addr} {n c:Nat} {w:World} (h:Las U w l a n c) (hn:n<=90000000000)
  (hC:∀ t∈l,∀ (a:Option Addr) (n c:Nat) (w':World),Tat U w' t a n c->Calls Tryz.prog 98 #[.agg #[.int .i64 t.f,.slice a n c]] w' (CloneSays w' t)) :
  Calls Tryz.prog 131 #[.slice a n c] w fun e w'=>∃ a c,e = .returned (.slice a l.length c)/\OwnT 41 (fun b=>w.heap.size<=b) w' w.heap.size (.slice a l.length c) (l.map Tm.strip)/\Below w.heap.size w w':=by
 have HL:=hid h.len;have HA:Hid (∀ w',Below w.heap.size w w'->Las U w' l a n c):=fun w' hb=>h.bw hb;have HC:=hid hC;clear h hC
 go_enter Tryz.func131,Tryz.ntmps131
 go_wp2
 go_loopw [3,8] (fun vv i wr=>∃ (k:Nat) (av:Option Addr) (cv:Nat),vv = .slice av k cv/\i = .int .i64 (k:Int)/\k<=n/\OwnT 41 (fun b=>w.heap.size<=b) wr w.heap.size (.slice av k cv) ((l.take k).map Tm.strip)/\Below w.heap.size w wr) (fun _ i _=>n-(intOf i).toNat)
 case atStart=>exact ⟨0,_,_,rfl,rfl,by omega,OwnT.nil _ _ _ _,bW _⟩
 case round =>
  obtain ⟨k,av,cv,rfl,rfl,hk,ho,cJ⟩:=hrel;by_cases kA:k<n
  ·obtain ⟨b,off,s,a',n',c',rfl,hU,rV,hs,hT,e1,e2⟩:=(HA.out wr cJ).at kA;have HS:=hid hs;clear hs;have kW:Below wr.heap.size wr (wr.alloc (.cells #[.int .i64 s.f,.slice a' n' c'] 41)):=bA (bW _) _;have HCall:=hid (HC.out s (mem_of_getElem? HS.out) a' n' c' _ (hT.bw kW));have HF:=hid hT.wf;have HApp:Hid (∀ w1 a1 n1 c1,Below wr.heap.size wr w1->Tat (fun b=>wr.heap.size+1<=b) w1 s.strip a1 n1 c1->∃ a' c' w',Sem.run Tryz.prog (Builtin.append_ #[39,39] 39 #[.slice av k cv,.slice (some ⟨w1.heap.size,0,none⟩) 1 1]) (w1.alloc (.cells #[.int .i64 s.f,.slice a1 n1 c1] 41)) = .ok (.slice a' (k+1) c') w'/\OwnT 41 (fun b=>w.heap.size<=b) w' w.heap.size (.slice a' (k+1) c') ((l.take (k+1)).map Tm.strip)/\Below w.heap.size w w'):=by
    intro w1 a1 n1 c1 dW lB;have lD:=ho.bw dW;have dT:Tat (fun b=>w.heap.size<=b/\(Value.slice av k cv).ownBlock≠some b) w1 s.strip a1 n1 c1:=lB.mono fun b hb _=>⟨by have:=cJ.size;omega,fun e=>by have:=(ho.lt e).2;omega⟩
    have kF:((l.take k).map Tm.strip).length=k:=by rw [length_map,length_take];have:=HL.out;omega
    obtain ⟨a',c',w',hr,h1,h2,_,_⟩:=c0N (P:=Tryz.prog) (U:=fun b=>w.heap.size<=b) (B:=w.heap.size) (Nat.le_trans cJ.size dW.size) 39 41 _ 32 Tryz.underlying39 a7E rfl (by decide) lD dT (by omega);rw [Tm.strip_f,kF] at hr;rw [kF] at h1;refine ⟨a',c',w',hr,?_,(cJ.trans (dW.mono cJ.size)).trans h2⟩;rw [take_add_one,HS.out,map_append];exact h1
   clear ho hT
   go_wp2_with (first
    | (go_at_call 98;refine HCall.out.mono ?_;rintro e w1 fN;obtain ⟨a1,n1,c1,rfl,lB,aZ⟩:=fN.tat HF.out;rw [World.size_alloc] at lB;obtain ⟨a2,c2,w2,iY,iZ,gV⟩:=HApp.out w1 a1 n1 c1 (bN kW aZ) lB;clear fN lB)
    | (at_builtin;refine a5s _ rfl _ _ _ rfl _ _ rfl rfl _ _ iY ?_))
   go_wp2
   go_roundw
   case rel=>exact ⟨k+1,_,_,rfl,by go_num,by omega,iZ,gV⟩
   case measure=>simp [intOf];omega
  ·have HE:Hid (l.take k=l):=take_of_length_le (by have:=HL.out;omega);rw [HE.out] at ho;have HK:Hid (k=l.length):=by show _=_;have:=HL.out;omega
   go_wp2
   go_ret
   exact ⟨av,cv,by rw [<-HK.out];rfl,by rw [<-HK.out];exact ho,cJ⟩
theorem a6J {W:World} {g:Nat} {x y:Value} {t:TypeId} (h:W.heap[g]?=some (.cells #[x,y] t (0,0))) (x' y':Value):((W.setCell ⟨g,0,none⟩ x').setCell ⟨g,1,none⟩ y').heap[g]?=some (.cells #[x',y'] t (0,0)):=by
 obtain ⟨kA,hk⟩:=Array.getElem?_eq_some_iff.1 h;have h1:(W.setCell ⟨g,0,none⟩ x').heap[g]?=some (.cells #[x',y] t (0,0)):=by show (W.heap.modify g _)[g]?=_;rw [Array.getElem?_eq_getElem (by rw [Array.size_modify];exact kA),Array.getElem_modify_self,hk];rfl
 obtain ⟨fT,gW⟩:=Array.getElem?_eq_some_iff.1 h1;show ((W.setCell ⟨g,0,none⟩ x').heap.modify g _)[g]?=_;rw [Array.getElem?_eq_getElem (by rw [Array.size_modify];exact fT),Array.getElem_modify_self,gW];rfl
theorem a3x {w:World} {b:Nat} {x y:Value} {t:TypeId} (h:w.heap[b]?=some (.cells #[x,y] t (0,0))):w.frozen? ⟨b,0,none⟩=false/\w.frozen? ⟨b,1,none⟩=false:=by
 constructor<;>simp [World.frozen?,h]
theorem a5i {tmps:Array Value} {w:World} {g:Nat} {x y:Value} (hp:tmps.getD 2 undef = .pointer (some ⟨g,0,none⟩)) (hg:w.heap[g]?=some (.cells #[x,y] 41 (0,0))) :
  (results Tryz.f98 tmps).run Tryz.prog w = .ok (.agg #[x,y]) w:=by
 have oV:tmps[2]?.getD undef = .pointer (some ⟨g,0,none⟩):=by simpa using hp
 simp [results,oV,asAddr,run_loadVar_row w g _ 41 #[x,y] (0,0) _ hg Tryz.underlying41 rfl a0J]
set_option maxRecDepth 100000 in
set_option maxHeartbeats 800000 in
theorem b4T {U:Nat->Prop}:∀ (t:Tm) (a:Option Addr) (n c:Nat) (w:World),Tat U w t a n c->t.size<=90000000000->Calls Tryz.prog 98 #[.agg #[.int .i64 t.f,.slice a n c]] w (CloneSays w t):=by
 intro t
 induction t using Tm.indp with
 | h t ih =>
  intro a n c w ht kC;obtain ⟨w0,eT⟩:∃ w0,w0=(w.alloc (.cells #[.int .i64 t.f,.slice a n c] 41)).alloc (.cells #[.int .i64 0,.slice none 0 0] 41):=⟨_,rfl⟩
  have HX:Hid (∀ w1,Below w0.heap.size w0 w1->w1.heap[w.heap.size+1]?=some (.cells #[.int .i64 0,.slice none 0 0] 41 (0,0))):=fun w1 hb=>by have h1:=World.alloc_heap_new (w.alloc (.cells #[.int .i64 t.f,.slice a n c] 41)) (.cells #[.int .i64 0,.slice none 0 0] 41);rw [World.size_alloc,<-eT] at h1;exact (hb.block _ (Array.getElem?_eq_some_iff.1 h1).1).trans h1
  have HB:Hid (∀ w1,Below w0.heap.size w0 w1->((w1.cell? ⟨w.heap.size,0,none⟩=some (.int .i64 t.f)/\w1.cell? ⟨w.heap.size,1,none⟩=some (.slice a n c))/\(w1.cell? ⟨w.heap.size+1,0,none⟩=some (.int .i64 0)/\w1.cell? ⟨w.heap.size+1,1,none⟩=some (.slice none 0 0)))/\(w1.frozen? ⟨w.heap.size+1,0,none⟩=false/\w1.frozen? ⟨w.heap.size+1,1,none⟩=false)):=fun w1 hb=>by refine ⟨?_,a3x (HX.out w1 hb)⟩;rw [eT] at hb;exact c1V hb
  have HW:=hid eT;have HB0:Hid (Below w.heap.size w w0):=by rw [eT];exact bA (bA (bW _) _) _
  clear eT;have HP:Hid (∀ w1,Below w0.heap.size w0 w1->Calls Tryz.prog 134 #[.agg #[.int .i64 t.f,.slice a n c]] w1 fun e w'=>Below w1.heap.size w1 w'/\∃ a' n' c',e = .returned (.slice a' n' c')/\Las U w' t.ps a' n' c'):=fun w1 hb=>Z9 (ht.bw (bN HB0.out hb));have cG:=t.len_ps;have HC:Hid (∀ w1 a' n' c',Las U w1 t.ps a' n' c'->Calls Tryz.prog 131 #[.slice a' n' c'] w1 fun e w'=>∃ a c,e = .returned (.slice a t.ps.length c)/\OwnT 41 (fun b=>w1.heap.size<=b) w' w1.heap.size (.slice a t.ps.length c) (t.ps.map Tm.strip)/\Below w1.heap.size w1 w'):=fun w1 a' n' c' h=>a6S h (by have:=h.1;omega) (fun s hs a n c w' h'=>ih s hs a n c w' h' (by have:=Tm.size_part hs;omega));have HST:Hid (∀ w1 x y,Below w0.heap.size w0 w1->((w1.setCell ⟨w.heap.size+1,0,none⟩ x).setCell ⟨w.heap.size+1,1,none⟩ y).cell? ⟨w.heap.size,0,none⟩=some (.int .i64 t.f)/\((w1.setCell ⟨w.heap.size+1,0,none⟩ x).setCell ⟨w.heap.size+1,1,none⟩ y).cell? ⟨w.heap.size,1,none⟩=some (.slice a n c)):=fun w1 x y hb=>by
   have h1:=(HB.out w1 hb).1.1;have h2:((w1.setCell ⟨w.heap.size+1,0,none⟩ x).setCell ⟨w.heap.size+1,1,none⟩ y).heap[w.heap.size]?=w1.heap[w.heap.size]?:=by rw [Below.heap_setCell _ _ _ _ (by show w.heap.size≠w.heap.size+1;omega),Below.heap_setCell _ _ _ _ (by show w.heap.size≠w.heap.size+1;omega)]
   exact ⟨(a0B h2).trans h1.1,(a0B h2).trans h1.2⟩
  have hq:Below w0.heap.size w0 w0:=bW _;obtain ⟨⟨⟨c1,c2⟩,c3,c4⟩,c5,c6⟩:=HB.out w0 hq;clear ih ht
  go_enter Tryz.func98,Tryz.ntmps98
  go_wp2_with fail
  rw [<-HW.out]
  go_region_held3 (fun w'=>w'.cell? ⟨w.heap.size,0,none⟩=some (.int .i64 t.f)/\w'.cell? ⟨w.heap.size,1,none⟩=some (.slice a n c)) (first | (refine (HB.out _ ?_).1.1;with_reducible exact hq) | (refine (HB.out _ ?_).1.1;with_reducible exact bD hq) | (refine HST.out _ _ _ ?_;with_reducible exact hq))
   (first
    | (go_at_call 134;refine (HP.out _ (by first | with_reducible exact hq | with_reducible exact bD hq)).mono ?_;rintro e w2 ⟨gV,a2,n2,c2,rfl,kL⟩;replace hq:=bN (by first | with_reducible exact hq | with_reducible exact bD hq) gV;clear gV;dsimp only)
    | (go_at_call 131;refine (HC.out _ _ _ _ kL).mono ?_;rintro e w3 ⟨a3,c3,rfl,tL,dV⟩;have fH:=hq;replace hq:=bN (by first | with_reducible exact hq | with_reducible exact bD hq) dV;obtain ⟨⟨_,d3,d4⟩,d5,d6⟩:=HB.out _ hq;dsimp only))
  go_wp2_with fail
  refine bodyPost_ret (a5i (g:=w.heap.size+1) rfl (a6J (HX.out _ hq) _ _)) rfl ?_;have cY:w0.heap.size<=w2.heap.size:=fH.size;have eT:w0.heap.size=w.heap.size+2:=by rw [HW.out];simp
  refine ⟨a3,c3,rfl,?_,?_⟩
  ·refine (tL.keep (fun b h=>h) fun b hb kA=>?_).mono (by omega) (fun b h=>by omega);rw [Below.heap_setCell _ _ _ _ (by show b≠w.heap.size+1;omega),Below.heap_setCell _ _ _ _ (by show b≠w.heap.size+1;omega)]
  ·exact ((bN HB0.out hq).setCell (p:=⟨w.heap.size+1,0,none⟩) (by show w.heap.size<=w.heap.size+1;omega) _).setCell (p:=⟨w.heap.size+1,1,none⟩) (by show w.heap.size<=w.heap.size+1;omega) _
def a2K (R:Nat->List Value):Nat->List Value
 | 0=>[]
 | k+1=>a2K R k++R k
def a3D (L:Nat->Nat):Nat->Nat
 | 0=>0
 | k+1=>a3D L k+L k
theorem b2p (L:Nat->Nat) {k m:Nat} (h:k<=m):a3D L k<=a3D L m:=by
 induction h with
 | refl=>exact Nat.le_refl _
 | step h ih=>rw [a3D];omega
def Rw (size:Nat) (w:World) (a:Option Addr) (m:Nat) (A:Nat->Option Addr) (L C:Nat->Nat) (R:Nat->List Value):Prop:=
 (∀ r,r<m->(A r=none->L r=0/\C r=0)/\Cs w (A r) (R r)/\(R r).length=L r*size/\(∀ u∈R r,u.oneCell'=true)) /\
 (m=0\/∃ b off,a=some ⟨b,off,none⟩/\b<w.heap.size/\∀ r,r<m->w.cell? ⟨b,off+r,none⟩=some (.slice (A r) (L r) (C r)))
theorem Rw.below {B size:Nat} {w w':World} {a:Option Addr} {m:Nat} {A:Nat->Option Addr} {L C:Nat->Nat} {R:Nat->List Value} (h:Rw size w a m A L C R) (hb:Below B w w') (hB:w.heap.size<=B):Rw size w' a m A L C R:=by
 refine ⟨fun r hr=>⟨(h.1 r hr).1,(h.1 r hr).2.1.below hb hB,(h.1 r hr).2.2⟩,?_⟩;rcases h.2 with h0 | ⟨b,off,rfl,kA,hc⟩
 ·exact .inl h0
 ·exact .inr ⟨b,off,rfl,Nat.lt_of_lt_of_le kA hb.size,fun r hr=>by rw [hb.cell (by show b<B;omega)];exact hc r hr⟩
set_option maxRecDepth 100000 in
set_option maxHeartbeats 400000 in
theorem b3V (n:Nat) (hn:n<=4398046511104) (w:World) :
  Calls Tryz.prog 163 #[.slice none 0 0,.int .i64 (n:Int)] w fun e w'=>∃ v,e = .returned v/\w'.ownsRow w.heap.size 41 2 v 0 []/\Below w.heap.size w w':=by
 obtain ⟨i,bT,cO,cN,fD⟩:=info_parts a7E;rcases Nat.eq_zero_or_pos n with rfl | h0
 ·go_enter Tryz.func163,Tryz.ntmps163
  go_wp2
  go_ret
  exact ⟨_,rfl,World.ownsRow_nil _ _ _ _,bW _⟩
 ·have hr:=Lib.run_append_nil_zeros (P:=Tryz.prog) w 39 3 39 41 i (.agg #[.int .i64 0,.slice none 0 0]) .i64 .i64 Tryz.underlying39 Tryz.underlying3 bT cO n h0 (by rw [cN];omega) (by omega) (by rw [fD];omega)
  go_enter Tryz.func163,Tryz.ntmps163
  go_wp2_with (at_builtin;refine Lib.wpList_append_run _ rfl _ _ _ _ rfl _ _ rfl rfl _ _ hr ?_)
  go_wp2
  go_ret
  refine ⟨_,rfl,World.ownsRow_made w.drew _ _ (Nat.le_refl _) (grownCap_le_maxLen _ _ _ _ (by unfold maxLen;omega)) ?_,(Below.refl _ _).drew.alloc (Nat.le_refl _) _⟩;have:=grownCap_ge w n 0 41;simp [size_zeroCells]
  try omega
set_option maxRecDepth 100000 in
set_option maxHeartbeats 800000 in
theorem a9d (a:Option Addr) (m c:Nat) (A:Nat->Option Addr) (L C:Nat->Nat) (R:Nat->List Value) (w:World) (hr:Rw 2 w a m A L C R) (hm:m<=1000) (hs:a3D L m<=1099511627776) :
  Calls Tryz.prog 130 #[.slice a m c] w fun e w'=>∃ v,e = .returned v/\w'.ownsRow w.heap.size 41 2 v (a3D L m) (a2K R m)/\Below w.heap.size w w':=by
 obtain ⟨J,hJ⟩:∃ J:Nat->List Value,J=a2K R:=⟨_,rfl⟩
 obtain ⟨N,hN⟩:∃ N:Nat->Nat,N=a3D L:=⟨_,rfl⟩
 have HS:Hid (∀ k,J (k+1)=J k++R k):=fun k=>by rw [hJ];rfl
 have HSN:Hid (∀ k,N (k+1)=N k+L k):=fun k=>by rw [hN];rfl
 have HJ0:Hid (J 0=[]/\N 0=0):=by rw [hJ,hN];exact ⟨rfl,rfl⟩
 have HL:Hid (∀ k,k<=m->N k<=1099511627776):=fun k hk=>by rw [hN];exact Nat.le_trans (b2p L hk) hs
 have HR:Hid (∀ B w',Below B w w'->w.heap.size<=B->Rw 2 w' a m A L C R):=fun B w' hb hB=>hr.below hb hB;have HR0:Hid (Rw 2 w a m A L C R):=hr;rw [<-hJ,<-hN];clear hJ hs hr hN
 go_enter Tryz.func130,Tryz.ntmps130
 go_wp2
 go_loop [3,11] (fun s i=>∃ k x:Nat,i = .int .i64 (k:Int)/\k<=m/\s = .int .i64 (x:Int)/\x=N k) (fun s i=>m-(intOf i).toNat)
 case atStart=>exact ⟨0,0,rfl,by omega,rfl,by rw [HJ0.out.2]⟩
 case round =>
  obtain ⟨k,x,rfl,hk,rfl,hx⟩:=hrel;have HX:Hid (x=N k):=hx;have iK:x<=1099511627776:=by rw [hx];exact HL.out k hk
  clear hx;by_cases kA:k<m
  ·rcases HR0.out.2 with h0 | ⟨b,off,rfl,hb,hc⟩
   ·omega
   have dO:=hc k kA;have HXX:Hid (x+L k=N (k+1)):=by show x+L k=_;rw [HSN.out k,<-HX.out]
   have jA:x+L k<=1099511627776:=by rw [HXX.out];exact HL.out (k+1) kA
   obtain ⟨Lk,eY⟩:∃ y,L k=y:=⟨_,rfl⟩
   obtain ⟨Ak,jL⟩:∃ y,A k=y:=⟨_,rfl⟩
   obtain ⟨Ck,lU⟩:∃ y,C k=y:=⟨_,rfl⟩
   rw [eY] at HXX jA;rw [eY,jL,lU] at dO;clear eY jL lU hc
   go_wp2
   refine ⟨⟨k+1,x+Lk,by go_num,by omega,by go_num,HXX.out⟩,?_⟩;simp [intOf];omega
  ·obtain rfl:k=m:=by omega
   go_wp2_with fail
   refine (b3V x (by omega) w).mono ?_;rintro e w1 ⟨v1,rfl,lD,kW⟩
   go_wp2
   go_loopw [6,27] (fun u i wr=>∃ j:Nat,i = .int .i64 (j:Int)/\j<=k/\wr.ownsRow w.heap.size 41 2 u (N j) (J j)/\Below w.heap.size w wr) (fun _ i _=>k-(intOf i).toNat)
   case atStart=>exact ⟨0,rfl,by omega,by rw [HJ0.out.1,HJ0.out.2];exact lD,kW⟩
   case round =>
    obtain ⟨j,rfl,hj,pR,nJ⟩:=hrel;by_cases kA:j<k
    ·obtain ⟨bS,eR,oW,dP⟩:=(HR.out _ _ nJ (Nat.le_refl _)).1 j kA;rcases (HR.out _ _ nJ (Nat.le_refl _)).2 with h0 | ⟨b,off,rfl,hb,hc⟩
     ·omega
     have dO:=hc j kA;have hJl:N j+L j<=1099511627776:=by have:=HL.out (j+1) kA;rw [HSN.out j] at this;exact this
     have HSj':Hid (J (j+1)=J j++R j/\N (j+1)=N j+L j):=⟨HS.out j,HSN.out j⟩
     obtain ⟨Lk,eY⟩:∃ y,L j=y:=⟨_,rfl⟩
     obtain ⟨Ak,jL⟩:∃ y,A j=y:=⟨_,rfl⟩
     obtain ⟨Ck,lU⟩:∃ y,C j=y:=⟨_,rfl⟩
     obtain ⟨Rk,iL⟩:∃ y,R j=y:=⟨_,rfl⟩
     obtain ⟨Jk,rX⟩:∃ y,J j=y:=⟨_,rfl⟩
     obtain ⟨Nk,pS⟩:∃ y,N j=y:=⟨_,rfl⟩
     rw [jL,iL] at eR;rw [iL] at dP;rw [eY,iL] at oW;rw [eY,jL,lU] at dO;rw [eY,jL,lU] at bS;rw [rX,iL,pS,eY] at HSj';rw [rX,pS] at pR;rw [pS,eY] at hJl;have kC:=nJ.size;have HRl:=hid oW;clear eY jL lU iL rX pS hc oW
     go_wp2_with (at_builtin;refine J7 _ rfl _ _ 39 rfl w.heap.size 41 (.agg #[.int .i64 0,.slice none 0 0]) 2 32 Tryz.underlying39 a7E rfl (by decide) _ Nk Jk rfl pR Ak Lk Ck Rk rfl bS eR HRl.out dP ?d1 ?d2 kC ?_)
     case d1=>unfold maxLen;omega
     case d2=>omega
     intro v2 w2 iZ oX;have gV:=nJ.trans (a2y pR oX kC);clear oX
     go_wp2
     go_roundw
     case rel=>exact ⟨j+1,by go_num,kA,by rw [HSj'.out.1,HSj'.out.2];exact iZ,gV⟩
     case measure=>simp [intOf];omega
    ·obtain rfl:j=k:=by omega
     go_wp2
     go_ret
     exact ⟨_,rfl,pR,nJ⟩
section
open Go.RowKit Go.Shelf
attribute [local go_sem] Oper.semAt_some
def Tm.wt:Tm->Nat
 | ⟨_,l⟩=>1+(l.map Tm.wt).sum
def Tm.wts (l:List Tm):Nat:=(l.map Tm.wt).sum
theorem b2B:Tm.wts []=0:=rfl
theorem a1n (t:Tm) (ts:List Tm):Tm.wts (t::ts)=t.wt+Tm.wts ts:=by simp [Tm.wts]
theorem Tm.wt_eq (t:Tm):t.wt=1+Tm.wts t.l:=by cases t with | mk f l=>rw [Tm.wt];rfl
theorem Tm.wts_mem {l:List Tm} {s:Tm} (h:s∈l):s.wt<=Tm.wts l:=by
 induction l with
 | nil=>cases h
 | cons y ys ih =>
  rw [a1n];rcases mem_cons.1 h with rfl | h
  ·omega
  ·have:=ih h;omega
theorem Tm.wts_len (l:List Tm):l.length<=Tm.wts l:=by
 induction l with
 | nil=>simp [b2B]
 | cons y ys ih=>rw [a1n,y.wt_eq,length_cons];omega
theorem Tm.size_wt (t:Tm):t.size<=t.wt:=by
 induction t using Tm.ind with
 | h f l ih =>
  rw [Tm.size_eq,Tm.wt_eq];have h1:∀ l:List Tm,(∀ s∈l,s.size<=s.wt)->(l.flatMap Tm.flat).length<=Tm.wts l:=by
   intro l hl
   induction l with
   | nil=>simp
   | cons y ys ih2 =>
    have h1:=hl y (by simp);unfold Tm.size at h1;rw [flatMap_cons,length_append,a1n];have:=ih2 (fun s hs=>hl s (mem_cons_of_mem _ hs));omega
  unfold Tm.ps;split
  ·simp
  ·have:=h1 l ih;show 1+(l.flatMap Tm.flat).length<=1+Tm.wts l;omega
theorem b4X {w:World} {b:Nat} {x y:Value} {t:TypeId} {fl:Nat×Nat} (h:w.heap[b]?=some (.cells #[x,y] t fl)):w.cell? ⟨b,0,none⟩=some x/\w.cell? ⟨b,1,none⟩=some y:=by
 constructor<;>simp [World.cell?,h]
end
def b1O:List (Int->Int->Int)->Int->Int->Int
 | [],most,_=>most
 | c::cs,most,deep=>if most<0 then most else b1O cs (c most deep) deep
def q5:Tm->Int->Int->Int
 | ⟨f,l⟩,most,deep=>if deep<0\/f < -1000\/1000<f\/20<l.length then -1 else b1O (l.map fun s=>fun m d=>q5 s m d) (most-1) (deep-1)
def I9 (l:List Tm) (most deep:Int):Int:=b1O (l.map fun s=>fun m d=>q5 s m d) most deep
theorem a1V (f:Int) (l:List Tm) (most deep:Int):q5 ⟨f,l⟩ most deep=if deep<0\/f < -1000\/1000<f\/20<l.length then -1 else I9 l (most-1) (deep-1):=by rw [q5];rfl
theorem a0C (most deep:Int):I9 [] most deep=most:=rfl
theorem O3 (t:Tm) (ts:List Tm) (most deep:Int):I9 (t::ts) most deep=if most<0 then most else I9 ts (q5 t most deep) deep:=rfl
theorem a3O (l:List Tm) {m:Int} (d:Int) (h:m<0):I9 l m d=m:=by
 cases l with
 | nil=>rw [a0C]
 | cons t ts=>rw [O3,if_pos h]
theorem a0K (t:Tm):∀ most deep,0<=most -> -1<=q5 t most deep/\q5 t most deep<most/\(0<=q5 t most deep->q5 t most deep+t.wt<=most):=by
 induction t using Tm.ind with
 | h f l ih =>
  intro most deep hm;rw [a1V];split
  ·exact ⟨by omega,by omega,by omega⟩
  ·have:∀ (l:List Tm) (m d:Int),(∀ t∈l,∀ most deep,0<=most -> -1<=q5 t most deep/\q5 t most deep<most/\(0<=q5 t most deep->q5 t most deep+t.wt<=most)) -> -1<=m -> -1<=I9 l m d/\I9 l m d<=m/\(0<=I9 l m d->I9 l m d+Tm.wts l<=m):=by
    intro l
    induction l with
    | nil=>intro m d _ h;rw [a0C,b2B];exact ⟨h,Int.le_refl _,by omega⟩
    | cons y ys ih2 =>
     intro m d hl h;rw [O3,a1n];split
     ·exact ⟨by omega,by omega,by omega⟩
     ·have h1:=hl y (by simp) m d (by omega);have h2:=ih2 (q5 y m d) d (fun s hs=>hl s (mem_cons_of_mem _ hs)) h1.1;refine ⟨h2.1,by omega,fun h3=>?_⟩;have:=h2.2.2 h3;have:=h1.2.2 (by omega);omega
   have h1:=this l (most-1) (deep-1) ih (by omega);refine ⟨h1.1,by omega,fun h2=>?_⟩;have:=h1.2.2 h2;rw [Tm.wt_eq];show _+((1+Tm.wts l:Nat):Int)<=_;omega
set_option maxRecDepth 100000 in
set_option maxHeartbeats 1000000 in
theorem b3E:∀ (t:Tm) (U:Nat->Prop) (a:Option Addr) (n c:Nat) (most deep:Int) (w:World),Tat U w t a n c->0<=most->most<=60 -> -1<=deep->deep<=20 ->
  Calls Tryz.prog 25 #[.agg #[.int .i64 t.f,.slice a n c],.int .i64 most,.int .i64 deep] w fun e w'=>e = .returned (.int .i64 (q5 t most deep))/\Below w.heap.size w w':=by
 intro t
 induction t using Tm.ind with
 | h f l ih =>
  intro U a n c most deep w ht cD lM dG bZ;obtain ⟨w1,dW⟩:∃ w1,w1=w.alloc (.cells #[.int .i64 f,.slice a n c] 50):=⟨_,rfl⟩
  have b1:Below w.heap.size w w1:=by rw [dW];exact bA (bW _) _
  have x1:w1.heap[w.heap.size]?=some (.cells #[.int .i64 f,.slice a n c] 50 (0,0)):=by rw [dW];exact World.alloc_heap_new _ _
  have hl:Las U w1 l a n c:=ht.las.bw b1;have HL:=hid hl.len;have hn:n<=9223372036854775807:=by have:=HL.out;unfold maxLen at this;omega
  have HX:Hid (∀ V,Below w1.heap.size w1 V->V.cell? ⟨w.heap.size,0,none⟩=some (.int .i64 f)/\V.cell? ⟨w.heap.size,1,none⟩=some (.slice a n c)):=fun V hb=>b4X ((hb.block _ (Array.getElem?_eq_some_iff.1 x1).1).trans x1);have HLs:Hid (∀ V,Below w1.heap.size w1 V->Las U V l a n c):=fun V hb=>hl.bw hb;have HI:=hid ih;have HW:=hid dW;have HD:Hid (q5 (.mk f l) most deep=if deep<0\/f < -1000\/1000<f\/20<l.length then -1 else I9 l (most-1) (deep-1)):=by show _=_;rw [a1V]
  obtain ⟨z,hz⟩:∃ z,z=q5 (.mk f l) most deep:=⟨_,rfl⟩
  rw [<-hz] at HD |-;obtain ⟨c1,c2⟩:=HX.out w1 (bW _);clear hz dW x1 hl ht ih;simp only;by_cases hbad:deep<0\/f < -1000\/1000<f\/20<n
  ·have HE:Hid (z = -1):=by show _=_;rw [HD.out,if_pos (by have:=HL.out.1;omega)]
   rw [HE.out];have HB0:Hid (Below w.heap.size w w1):=b1;by_cases q1:deep<0
   ·go_enter Tryz.func25,Tryz.ntmps25
    go_wp2
    go_ret
    exact ⟨rfl,bA (bW _) _⟩
   ·by_cases q2:f < -1000
    ·go_enter Tryz.func25,Tryz.ntmps25
     go_wp2
     go_ret
     exact ⟨rfl,bA (bW _) _⟩
    ·by_cases q3:1000<f
     ·go_enter Tryz.func25,Tryz.ntmps25
      go_wp2
      go_ret
      exact ⟨rfl,bA (bW _) _⟩
     ·have q4:20<n:=by omega
      go_enter Tryz.func25,Tryz.ntmps25
      go_wp2
      go_ret
      exact ⟨rfl,bA (bW _) _⟩
  ·have HE:Hid (z=I9 l (most-1) (deep-1)):=by show _=_;rw [HD.out,if_neg (by have:=HL.out.1;omega)]
   have q1:¬ deep<0:=by omega
   have q2:¬ f < -1000:=by omega
   have q3:¬ 1000<f:=by omega
   have q4:¬ 20<n:=by omega
   clear hbad HD
   go_enter Tryz.func25,Tryz.ntmps25
   go_wp2_with fail
   rw [<-HW.out]
   go_loopw [1,7] (fun u i wr=>∃ (k:Nat) (m:Int),u = .int .i64 m/\i = .int .i64 (k:Int)/\k<=n /\ -1<=m/\m<=60/\Below w1.heap.size w1 wr/\I9 (l.drop k) m (deep-1)=z) (fun u i _=>n-(intOf i).toNat)
   case atStart=>exact ⟨0,most-1,rfl,rfl,by omega,by omega,by omega,bW _,by rw [HE.out];simp⟩
   case round =>
    obtain ⟨k,m,rfl,rfl,hk,hm3,hm4,cJ,pT⟩:=hrel;have HSM:=hid pT;obtain ⟨d1,d2⟩:=HX.out wr cJ;clear pT c1 c2;by_cases kA:k<n
    ·by_cases pK:0<=m
     ·obtain ⟨b,off,s,a',n',c',rfl,hU,rV,hs,hT,e1,e2⟩:=(HLs.out wr cJ).at kA;have HS:=hid hs;have bP:=a0K s m (deep-1) pK;have HR:Hid (I9 (l.drop (k+1)) (q5 s m (deep-1)) (deep-1)=z):=by show _=_;rw [<-HSM.out,U3 HS.out,O3,if_neg (by omega)]
      have HCall:Hid (Calls Tryz.prog 25 #[.agg #[.int .i64 s.f,.slice a' n' c'],.int .i64 m,.int .i64 (deep-1)] wr fun e w'=>e = .returned (.int .i64 (q5 s m (deep-1)))/\Below wr.heap.size wr w'):=HI.out s (mem_of_getElem? HS.out) U a' n' c' m (deep-1) wr hT pK hm4 (by omega) (by omega);obtain ⟨y,hy⟩:∃ y,y=q5 s m (deep-1):=⟨_,rfl⟩
      rw [<-hy] at HR HCall bP;clear hs hT hy
      go_wp2_with (go_at_call 25;refine HCall.out.mono ?_;rintro e w2 ⟨rfl,gV⟩)
      go_roundw
      case rel=>exact ⟨k+1,y,rfl,by go_num,by omega,by omega,by omega,bN cJ gV,HR.out⟩
      case measure=>simp [intOf];omega
     ·have HZ:Hid (z=m):=by show _=_;rw [<-HSM.out,a3O _ _ (by omega)]
      go_wp2
      go_ret
      exact ⟨by rw [HZ.out];rfl,bN b1 cJ⟩
    ·have HZ:Hid (z=m):=by show _=_;rw [<-HSM.out,List.drop_eq_nil_of_le (by have:=HL.out.1;omega),a0C]
     go_wp2
     go_ret
     exact ⟨by rw [HZ.out];rfl,bN b1 cJ⟩
def Tm.rng:Tm->Prop
 | ⟨f,l⟩=>(-9223372036854775808<=f/\f<=9223372036854775807)/\∀ t∈l,Tm.rng t
theorem Tm.rng_iff (t:Tm):t.rng↔(-9223372036854775808<=t.f/\t.f<=9223372036854775807)/\∀ s∈t.l,s.rng:=by cases t;rw [Tm.rng]
theorem a5X {U:Nat->Prop} {w:World}:∀ {l:List Tm} {xs:List Value},(∀ t∈l,∀ a n c,Tat U w t a n c->Rep (fun b _=>U b) w t.cv [.int .i64 t.f,.slice a n c])->Ecs U w l xs->Sq ((l.map Tm.cv).map fun c=>Rep (fun b _=>U b) w c) xs
 | [],xs,_,h=>Ecs.nil_iff.1 h
 | t::ts,xs,ht,h=>by
  obtain ⟨a,n,c,ys,e,h1,h2⟩:=Ecs.cons_iff.1 h;exact ⟨[.int .i64 t.f,.slice a n c],ys,by rw [e];rfl,ht t (by simp) a n c h1,a5X (fun s hs=>ht s (mem_cons_of_mem _ hs)) h2⟩
theorem b6a {U:Nat->Prop} {w:World} {a:Option Addr} {xs:List Value} (h:Cu U w a xs):At (fun b _=>U b) w a xs:=by
 rcases h with h | ⟨b,off,h1,h2,h3,h4⟩
 ·exact .inl h
 ·exact .inr ⟨b,off,h1,fun i hi=>⟨h2,h4 i hi⟩⟩
theorem b1D {U:Nat->Prop} {w:World}:∀ {t:Tm} {a:Option Addr} {n c:Nat},Tat U w t a n c->Rep (fun b _=>U b) w t.cv [.int .i64 t.f,.slice a n c]:=by
 intro t
 induction t using Tm.ind with
 | h f l ih =>
  intro a n c h;obtain ⟨_,h2,h3,h4,h5,xs,h6,h7⟩:=a0r.1 h;rw [Tm.cv_eq];refine I4.2 ⟨[.int .i64 f],[.slice a n c],rfl,b3m _ _,[.slice a n c],[],rfl,N1.2 ⟨a,n,c,rfl,by rw [length_map];exact h2,h3,h4,h5,xs,b6a h6,a5X (fun t ht a n c=>ih t ht) h7⟩,rfl⟩
theorem a8R {U:Nat->Prop} {w:World} {t:Tm} {a:Option Addr} {n c:Nat} (h:Tat U w t a n c):VRep (fun b _=>U b) w t.cw (.agg #[.int .i64 t.f,.slice a n c]):=by
 have:=b1D h;rw [Tm.cv_eq] at this;exact ⟨_,rfl,this⟩
theorem a6i {U:Nat->Nat->Prop} {w:World}:∀ {l:List Tm} {xs:List Value},(∀ t∈l,∀ ys,Rep U w t.cv ys->∃ a n c,ys=[.int .i64 t.f,.slice a n c]/\Tat (fun _=>True) w t a n c)->Sq ((l.map Tm.cv).map fun c=>Rep U w c) xs->Ecs (fun _=>True) w l xs
 | [],xs,_,h=>Ecs.nil_iff.2 h
 | t::ts,xs,ht,⟨ys,zs,e,h1,h2⟩=>by
  obtain ⟨a,n,c,e1,h3⟩:=ht t (by simp) ys h1;exact Ecs.cons_iff.2 ⟨a,n,c,zs,by rw [e,e1];rfl,h3,a6i (fun s hs=>ht s (mem_cons_of_mem _ hs)) h2⟩
theorem b0Q {U:Nat->Nat->Prop} {w:World}:∀ {t:Tm} {xs:List Value},t.rng->Rep U w t.cv xs->∃ a n c,xs=[.int .i64 t.f,.slice a n c]/\Tat (fun _=>True) w t a n c:=by
 intro t
 induction t using Tm.ind with
 | h f l ih =>
  intro xs hr h;rw [Tm.rng_iff] at hr;rw [Tm.cv_eq] at h;obtain ⟨y1,y2,e1,h1,y3,y4,e2,h2,h3⟩:=I4.1 h;obtain ⟨rfl,_⟩:=K0.1 h1;obtain ⟨a,n,c,rfl,g2,g3,g4,g5,zs,g6,g7⟩:=N1.1 h2;have h3:y4=[]:=h3;subst h3;refine ⟨a,n,c,by rw [e1,e2];rfl,a0r.2 ⟨hr.1,by rw [length_map] at g2;exact g2,g3,g4,g5,zs,?_,a6i (fun t ht ys hy=>ih t ht (hr.2 t ht) hy) g7⟩⟩;rcases g6 with g6 | ⟨b,off,g6,g8⟩
  ·exact .inl g6
  ·by_cases hz:zs=[]
   ·exact .inl hz
   ·refine .inr ⟨b,off,g6,trivial,?_,fun i hi=>(g8 i hi).2⟩;have gM:0<zs.length:=List.length_pos_iff.2 hz;have:=(g8 0 gM).2;rw [getElem?_eq_getElem gM] at this;exact World.block_lt_of_cell? w _ this
theorem F8 {U:Nat->Nat->Prop} {w:World} {t:Tm} {v:Value} (hr:t.rng) (h:VRep U w t.cw v):∃ a n c,v = .agg #[.int .i64 t.f,.slice a n c]/\Tat (fun _=>True) w t a n c:=by
 obtain ⟨xs,h1,h2⟩:∃ xs:List Value,v = .agg xs.toArray/\Rep U w t.cw xs:=h;rw [<-Tm.cv_eq] at h2;obtain ⟨a,n,c,h3,h4⟩:=b0Q hr h2;exact ⟨a,n,c,by rw [h1,h3],h4⟩
theorem b6z (W:World) {t s:Tm} (ht:t.rng) (hs:s.rng):AFun Tryz.prog W 76 [t.cw,s.cw] (.val (.b (E5 t s))):=by
 refine ⟨x9 Tryz.func76 rfl rfl,.inl rfl,rfl,?_⟩;rintro U w vs hW ⟨u1,us1,rfl,h1,u2,us2,rfl,h2,h3⟩;have h3:us2=[]:=h3;subst h3;obtain ⟨a,n,c,rfl,h4⟩:=F8 ht h1;obtain ⟨a',n',c',rfl,h5⟩:=F8 hs h2;refine (b6s t s a a' n c n' c' w h4 h5).mono ?_;rintro e w' ⟨rfl,hb⟩;exact ⟨_,rfl,n8.2 ⟨rfl,rfl⟩,hb⟩
theorem a1l (W:World) {t:Tm} (ht:t.rng) (hm:t.size<=4611686018427387904):AFun Tryz.prog W 52 [t.cw] (.val (.i (t.size:Int))):=by
 refine ⟨x9 Tryz.func52 rfl rfl,.inl rfl,rfl,?_⟩;rintro U w vs hW ⟨u1,us1,rfl,h1,h3⟩;have h3:us1=[]:=h3;subst h3;obtain ⟨a,n,c,rfl,h4⟩:=F8 ht h1;refine (b5B h4 hm).mono ?_;rintro e w' ⟨rfl,hb⟩;exact ⟨_,rfl,n8.2 ⟨rfl,rfl⟩,hb⟩
theorem b3g (W:World) {t:Tm} (ht:t.rng):AFun Tryz.prog W 88 [t.cw] (.val (.i (U4 t.flat))):=by
 refine ⟨x9 Tryz.func88 rfl rfl,.inl rfl,rfl,?_⟩;rintro U w vs hW ⟨u1,us1,rfl,h1,h3⟩;have h3:us1=[]:=h3;subst h3;obtain ⟨a,n,c,rfl,h4⟩:=F8 ht h1;refine (b8X h4).mono ?_;rintro e w' ⟨rfl,hb⟩;exact ⟨_,rfl,n8.2 ⟨rfl,rfl⟩,hb⟩
theorem L5 (W:World) {t:Tm} (ht:t.rng) (hm:t.size<=90000000000):AFun Tryz.prog W 98 [t.cw] (.val t.strip.cw):=by
 refine ⟨x9 Tryz.func98 rfl rfl,.inl rfl,rfl,?_⟩;rintro U w vs hW ⟨u1,us1,rfl,h1,h3⟩;have h3:us1=[]:=h3;subst h3;obtain ⟨a,n,c,rfl,h4⟩:=F8 ht h1;refine (b4T t a n c w h4 hm).mono ?_;rintro e w' h;obtain ⟨a',n',c',rfl,h5,hb⟩:=h.tat h4.wf;refine ⟨_,rfl,?_,hb⟩;have:=a8R h5;rw [Tm.strip_f] at this;exact this.mono fun b o h => .inr h
theorem a5T (W:World) (t:Tm) (most deep:Int) (ht:t.rng) (h0:0<=most) (h1:most<=60) (h2 : -1<=deep) (h3:deep<=20):AFun Tryz.prog W 25 [t.cw,.i most,.i deep] (.val (.i (q5 t most deep))):=by
 refine ⟨x9 Tryz.func25 rfl rfl,.inl rfl,rfl,?_⟩;rintro U w vs hW ⟨u1,us1,rfl,g1,u2,us2,rfl,g2,u3,us3,rfl,g3,g4⟩;have g4:us3=[]:=g4;subst g4;obtain ⟨a,n,c,rfl,h4⟩:=F8 ht g1;obtain ⟨rfl,_⟩:=n8.1 g2;obtain ⟨rfl,_⟩:=n8.1 g3;refine (b3E t _ a n c most deep w h4 h0 h1 h2 h3).mono ?_;rintro e w' ⟨rfl,hb⟩;exact ⟨_,rfl,n8.2 ⟨rfl,rfl⟩,hb⟩
structure Bd where
 v:Int
 t:Tm
noncomputable abbrev Bd.cw (b:Bd):CV := .row [.i b.v,b.t.cw]
noncomputable def Bd.cv (b:Bd):CV:=b.cw
theorem Bd.size_all (l:List Bd):∀ c∈l.map Bd.cv,c.size=3:=by
 intro c hc;obtain ⟨b,_,rfl⟩:=mem_map.1 hc;rfl
theorem Bd.map_at {l:List Bd} {i:Nat} {b:Bd} (h:l[i]?=some b):(l.map Bd.cv)[i]?=some b.cw:=by rw [List.getElem?_map,h];rfl
def d9:List Bd->Int->Option Tm
 | [],_=>none
 | b::l,v=>if b.v=v then some b.t else d9 l v
theorem B6 {l:List Bd} {v:Int} (h:∀ b∈l,b.v≠v):d9 l v=none:=by
 induction l with
 | nil=>rfl
 | cons b l ih =>
  rw [d9,if_neg (h b (by simp)),ih (fun x hx=>h x (mem_cons_of_mem _ hx))]
theorem b6y {l:List Bd} {v:Int} {k:Nat} {b:Bd} (hb:l[k]?=some b) (hv:b.v=v) (h:∀ i c,i<k->l[i]?=some c->c.v≠v):d9 l v=some b.t:=by
 induction l generalizing k with
 | nil=>simp at hb
 | cons x l ih =>
  cases k with
  | zero=>simp at hb;subst hb;rw [d9,if_pos hv]
  | succ k =>
   rw [d9,if_neg (h 0 x (by omega) rfl)];exact ih (k:=k) (by simpa using hb) (fun i c hi hc=>h (i+1) c (by omega) (by simpa using hc))
def q7 (v:Int):Tm:=⟨-1-v,[]⟩
def i7 (l:List Bd) (v:Int):Tm:=(d9 l v).getD (q7 v)
def a8 (img:Int->Tm):Tm->Tm
 | ⟨f,l⟩=>if f<0 then (img (-1-f)).strip else ⟨f,l.map (a8 img)⟩
theorem l4 {img:Int->Tm} {t:Tm} (h:t.f<0):a8 img t=(img (-1-t.f)).strip:=by cases t;rw [a8,if_pos h]
theorem d8 {img:Int->Tm} {t:Tm} (h:¬ t.f<0):a8 img t=⟨t.f,t.l.map (a8 img)⟩:=by cases t;rw [a8,if_neg h]
def Tm.sm:Tm->Prop
 | ⟨f,l⟩=>(-1000<=f/\f<=1000)/\∀ t∈l,Tm.sm t
theorem Tm.sm_iff (t:Tm):t.sm↔(-1000<=t.f/\t.f<=1000)/\∀ s∈t.l,s.sm:=by cases t;rw [Tm.sm]
theorem b5O (t:Tm):∀ most deep,0<=q5 t most deep->t.sm:=by
 induction t using Tm.ind with
 | h f l ih =>
  intro most deep h;rw [a1V] at h;split at h
  ·omega
  ·rename_i hc;refine (Tm.sm_iff _).2 ⟨⟨by show -1000<=f;omega,by show f<=1000;omega⟩,?_⟩;have:∀ (l:List Tm) (m d:Int),(∀ t∈l,∀ most deep,0<=q5 t most deep->t.sm)->0<=I9 l m d->∀ t∈l,t.sm:=by
    intro l
    induction l with
    | nil=>intro m d _ _ t ht;cases ht
    | cons y ys ih2 =>
     intro m d hl h t ht;rw [O3] at h;split at h
     ·omega
     ·have hy:0<=q5 y m d:=by
       rcases Int.lt_or_le (q5 y m d) 0 with h1 | h1
       ·rw [a3O ys d h1] at h;omega
       ·exact h1
      rcases mem_cons.1 ht with rfl | ht
      ·exact hl t (by simp) m d hy
      ·exact ih2 (q5 y m d) d (fun s hs=>hl s (mem_cons_of_mem _ hs)) h t ht
   exact this l _ _ ih h
theorem Tm.sm_rng {t:Tm} (h:t.sm):t.rng:=by
 induction t using Tm.ind with
 | h f l ih =>
  obtain ⟨h1,h2⟩:=(Tm.sm_iff _).1 h;exact (Tm.rng_iff _).2 ⟨by simp only at h1 |-;omega,fun s hs=>ih s hs (h2 s hs)⟩
theorem Tm.wt_ok {t:Tm} (h:t.wt<=1000000):t.ok:=by
 induction t using Tm.ind with
 | h f l ih =>
  rw [Tm.wt_eq] at h;simp only at h;have:=Tm.wts_len l;exact (Tm.ok_iff _).2 ⟨by simp only;omega,fun s hs=>ih s hs (by have:s.wt<=Tm.wts l:=Tm.wts_mem hs;omega)⟩
theorem Tm.sm_flat {t:Tm} (h:t.sm):∀ s∈t.flat,-1000<=s.f/\s.f<=1000:=by
 induction t using Tm.indp with
 | h t ih =>
  intro s hs;rw [Tm.flat_eq] at hs;rcases mem_cons.1 hs with rfl | hs
  ·exact ((Tm.sm_iff _).1 h).1
  ·obtain ⟨u,hu,hs⟩:=List.mem_flatMap.1 hs;exact ih u hu (((Tm.sm_iff _).1 h).2 u (Tm.ps_mem hu).1) s hs
theorem Tm.strip_rng {t:Tm} (h:t.rng):t.strip.rng:=by
 induction t using Tm.indp with
 | h t ih =>
  obtain ⟨h1,h2⟩:=(Tm.rng_iff _).1 h;refine (Tm.rng_iff _).2 ⟨by rw [Tm.strip_f];exact h1,fun s hs=>?_⟩;rw [Tm.strip_l] at hs;obtain ⟨u,hu,rfl⟩:=mem_map.1 hs;exact ih u hu (h2 u (Tm.ps_mem hu).1)
theorem Tm.strip_ok {t:Tm} (h:t.ok):t.strip.ok:=by
 induction t using Tm.indp with
 | h t ih =>
  obtain ⟨h1,h2⟩:=(Tm.ok_iff _).1 h;refine (Tm.ok_iff _).2 ⟨?_,fun s hs=>?_⟩
  ·rw [Tm.strip_l,length_map];unfold Tm.ps;split
   ·simp
   ·exact h1
  ·rw [Tm.strip_l] at hs;obtain ⟨u,hu,rfl⟩:=mem_map.1 hs;exact ih u hu (h2 u (Tm.ps_mem hu).1)
theorem b0q {f:Int} (h1 : -9223372036854775808<=f) (h2:f<=9223372036854775807):(Tm.mk f []).rng:=(Tm.rng_iff _).2 ⟨⟨h1,h2⟩,fun s hs=>by cases hs⟩
theorem b1t (W:World) (t:Tm):AFun Tryz.prog W 103 [t.cw] (.val (.b (decide (t.f<0)))):=by
 refine c9 (rs:=[.b (decide (t.f<0))]) Tryz.func103 Tryz.ntmps103 rfl rfl rfl rfl ?_;intro w U hW;refine aS (aR ?_);refine nc zd (nc ze ?_);refine aS (aR ?_);refine nc zg (nc zh (nc zi (nc ze ?_)));exact aT ⟨.inr rfl,rfl⟩
theorem b4y (W:World) (t:Tm):AFun Tryz.prog W 134 [t.cw] (.val (.lst (t.ps.map Tm.cv))):=by
 refine c9 (rs:=[.lst (t.ps.map Tm.cv)]) Tryz.func134 Tryz.ntmps134 rfl rfl rfl rfl ?_;intro w U hW;refine aS (aR ?_);refine nc zd (nc ze ?_);refine aS (aS (aR ?_));refine nc zj (nc (zk (z:=b1t w t)) ?_);refine aC rfl (fun hc=>?_) (fun hc=>aK ?_)
 ·have hf:t.f<0:=by simpa using hc
  rw [Tm.ps_of_var hf];refine aS (aR ?_);refine nc ze ?_;exact aT (And.intro (.inr rfl) rfl)
 ·have hf:¬ t.f<0:=by simpa using hc
  rw [Tm.ps_of_sym (by omega)];refine aS (aR ?_);refine nc zg (nc zh (nc ze ?_));exact aT (And.intro (.inr rfl) rfl)
def Tm.pa (t:Tm) (n:Int):Option Tm:=if 0<=n then t.ps[n.toNat]? else none
theorem Tm.pa_some (t:Tm) (n:Int):(t.pa n).isSome=(decide (n>=0)&&decide (n<(t.ps.map Tm.cv).length)):=by
 unfold Tm.pa;rw [length_map];by_cases h:0<=n
 ·rw [if_pos h,show decide (n>=0)=true by simpa using h,Bool.true_and];by_cases h2:n<t.ps.length
  ·rw [getElem?_eq_getElem (by omega)];simp [h2]
  ·rw [getElem?_eq_none (by omega)];simp [h2]
 ·rw [if_neg h,show decide (n>=0)=false by simpa using h];rfl
theorem a2x (W:World) (t:Tm) (n:Int):AFun Tryz.prog W 129 [t.cw,.i n] (.val (.b (t.pa n).isSome)):=by
 rw [Tm.pa_some];refine c9 (rs:=[.b (decide (n>=0)&&decide (n<(t.ps.map Tm.cv).length))]) Tryz.func129 Tryz.ntmps129 rfl rfl rfl rfl ?_;intro w U hW;refine aS (aR ?_);refine nc zd (nc ze ?_);by_cases h:n>=0
 ·have hg:decide (n>=0)=true:=by simpa using h
  refine aS (aR ?_);refine nc zl (nc zn (nc zl (nc (zl (p:=gb)) (nc (zj (p:=gb)) (nc (zk (p:=gb) (z:=b4y w t)) (nc (zo (r:=gb)) (nc (zi (r:=gb)) (nc zp (nc ze ?_)))))))));refine aT (And.intro (.inr rfl) ?_);rw [hg,Bool.true_and];rfl
 ·have hg:decide (n>=0)=false:=by simpa using h
  refine aS (aR ?_);refine nc zl (nc zn (nc zl (nc zq (nc zq (nc zq (nc zq (nc zq (nc zr (nc ze ?_)))))))));refine aT (And.intro (.inr rfl) ?_);rw [hg,Bool.false_and];rfl
set_option maxHeartbeats 1000000 in
theorem K2 (W:World) (l:List Tm) (hl:l.length<=1000000) (hr:∀ t∈l,t.rng/\t.size<=90000000000):AFun Tryz.prog W 131 [.lst (l.map Tm.cv)] (.val (.lst ((l.map Tm.strip).map Tm.cv))):=by
 have kC:=Tm.size_all l;refine c9 (rs:=[.lst ((l.map Tm.strip).map Tm.cv)]) Tryz.func131 Tryz.ntmps131 rfl rfl rfl rfl ?_;intro w U hW;refine aS (aR ?_);refine nc ze ?_;refine aS (aR ?_);refine nc ze ?_;refine aS (aS (aR ?_));refine nc zl (nc zo (nc zl ?_));refine aB (n5 l.length (fun k=>[(3,.own (.lst (((l.take k).map Tm.strip).map Tm.cv)) 200016),(200016,.tok 41 2),(6,.val (.lst (l.map Tm.cv))),(7,.val (.i (l.map Tm.cv).length)),(8,.val (.i k))])
  ((R7 3 200016 41 2 rfl rfl rfl rfl rfl rfl rfl).trans (a7 ⟨rfl,rfl,rfl,rfl,rfl,trivial⟩)) ?_)
 intro k hk;have xU:=Tm.size_all ((l.take k).map Tm.strip);refine aS (aR ?_);refine nc zi ?_;refine aS (aC rfl (fun hc=>aK ?_) (fun hc=>aE ?_))
 ·have kF:k<l.length:=by simp only [length_map,decide_eq_true_eq] at hc;omega
  clear hc;obtain ⟨t,ht⟩:∃ t,l[k]?=some t:=⟨l[k],getElem?_eq_getElem kF⟩
  have qR:=Tm.map_at ht;have lV:=hr t (mem_of_getElem? ht);refine aS (aB (aS (aR ?_)));refine nc (zt (H:=by assumption) (hz:=by first | assumption | exact sZ rfl | exact Tm.size_all _ | exact Bd.size_all _ | exact p8 _ | exact bys_size _ | exact Lt.size_all _)) (nc zu (nc zw (nc zx ?_)));refine aR ?_;refine nc zl (nc zj (nc (zk (z:=L5 w lV.1 lV.2)) (nc zy (nc zz (nc ze ?_)))));refine aR ?_;refine nc zA (nc zl ?_);refine ⟨kF,Wk.trans (a7 (s':=[(3,.own (.lst (((l.take (k+1)).map Tm.strip).map Tm.cv)) 300016),(300016,.tok 41 2),(6,.val (.lst (l.map Tm.cv))),(7,.val (.i (l.map Tm.cv).length)),(8,.val (.i ((k+1:Nat):Int)))]) ⟨?_,rfl,rfl,rfl,rfl,trivial⟩) (B2 300016 200016 rfl rfl rfl rfl)⟩;rw [take_add_one,ht,map_append,map_append];simp only [Option.toList_some,map_cons,List.map_nil,Tm.cv_eq];rfl
 ·have kF:k=l.length:=by simp only [length_map,decide_eq_false_iff_not] at hc;omega
  subst kF;rw [List.take_length];refine aS (aR ?_);refine nc zl (nc ze ?_);exact aT (And.intro (.inr rfl) rfl)
def atP:List Int->Tm->Option Tm
 | [],t=>some t
 | k::ks,t=>(t.pa k).bind (atP ks)
theorem b0I (p q:List Int) (t:Tm):atP (p++q) t=(atP p t).bind (atP q):=by
 induction p generalizing t with
 | nil=>rfl
 | cons k ks ih =>
  rw [cons_append,atP,atP];cases t.pa k with
  | none=>rfl
  | some s=>exact ih s
theorem a5w {t s:Tm} {n:Int} (h:t.pa n=some s):s∈t.ps:=by
 unfold Tm.pa at h;split at h
 ·exact mem_of_getElem? h
 ·cases h
theorem a8p {t s:Tm} {n:Int} (h:t.pa n=some s):¬ t.f<0:=by
 intro hf;have:=a5w h;rw [Tm.ps_of_var hf] at this;cases this
theorem b9P {t s:Tm} {n:Int} (h:t.pa n=some s):s.size<=t.size:=by
 have hm:=a5w h;have h1:=Tm.size_eq t;have:=t8 Tm.flat hm;have h2:s.size=s.flat.length:=rfl;omega
theorem a2U:∀ {p:List Int} {t s:Tm},atP p t=some s->t.rng->s.rng/\s.size<=t.size
 | [],t,s,h,hr=>by cases h;exact ⟨hr,Nat.le_refl _⟩
 | k::ks,t,s,h,hr=>by
  rw [atP] at h;cases hp:t.pa k with
  | none=>rw [hp] at h;cases h
  | some u =>
   rw [hp] at h;have hu:=((Tm.rng_iff _).1 hr).2 u (Tm.ps_mem (a5w hp)).1;have h2:=a2U (p:=ks) h hu;exact ⟨h2.1,Nat.le_trans h2.2 (b9P hp)⟩
theorem a0Y {U:Nat->Nat->Prop} {w:World} {a:Option Addr} {xs:List Value} (h:At U w a xs):Cs w a xs:=by
 rcases h with h | ⟨b,off,ha,hc⟩
 ·exact .inl h
 ·by_cases hz:xs=[]
  ·exact .inl hz
  ·refine .inr ⟨b,off,ha,?_,fun i hi=>(hc i hi).2⟩;have gM:0<xs.length:=List.length_pos_iff.2 hz;have:=(hc 0 gM).2;rw [getElem?_eq_getElem gM] at this;exact World.block_lt_of_cell? w _ this
theorem a3C {w:World} {base:Nat} {e:TypeId} {size:Nat} {v:Value} {n:Nat} {xs:List Value} (h:w.ownsRow base e size v n xs) :
  ∃ a c,v = .slice a n c/\n<=c/\c<=maxLen/\(a=none->n=0/\c=0)/\At (fun b _=>base<=b) w a xs:=by
 have ho:=h;obtain ⟨h1,h2⟩:=h;rcases h2 with ⟨rfl,rfl⟩ | ⟨g,cap,cur,rfl,hb,hh,hn,hm,hs,ht⟩
 ·exact ⟨none,0,rfl,by omega,by simp,fun _=>⟨rfl,rfl⟩,.inl (List.eq_nil_of_length_eq_zero (by omega))⟩
 ·refine ⟨_,cap,rfl,hn,hm,(fun h=>by cases h),.inr ⟨g,0,rfl,fun i hi=>⟨hb,?_⟩⟩⟩;rw [show 0+i=i by omega];exact ho.cellAt i (by omega)
theorem b2v {U:Nat->Nat->Prop} {w:World}:∀ {l:List (List Tm)} {ys:List Value},Sq ((l.map fun x=>CV.lst (x.map Tm.cv)).map fun c=>Rep U w c) ys ->
  ∃ (A:Nat->Option Addr) (L C:Nat->Nat) (R:Nat->List Value),∀ r x,l[r]?=some x->ys[r]?=some (.slice (A r) (L r) (C r))/\L r=x.length/\(A r=none->L r=0/\C r=0)/\At U w (A r) (R r)/\Sq ((x.map Tm.cv).map fun c=>Rep U w c) (R r)
 | [],ys,h=>⟨fun _=>none,fun _=>0,fun _=>0,fun _=>[],fun r x hx=>by simp at hx⟩
 | x::l,ys,h=>by
  obtain ⟨y1,y2,rfl,h1,h2⟩:=h;obtain ⟨a,n,c,rfl,g1,g2,g3,g4,zs,g5,g6⟩:=N1.1 h1;obtain ⟨A,L,C,R,hR⟩:=b2v (l:=l) h2;refine ⟨fun r=>match r with | 0=>a | r+1=>A r,fun r=>match r with | 0=>n | r+1=>L r,fun r=>match r with | 0=>c | r+1=>C r,fun r=>match r with | 0=>zs | r+1=>R r,fun r y hy=>?_⟩;cases r with
  | zero =>
   simp at hy;subst hy;exact ⟨rfl,by rw [g1,length_map],g4,g5,g6⟩
  | succ r =>
   simp at hy;exact hR r y hy
theorem b4j {U:Nat->Nat->Prop} {w:World} {l:List (List Tm)} {L:Nat->Nat} {R:Nat->List Value} (h:∀ r x,l[r]?=some x->L r=x.length/\Sq ((x.map Tm.cv).map fun c=>Rep U w c) (R r)) :
  ∀ k,k<=l.length->Sq (((l.take k).flatten.map Tm.cv).map fun c=>Rep U w c) (a2K R k)/\a3D L k=(l.take k).flatten.length:=by
 intro k
 induction k with
 | zero=>intro _;exact ⟨rfl,rfl⟩
 | succ k ih =>
  intro hk;obtain ⟨h1,h2⟩:=ih (by omega);obtain ⟨x,hx⟩:∃ x,l[k]?=some x:=⟨l[k],getElem?_eq_getElem (by omega)⟩
  obtain ⟨h3,h4⟩:=h k x hx;rw [take_add_one,hx,List.flatten_append,a2K,a3D,map_append,map_append,length_append,h2,h3];simp only [Option.toList_some,List.flatten_cons,List.flatten_nil,List.append_nil];exact ⟨x8 h1 h4,trivial⟩
theorem a3L (W:World) (l:List (List Tm)) (hl:l.length<=1000) (hs:l.flatten.length<=1099511627776):AFun Tryz.prog W 130 [.lst (l.map fun x=>CV.lst (x.map Tm.cv))] (.val (.lst (l.flatten.map Tm.cv))):=by
 refine ⟨x9 Tryz.func130 rfl rfl,.inl rfl,rfl,?_⟩;rintro U w vs hW ⟨u1,us1,rfl,h1,h3⟩;have h3:us1=[]:=h3;subst h3;obtain ⟨a,n,c,rfl,g1,g2,g3,g4,ys,g5,g6⟩:=l5.1 h1;rw [length_map] at g1;subst g1;obtain ⟨A,L,C,R,hR⟩:=b2v g6;obtain ⟨hj,hn⟩:=b4j (fun r x hx=>⟨(hR r x hx).2.1,(hR r x hx).2.2.2.2⟩) l.length (Nat.le_refl _);rw [List.take_length] at hj hn;have hrw:Rw 2 w a l.length A L C R:=by
  refine ⟨fun r hr=>?_,?_⟩
  ·obtain ⟨k1,k2,k3,k4,k5⟩:=hR r _ (getElem?_eq_getElem hr);refine ⟨k3,a0Y k4,?_,F5 k5⟩;rw [A5 (n:=fun _=>2) (fun c hc xs hx=>by obtain ⟨t,_,rfl⟩:=mem_map.1 hc;rw [hx.len];exact Tm.size_cv t) k5,k2]
   rw [List.map_const',List.sum_replicate_nat];simp
  ·by_cases hz:l.length=0
   ·exact .inl hz
   ·refine .inr ?_;have hc:=a0Y g5;have nL:=(hR 0 _ (getElem?_eq_getElem (by omega:0<l.length))).1;rcases hc with hc | ⟨b,off,ha,hb,hc⟩
    ·rw [hc] at nL;simp at nL
    ·refine ⟨b,off,ha,hb,fun r hr=>?_⟩;have hy:=(hR r _ (getElem?_eq_getElem hr)).1;have kA:r<ys.length:=by
      rcases Nat.lt_or_ge r ys.length with h | h
      ·exact h
      ·rw [getElem?_eq_none h] at hy;cases hy
     rw [hc r kA,hy]
 refine (a9d a l.length c A L C R w hrw hl (by rw [hn];exact hs)).mono ?_;rintro e w' ⟨v,rfl,ho,hb⟩;obtain ⟨a',c',rfl,k1,k2,k3,k4⟩:=a3C ho;refine ⟨_,rfl,l5.2 ⟨a',_,c',rfl,by rw [hn,length_map],k1,k2,k3,_,k4.keep fun b o v h1 h2=>⟨.inr h1,h2⟩,hj.keep fun b o v h1 h2=>⟨.inl h1,?_⟩⟩,hb⟩;rw [hb.cell (World.block_lt_of_cell? w _ h2)];exact h2
def C8 (u:Tm):List Int->Tm->Option Tm
 | [],t=>some u.strip
 | k::ks,t=>(t.pa k).bind fun s=>(C8 u ks s).map fun v=>⟨t.f,(t.l.take k.toNat).map Tm.strip++v::(t.l.drop (k.toNat+1)).map Tm.strip⟩
section
variable {P:Program} {w0:World} {U0:UX} {nt:Nat} {ops:Array Oper} {o:Oper} {S:Nat->Option AV} {gs:List Nat} {d:Nat}
theorem c0R {d':Nat} (hg:Go w0 U0 nt ops o gs S) (hd:o.dst=some d') (hn:Nat.blt d' nt=true) (h5:Nat.blt d' 100000=true):AOp P w0 U0 nt ops o gs [] S [(d',.tup [])]:=by
 intro s hs _ a w ⟨D,hv,h⟩ Q K hK;rw [if_neg (by rw [hg s hs a w D hv h];simp),hd];exact hK _ _ ⟨D,hv,h.put (bL hn) (bL h5) (by unfold AVRep;exact ⟨[],rfl,rfl⟩)⟩
theorem zbu {P:Program} {w0:World} {U0:UX} {nt:Nat} {ops:Array Oper} {o:Oper} {S:Nat->Option AV} {gs:List Nat} {d':Nat} (p:Go w0 U0 nt ops o gs S:=by exact gc) (q:o.dst=some d':=by exact rfl) (r:Nat.blt d' nt=true:=by exact rfl) (t:Nat.blt d' 100000=true:=by exact rfl):AOp P w0 U0 nt ops o gs [] S [(d',.tup [])]:=c0R p q r t
theorem X7 {j:Nat} {c:Bool} (hg:o.guard=some (j,c)) (hj:(ops[j]?).bind (·.dst)=some d) (h5:Nat.blt d 100000=true) (hS:S d=some (.tup [])):Go w0 U0 nt ops o [d] S:=fun s hs a w D hv h=>by
 obtain ⟨v,h1,h2⟩:=h.slot d _ ((hs d (by simp)).trans hS) (bL h5);obtain ⟨vs,h3,h4⟩:∃ vs:List Value,v = .tuple vs.toArray/\VReps (Us w0 U0 D) w [] vs:=h2;simp [Region.wanted,hg,yielded,hj,h1,h3]
end
theorem V7 (b off j:Nat):(⟨b,off,none⟩:Addr).add j=⟨b,off+j,none⟩:=by unfold Addr.add;split<;>simp_all
section
variable {P:Program} {w0:World} {U0:UX} {nt:Nat} {ops:Array Oper} {o:Oper} {S:Nat->Option AV} {gs:List Nat} {d:Nat} {s:AS} {a:Act} {w:World} {D:Nat->Nat->Prop} {hv:Nat->Value}
theorem C2 {e:TypeId} {z:Nat} (hi:(P.info? e).map (·.size)=some z):(sizeOf e).run P w = .ok z w:=by
 cases gH:P.info? e with
 | none=>rw [gH] at hi;simp at hi
 | some i=>rw [gH] at hi;simp at hi;simp [sizeOf,typeInfo,gH,hi]
theorem SimG.mrow (h:SimG w0 U0 nt s a w D hv) {n e z:Nat} {l:List CV} (h1:look s n=some (.mrow e z l)) (hn:RN n):∃ xs,w.ownsRow 0 e z (hv n) l.length xs/\0<z/\(∀ c∈l,c.size=z)/\Sq (l.map fun c=>Rep (Us w0 U0 D) w c) xs:=by
 have:OC (Us w0 U0 D) w hv (a9 s) (.mrow e z l) (hv n):=h.obj n _ h1 (by unfold RN at hn;unfold l8;omega);exact this
theorem X9 {e z:Nat} {v:Value} {k:Nat} {xs:List Value} (h:w.ownsRow 0 e z v k xs) (hk:0<k):∃ g cap cur,v = .slice (some ⟨g,0,none⟩) k cap/\w.heap[g]?=some (.cells cur e (0,0))/\k<=cap/\cap<=maxLen/\cur.size=cap*z/\cur.toList.take (k*z)=xs/\p7 v=g/\hb v=some g:=by
 rcases h.2 with ⟨_,rfl⟩ | ⟨g,cap,cur,rfl,_,h3,h4,h5,h6,h7⟩
 ·omega
 ·exact ⟨g,cap,cur,rfl,h3,h4,h5,h6,h7,rfl,rfl⟩
theorem L2 {e z:Nat} {v:Value} {k:Nat} {xs:List Value} (h:w.ownsRow 0 e z v k xs):∃ ao cap,v = .slice ao k cap/\k<=cap/\cap<=maxLen:=by
 rcases h.2 with ⟨rfl,rfl⟩ | ⟨g,cap,cur,rfl,_,h3,h4,h5,h6,h7⟩
 ·exact ⟨none,0,rfl,Nat.le_refl _,by unfold maxLen;omega⟩
 ·exact ⟨_,cap,rfl,h4,h5⟩
section
variable (hg:Gd w0 U0 nt ops o gs S) (hd:o.dst=some d) (hn:Nat.blt d nt=true) (h5:Nat.blt d 100000=true)
include hg hd hn h5
theorem c0F {x:Operand} {t e:TypeId} {ts:Array TypeId} {n lo len z:Nat} (ho:o.op = .call { callee := .builtin .len,args := #[x],argTypes:=ts }) (ht:ts[0]?=some t) (hu:P.underlying t=some (.slice e)) (hx:ev S x=some (.sl n lo len z)):AOp P w0 U0 nt ops o (gs++rd x) [] S [(d,.val (.i len))]:=
 j9 hg hd hn h5 (fun k hk=>mem_append_left _ hk) fun s hs a w D hv hm=>by obtain ⟨_,ao,m,cap,ao',h1,h2,_⟩:RN n/\SlV (hv n) lo len z (a.eval x):=l9 hm (fun k hk=>hs k (mem_append_right _ hk)) hx;refine ⟨.int .i64 len,?_,p6 rfl⟩;generalize a.eval=ρ at h2 |-;simp [execOp,ho,resolve,invoke,builtin,Builtin.len_,ht,h2,goInt,run_underlying hu,go_sem]
theorem aIm {x y:Operand} {ty e e':TypeId} {l:List CV} {i:Int} {k n lo len z:Nat} {kd:IntKind} {n' q' p'} (ho:o.op = .indexAddr ty x y) (hu:P.underlying ty=some (.slice e)) (hi:(P.info? e).map (·.size)=some z) (hx:ev S x=some (.sl n lo len z)) (hy:ev S y=some ⟨0,.sc (.int kd i),n',q',p'⟩) (bQ:S n=some (.mrow e' z l)) (hk:i+(lo:Int)=(k:Int)/\lo<=k/\k<lo+len/\lo+len<=l.length):AOp P w0 U0 nt ops o (gs++(rd x++(rd y++[n]))) [] S [(d,.el n (k*z) [k])]:=
 j9 hg hd hn h5 (fun k hk=>mem_append_left _ hk) fun s hs a w D hv hm=>by
  obtain ⟨jY,fQ,hj,hl⟩:=hk;obtain ⟨j,rfl⟩:∃ j,k=lo+j:=⟨k-lo,by omega⟩
  obtain ⟨kN,ao,m,cap,ao',h1,h2,h3,h4,h6,_⟩:RN n/\SlV (hv n) lo len z (a.eval x):=l9 hm (fun k hk=>hs k (mem_append_right _ (mem_append_left _ hk))) hx;have e2:=v7 hm (fun k hk=>hs k (mem_append_right _ (mem_append_right _ (mem_append_left _ hk)))) hy;obtain ⟨xs,g1,_⟩:=hm.mrow ((hs n (by simp)).trans bQ) kN;obtain ⟨g,cap',cur,f1,f2,f3,f4,f6,f7,f8,f9⟩:=X9 g1 (by omega);rw [f1] at h1;injection h1 with h1 h7 h8;subst h1;subst h7;subst h8;have ha:ao'=some ⟨g,lo*z,none⟩:=h6 (by omega) g rfl;subst ha;have jY:i=(j:Int):=by omega
  have hj:j<len:=by omega
  subst jY;have kC:=C2 (P:=P) (w:=w) hi;refine ⟨.pointer (some ⟨g,(lo+j)*z,none⟩),?_,?_⟩
  ·have bM:(⟨g,lo*z,none⟩:Addr).add (j*z)=⟨g,(lo+j)*z,none⟩:=by rw [V7,Nat.add_mul]
   generalize a.eval=ρ at h2 e2 |-;simp [execOp,ho,Instr.indexAt,asIntOf,h2,e2,run_underlying hu,hj,kC,bM]
  ·exact ⟨kN,by show _=Value.pointer (some ⟨p7 (hv n),_,none⟩);rw [f8]⟩
theorem b6h {x:Operand} {ty:TypeId} {fs:Array Field} {i:Nat} {f:Field} {n q p z} (ho:o.op = .fieldAddr ty x i) (hu:P.underlying ty=some (.struct fs)) (hf:fs[i]?=some f) (hz:(P.info? f.type).map (·.size)=some z) (hz0:Nat.beq z 0=false) (hx:ev S x=some (.el n q p)):AOp P w0 U0 nt ops o (gs++rd x) [] S [(d,.el n (q+f.offset) (p++[i]))]:=
 j9 hg hd hn h5 (fun k hk=>mem_append_left _ hk) fun s hs a w D hv hm=>by
  obtain ⟨kN,h1⟩:RN n/\a.eval x = .pointer (some ⟨p7 (hv n),q,none⟩):=l9 hm (fun k hk=>hs k (mem_append_right _ hk)) hx;have kC:=C2 (P:=P) (w:=w) hz;have iU:z≠0:=fun e=>by rw [e] at hz0;cases hz0
  refine ⟨.pointer (some ⟨p7 (hv n),q+f.offset,none⟩),?_,kN,rfl⟩;have bM:=V7 (p7 (hv n)) q f.offset;generalize a.eval=ρ at h1 |-;simp [execOp,ho,Instr.fieldAt,run_underlying hu,hf,Instr.sureAddr,h1,fieldPlace,kC,iU,bM]
omit hg hd hn h5 in
theorem b9F {U:Nat->Nat->Prop} {e z k j m q:Nat} {v:Value} {l:List CV} {c c':CV} {p:List Nat} {xs:List Value} (h:w.ownsRow 0 e z v l.length xs) (rS:Sq (l.map fun c=>Rep U w c) xs) (hz:∀ c∈l,c.size=z) (hc:l[j]?=some c) (bI:c.at p=some (m,c')) (hq:q=j*z+m) :
  ∃ g cap cur ys zs us,v = .slice (some ⟨g,0,none⟩) l.length cap/\p7 v=g/\hb v=some g/\w.heap[g]?=some (.cells cur e (0,0))/\l.length<=cap/\cap<=maxLen/\cur.size=cap*z/\cur.toList.take (l.length*z)=xs/\cur.toList=ys++zs++us/\ys.length=q/\Rep U w c' zs:=by
 have gJ:j<l.length:=by
  rcases Nat.lt_or_ge j l.length with h | h
  ·exact h
  ·rw [getElem?_eq_none h] at hc;cases hc
 obtain ⟨g,cap,cur,f1,f2,f3,f4,f6,f7,f8,f9⟩:=X9 h (by omega);obtain ⟨y1,z1,u1,e1,e2,e3⟩:=c0p hz rS hc;obtain ⟨y2,z2,u2,e4,e5,e6⟩:=a7l bI e3;refine ⟨g,cap,cur,y1++y2,z2,u2++(u1++cur.toList.drop (l.length*z)),f1,f8,f9,f2,f3,f4,f6,f7,?_,by rw [length_append,e2,e5,hq],e6⟩
 conv=>lhs;rw [<-take_append_drop (l.length*z) cur.toList,f7,e1,e4]
 simp
theorem b8R {x:Operand} {ty:TypeId} {ds:TypeDesc} {e z z' j m n q:Nat} {l:List CV} {c c':CV} {p:List Nat} (ho:o.op = .load ty x) (hu:P.underlying ty=some ds) (hi:(P.info? ty).map (·.size)=some z') (hx:ev S x=some (.el n q (j::p))) (bQ:S n=some (.mrow e z l)) (hc:l[j]?=some c) (bI:c.at p=some (m,c')) (hq:q=j*z+m) (hk:U5 ds=Nat.beq c'.k 2) (hz:c'.size=z'):AOp P w0 U0 nt ops o (gs++(rd x++[n])) [] S [(d,.val c')]:=
 j9 hg hd hn h5 (fun k hk=>mem_append_left _ hk) fun s hs a w D hv hm=>by obtain ⟨kN,h1⟩:RN n/\a.eval x = .pointer (some ⟨p7 (hv n),q,none⟩):=l9 hm (fun k hk=>hs k (mem_append_right _ (mem_append_left _ hk))) hx;obtain ⟨xs,g1,g2,g3,g4⟩:=hm.mrow ((hs n (by simp)).trans bQ) kN;obtain ⟨g,cap,cur,ys,zs,us,f1,f2,f3,f4,f6,f7,f8,f9,f10,f11,f12⟩:=b9F (k:=0) g1 g4 g3 hc bI hq;rw [f2] at h1;obtain ⟨v,h6,h7,h8⟩:=C5 hu hi hk hz f12 (b:=g) (off:=q) (fun i hi=>by rw [<-f11];exact G7 (xs:=cur.toList) (by rw [Array.toArray_toList];exact f4) f10 i hi);refine ⟨v,?_,n4 h7⟩;generalize a.eval=ρ at h1 |-;simp [execOp,ho,Instr.loadAt,Instr.sureAddr,h1,h6]
theorem b8y {x y:Operand} {t e:TypeId} {z:Nat} {k:IntKind} {i:Int} {j n lo len:Nat} {n' q' p'} (ho:o.op = .slice t x (some y) none none) (hu:P.underlying t=some (.slice e)) (hi:(P.info? e).map (·.size)=some z) (hx:ev S x=some (.sl n lo len z)) (hy:ev S y=some ⟨0,.sc (.int k i),n',q',p'⟩) (jY:i=(j:Int)) (hj:j<=len):AOp P w0 U0 nt ops o (gs++(rd x++rd y)) [] S [(d,.sl n (lo+j) (len-j) z)]:=
 j9 hg hd hn h5 (fun k hk=>mem_append_left _ hk) fun s hs a w D hv hm=>by
  obtain ⟨kN,ao,m,cap,ao',h1,h2,h3,h4,h6,h7⟩:RN n/\SlV (hv n) lo len z (a.eval x):=l9 hm (fun k hk=>hs k (mem_append_right _ (mem_append_left _ hk))) hx;have e2:=v7 hm (fun k hk=>hs k (mem_append_right _ (mem_append_right _ hk))) hy;have kC:=C2 (P:=P) (w:=w) hi;refine ⟨.slice (if cap-lo=j then ao' else ao'.map (·.add (j*z))) (len-j) (cap-lo-j),?_,kN,ao,m,cap,_,h1,by rw [Nat.sub_sub];rfl,by show lo+j+(len-j)<=cap;omega,fun h8=>?_,fun h8=>?_,?_⟩
  ·have hb:=D5 (P:=P) (w:=w) (k:=k) (j:=j) (y:=len) (code := .sliceB) hj;subst jY;generalize a.eval=ρ at h2 e2 |-;simp [execOp,ho,Instr.sliceAt,Instr.slice,run_underlying hu,h2,e2,Instr.sliceBounds,hb,kC]
  ·have h8:lo+j=0:=h8;have aI:j=0:=by omega
   subst aI;rw [h4 (by omega)];split
   ·rfl
   ·cases ao with
    | none=>rfl
    | some ad=>simp [Addr.add]
  ·have h8:lo+j<cap:=h8;intro g dC;rw [if_neg (by omega),h6 (by omega) g dC];show some ((⟨g,lo*z,none⟩:Addr).add (j*z))=some ⟨g,(lo+j)*z,none⟩;rw [V7,Nat.add_mul]
  ·split
   ·exact h7
   ·rw [Option.map_eq_none_iff];exact h7
theorem b8C {x y:Operand} {t e:TypeId} {z:Nat} {k:IntKind} {i:Int} {j n lo len:Nat} {n' q' p'} (ho:o.op = .slice t x none (some y) none) (hu:P.underlying t=some (.slice e)) (hi:(P.info? e).map (·.size)=some z) (hx:ev S x=some (.sl n lo len z)) (hy:ev S y=some ⟨0,.sc (.int k i),n',q',p'⟩) (jY:i=(j:Int)) (hj:j<=len):AOp P w0 U0 nt ops o (gs++(rd x++rd y)) [] S [(d,.sl n lo j z)]:=
 j9 hg hd hn h5 (fun k hk=>mem_append_left _ hk) fun s hs a w D hv hm=>by
  obtain ⟨kN,ao,m,cap,ao',h1,h2,h3,h4,h6,h7⟩:RN n/\SlV (hv n) lo len z (a.eval x):=l9 hm (fun k hk=>hs k (mem_append_right _ (mem_append_left _ hk))) hx;have e2:=v7 hm (fun k hk=>hs k (mem_append_right _ (mem_append_right _ hk))) hy;have kC:=C2 (P:=P) (w:=w) hi;have hid:(if cap-lo=0 then ao' else ao'.map (·.add (0*z)))=ao':=by
   split
   ·rfl
   ·cases ao' with
    | none=>rfl
    | some ad=>simp [Addr.add]
  refine ⟨.slice ao' j (cap-lo),?_,kN,ao,m,cap,ao',h1,rfl,by show lo+j<=cap;omega,h4,h6,h7⟩;have hb:=D5 (P:=P) (w:=w) (k:=k) (j:=j) (y:=cap-lo) (code := .sliceAcap) (by omega);subst jY;generalize a.eval=ρ at h2 e2 |-;simp [execOp,ho,Instr.sliceAt,Instr.slice,run_underlying hu,h2,e2,Instr.sliceBounds,hb,kC,hid]<;>simpa using hid
end
theorem zO {P:Program} {w0:World} {U0:UX} {nt:Nat} {ops:Array Oper} {o:Oper} {S:Nat->Option AV} {gs:List Nat} {d:Nat} {x:Operand} {y:Operand} {ty:TypeId} {e:TypeId} {e':TypeId} {l:List CV} {i:Int} {k:Nat} {n:Nat} {lo:Nat} {len:Nat} {z:Nat} {kd:IntKind} {n'} {q'} {p'} (p:Gd w0 U0 nt ops o gs S:=by exact gN rfl) (q:o.dst=some d:=by exact rfl) (r:Nat.blt d nt=true:=by exact rfl) (t:Nat.blt d 100000=true:=by exact rfl) (u:o.op = .indexAddr ty x y:=by exact rfl) (v:P.underlying ty=some (.slice e):=by exact rfl) (A:(P.info? e).map (·.size)=some z:=by exact rfl) (B:ev S x=some (.sl n lo len z):=by exact rfl) (C:ev S y=some ⟨0,.sc (.int kd i),n',q',p'⟩:=by exact rfl) (E:S n=some (.mrow e' z l):=by exact rfl) (F:i+(lo:Int)=(k:Int)/\lo<=k/\k<lo+len/\lo+len<=l.length:=by first | rfl | omega | (simp only [length_set,length_map,length_append,length_cons,length_nil]<;>omega) | (simp<;>omega)):AOp P w0 U0 nt ops o (gs++(rd x++(rd y++[n]))) [] S [(d,.el n (k*z) [k])]:=aIm p q r t u v A B C E F
theorem zP {P:Program} {w0:World} {U0:UX} {nt:Nat} {ops:Array Oper} {o:Oper} {S:Nat->Option AV} {gs:List Nat} {d:Nat} {x:Operand} {ty:TypeId} {ds:TypeDesc} {e:Nat} {z:Nat} {z':Nat} {j:Nat} {m:Nat} {n:Nat} {q:Nat} {l:List CV} {c:CV} {c':CV} {p:List Nat} (r:Gd w0 U0 nt ops o gs S:=by exact gN rfl) (t:o.dst=some d:=by exact rfl) (u:Nat.blt d nt=true:=by exact rfl) (y:Nat.blt d 100000=true:=by exact rfl) (A:o.op = .load ty x:=by exact rfl) (B:P.underlying ty=some ds:=by exact rfl) (C:(P.info? ty).map (·.size)=some z':=by exact rfl) (E:ev S x=some (.el n q (j::p)):=by exact rfl) (F:S n=some (.mrow e z l):=by exact rfl) (G:l[j]?=some c) (H:c.at p=some (m,c'):=by exact rfl) (hq:q=j*z+m:=by first | rfl | omega | (simp only [length_set,length_map,length_append,length_cons,length_nil]<;>omega) | (simp<;>omega)) (hk:U5 ds=Nat.beq c'.k 2:=by exact rfl) (hz:c'.size=z':=by exact rfl):AOp P w0 U0 nt ops o (gs++(rd x++[n])) [] S [(d,.val c')]:=b8R r t u y A B C E F G H hq hk hz
theorem zX {P:Program} {w0:World} {U0:UX} {nt:Nat} {ops:Array Oper} {o:Oper} {S:Nat->Option AV} {gs:List Nat} {d:Nat} {x:Operand} {t:TypeId} {e:TypeId} {ts:Array TypeId} {n:Nat} {lo:Nat} {len:Nat} {z:Nat} (p:Gd w0 U0 nt ops o gs S:=by exact gN rfl) (q:o.dst=some d:=by exact rfl) (r:Nat.blt d nt=true:=by exact rfl) (u:Nat.blt d 100000=true:=by exact rfl) (v:o.op = .call { callee := .builtin .len,args := #[x],argTypes:=ts }:=by exact rfl) (y:ts[0]?=some t:=by exact rfl) (A:P.underlying t=some (.slice e):=by exact rfl) (B:ev S x=some (.sl n lo len z):=by exact rfl):AOp P w0 U0 nt ops o (gs++rd x) [] S [(d,.val (.i len))]:=c0F p q r u v y A B
theorem zY {P:Program} {w0:World} {U0:UX} {nt:Nat} {ops:Array Oper} {o:Oper} {S:Nat->Option AV} {gs:List Nat} {d:Nat} {x:Operand} {y:Operand} {t:TypeId} {e:TypeId} {z:Nat} {k:IntKind} {i:Int} {j:Nat} {n:Nat} {lo:Nat} {len:Nat} {n'} {q'} {p'} (p:Gd w0 U0 nt ops o gs S:=by exact gN rfl) (q:o.dst=some d:=by exact rfl) (r:Nat.blt d nt=true:=by exact rfl) (u:Nat.blt d 100000=true:=by exact rfl) (v:o.op = .slice t x (some y) none none:=by exact rfl) (A:P.underlying t=some (.slice e):=by exact rfl) (B:(P.info? e).map (·.size)=some z:=by exact rfl) (C:ev S x=some (.sl n lo len z):=by exact rfl) (E:ev S y=some ⟨0,.sc (.int k i),n',q',p'⟩:=by exact rfl) (F:i=(j:Int):=by first | rfl | omega | (simp only [length_set,length_map,length_append,length_cons,length_nil]<;>omega) | (simp<;>omega)) (G:j<=len:=by first | rfl | omega | (simp only [length_set,length_map,length_append,length_cons,length_nil]<;>omega) | (simp<;>omega)):AOp P w0 U0 nt ops o (gs++(rd x++rd y)) [] S [(d,.sl n (lo+j) (len-j) z)]:=b8y p q r u v A B C E F G
theorem z4 {P:Program} {w0:World} {U0:UX} {nt:Nat} {ops:Array Oper} {o:Oper} {S:Nat->Option AV} {gs:List Nat} {d:Nat} {x:Operand} {y:Operand} {t:TypeId} {e:TypeId} {z:Nat} {k:IntKind} {i:Int} {j:Nat} {n:Nat} {lo:Nat} {len:Nat} {n'} {q'} {p'} (p:Gd w0 U0 nt ops o gs S:=by exact gN rfl) (q:o.dst=some d:=by exact rfl) (r:Nat.blt d nt=true:=by exact rfl) (u:Nat.blt d 100000=true:=by exact rfl) (v:o.op = .slice t x none (some y) none:=by exact rfl) (A:P.underlying t=some (.slice e):=by exact rfl) (B:(P.info? e).map (·.size)=some z:=by exact rfl) (C:ev S x=some (.sl n lo len z):=by exact rfl) (E:ev S y=some ⟨0,.sc (.int k i),n',q',p'⟩:=by exact rfl) (F:i=(j:Int):=by first | rfl | omega | (simp only [length_set,length_map,length_append,length_cons,length_nil]<;>omega) | (simp<;>omega)) (G:j<=len:=by first | rfl | omega | (simp only [length_set,length_map,length_append,length_cons,length_nil]<;>omega) | (simp<;>omega)):AOp P w0 U0 nt ops o (gs++(rd x++rd y)) [] S [(d,.sl n lo j z)]:=b8C p q r u v A B C E F G
theorem z5 {P:Program} {w0:World} {U0:UX} {nt:Nat} {ops:Array Oper} {o:Oper} {S:Nat->Option AV} {gs:List Nat} {d:Nat} {x:Operand} {ty:TypeId} {fs:Array Field} {i:Nat} {f:Field} {n} {q} {p} {z} (r:Gd w0 U0 nt ops o gs S:=by exact gN rfl) (t:o.dst=some d:=by exact rfl) (u:Nat.blt d nt=true:=by exact rfl) (v:Nat.blt d 100000=true:=by exact rfl) (y:o.op = .fieldAddr ty x i:=by exact rfl) (A:P.underlying ty=some (.struct fs):=by exact rfl) (B:fs[i]?=some f:=by exact rfl) (C:(P.info? f.type).map (·.size)=some z:=by exact rfl) (E:Nat.beq z 0=false:=by exact rfl) (F:ev S x=some (.el n q p):=by exact rfl):AOp P w0 U0 nt ops o (gs++rd x) [] S [(d,.el n (q+f.offset) (p++[i]))]:=b6h r t u v y A B C E F
theorem a0t {α:Type} {l:List α} {j:Nat} {c x:α} (h:x∈l.set j c):x∈l\/x=c:=by
 rcases List.mem_or_eq_of_mem_set h with h | h
 ·exact .inl h
 ·exact .inr h
theorem b5M (hg:Gd w0 U0 nt ops o gs S) (hd:o.dst=none) {x y:Operand} {ty:TypeId} {e z z' j m n q:Nat} {l:List CV} {c c' c2 v:CV} {p:List Nat} {m1 q1 p1} (ho:o.op = .store ty x y) (hi:(P.info? ty).map (·.size)=some z') (hx:ev S x=some (.el n q (j::p))) (bQ:S n=some (.mrow e z l)) (hy:ev S y=some ⟨0,v,m1,q1,p1⟩) (hc:l[j]?=some c) (bI:c.at p=some (m,c')) (cS:c.upO p v=some c2) (hq:q=j*z+m) (hz:v.size=z') :
  AOp P w0 U0 nt ops o (gs++(rd x++(rd y++[n]))) [] S [(n,.mrow e z (l.set j c2))]:=by
 intro s hs hN a w ⟨D,hv,h⟩ Q K hK;rw [if_pos (hg s (fun k hk=>hs k (mem_append_left _ hk)) a w D hv h)];have hm:=(hs n (by simp)).trans bQ;obtain ⟨kN,h1⟩:RN n/\a.eval x = .pointer (some ⟨p7 (hv n),q,none⟩):=l9 h (fun k hk=>hs k (mem_append_right _ (mem_append_left _ hk))) hx;have h2:=y7 h (fun k hk=>hs k (mem_append_right _ (mem_append_right _ (mem_append_left _ hk)))) hy;obtain ⟨xs,g1,g2,g3,g4⟩:=h.mrow hm kN;have gJ:j<l.length:=by
  rcases Nat.lt_or_ge j l.length with h | h
  ·exact h
  ·rw [getElem?_eq_none h] at hc;cases hc
 obtain ⟨g,cap,cur,f1,f2,f3,f4,f6,f7,f8,f9⟩:=X9 g1 (by omega);rw [f8] at h1;have hl:l=l.take j++c::l.drop (j+1):=by rw [getElem?_eq_getElem gJ] at hc;rw [<-Option.some.inj hc,List.getElem_cons_drop,take_append_drop]
 have g4':=g4;rw [hl,map_append] at g4';obtain ⟨y1,r1,e1,s1,z1,u1,e2,s2,s3⟩:=x0 g4';obtain ⟨u1',u2⟩:=a1i (U:=Us w0 U0 D) (w:=w) (xs:=z1) bI cS;obtain ⟨y2,z2,u3,e3,e4,e5,e6⟩:=u2 s2;have lP:y1.length=j*z:=by rw [A5 (n:=CV.size) (fun c _ xs h=>h.len) s1,r8 (fun c hc=>g3 c (List.mem_of_mem_take hc)),length_take,Nat.min_eq_left (by omega)]
 have dE:=h2.cells.len;have eZ:cur.toList=(y1++y2)++z2++(u3++u1++cur.toList.drop (l.length*z)):=by
  conv=>lhs;rw [<-take_append_drop (l.length*z) cur.toList,f7,e1,e2,e3]
  simp
 have kZ:=J0 (P:=P) (ys:=y1++y2) (zs:=z2) (us:=u3++u1++cur.toList.drop (l.length*z)) (q:=q) (z:=z') hi (by rw [<-eZ,Array.toArray_toList];exact f2) (by rw [length_append,lP,e4,hq]) (v:=a.eval y) rfl (by rw [dE,e5]) (by rw [dE,hz]) h2.cells.one;have he:(execOp a.eval o).run P w = .ok .skip (w.setRow g (y1++y2++(a.eval y).cells.toList++(u3++u1++cur.toList.drop (l.length*z))).toArray):=by generalize a.eval=ρ at h1 kZ |-;simp [execOp,ho,Instr.storeAt,Instr.sureAddr,h1,kZ]
 unfold Oper.wp;rw [he,Oper.upon_skip,hd];have kH:l8 n:=by unfold RN at kN;unfold l8;omega
 refine hK _ _ ⟨_,_,h.store (av := .mrow e z (l.set j c2)) kH hm (by simp) (by simp) rfl (fun g' hn o _=>hn o (by simp)) (by simp) f9 f2 fun w' hw bC=>?_⟩;have bU:=(e6 _ h2.cells).keep bC;have jM:c2.size=z:=by have a1:=bU.len;have a2:=s2.len;rw [e3,g3 c (mem_of_getElem? hc)] at a2;simp only [length_append] at a1 a2;omega
 refine ⟨y1++(y2++(a.eval y).cells.toList++u3)++u1,⟨?_,.inr ⟨g,cap,_,?_,Nat.zero_le _,hw,?_,f4,?_,?_⟩⟩,g2,fun x hx=>?_,?_⟩
 ·have a1:=g1.1;rw [e1,e2,e3] at a1;simp only [length_append] at a1 |-;show _=(l.set j c2).length*z;rw [length_set];omega
 ·show hv n = .slice _ (l.set j c2).length cap;rw [length_set];exact f1
 ·show (l.set j c2).length<=cap;rw [length_set];exact f3
 ·have:=congrArg List.length eZ;rw [Array.length_toList,f6] at this;simp only [size_toArray,length_append] at this |-;show _=cap*z;omega
 ·show List.take ((l.set j c2).length*z) _=_;rw [length_set];have a1:=g1.1;rw [e1,e2,e3] at a1;simp only [length_append] at a1;have e7:y1++y2++(a.eval y).cells.toList++(u3++u1++cur.toList.drop (l.length*z))=(y1++(y2++(a.eval y).cells.toList++u3)++u1)++cur.toList.drop (l.length*z):=by simp
  rw [e7,List.take_append_of_le_length (by simp only [length_append];omega),take_of_length_le (by simp only [length_append];omega)]
 ·rcases a0t hx with hx | rfl
  ·exact g3 x hx
  ·exact jM
 ·show Sq ((l.set j c2).map fun c=>Rep (Us w0 U0 D) w' c) _;have gD:l.set j c2=l.take j++c2::l.drop (j+1):=by
   conv=>lhs;rw [hl]
   rw [List.set_append_right _ _ (by simp;omega)];simp [Nat.min_eq_left (Nat.le_of_lt gJ)]
  rw [gD,map_append,List.append_assoc];exact x8 (Sq.keep bC s1) ⟨_,u1,rfl,bU,Sq.keep bC s3⟩
theorem zR {P:Program} {w0:World} {U0:UX} {nt:Nat} {ops:Array Oper} {o:Oper} {S:Nat->Option AV} {gs:List Nat} {x:Operand} {y:Operand} {ty:TypeId} {e:Nat} {z:Nat} {z':Nat} {j:Nat} {m:Nat} {n:Nat} {q:Nat} {l:List CV} {c:CV} {c':CV} {c2:CV} {v:CV} {p:List Nat} {m1} {q1} {p1} (r:Gd w0 U0 nt ops o gs S:=by exact gN rfl) (t:o.dst=none:=by exact rfl) (u:o.op = .store ty x y:=by exact rfl) (A:(P.info? ty).map (·.size)=some z':=by exact rfl) (B:ev S x=some (.el n q (j::p)):=by exact rfl) (C:S n=some (.mrow e z l):=by exact rfl) (E:ev S y=some ⟨0,v,m1,q1,p1⟩:=by exact rfl) (F:l[j]?=some c) (G:c.at p=some (m,c'):=by exact rfl) (H:c.upO p v=some c2:=by exact rfl) (hq:q=j*z+m:=by first | rfl | omega | (simp only [length_set,length_map,length_append,length_cons,length_nil]<;>omega) | (simp<;>omega)) (hz:v.size=z':=by exact rfl):AOp P w0 U0 nt ops o (gs++(rd x++(rd y++[n]))) [] S [(n,.mrow e z (l.set j c2))]:=b5M r t u A B C E F G H hq hz
end
end Go.Proofs.YteegmcfobgpemaaGreat
