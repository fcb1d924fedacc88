/-
 AbTok AbFn AbLit TmMath AbTm TmMem TmSmall TmCmp FrRange TmIter TmCount TmApp TmClone TmConcat TmPlaces TmVars TmOf TmFine AbBr SbMath AbOff AbObj AbCall
-/
import Derived.Test.YtglmoficcjphaaaGreatMg1
import Derived.Test.YtglmoficcjphaaaGreatChecked
import Derived.Deep.QuietTactic
import Derived.BigQuiet
import Derived.Deep.RegionHeld3
import Derived.RangeFuncNested
import Derived.RangeFuncBound
import Derived.RangeFuncCalls
import Derived.RangeFuncLeaves
import Derived.RangeFuncBox
import Derived.Shelf.Abstract
import Derived.Shelf.RegionOpen
import Derived.WalkKit
import Derived.OwnWalkIn
import Derived.TacticsInMore
import Derived.LoopNIn
import Derived.LoopIn
import Derived.RangeFuncWrites
import Derived.Maps.AppendAt
import Derived.Lib.AppendZeros
import Derived.Maps.OwnIn
import Derived.Maps.OwnSet
import Derived.Maps.Views
import Derived.Deep.RegionLaw
namespace Go.Proofs.YtglmoficcjphaaaGreat
open Go.RowKit
set_option linter.unusedVariables false
set_option linter.unusedSimpArgs false
section
variable {P:Program} {w0:World} {U0:UX} {nt:Nat} {s:AS}
theorem S1 {a b:Nat} (h:a≠b):Nat.beq a b=false:=by
 cases e:Nat.beq a b with
 | false=>rfl
 | true=>exact absurd (Nat.eq_of_beq_eq_true e) h
theorem rnB {n:Nat} (h:(Nat.ble 200000 n&&Nat.blt n 400000)=true):200000≤n∧n<400000:=by
 rw [Bool.and_eq_true] at h
 exact ⟨Nat.le_of_ble_eq_true h.1,bL h.2⟩
theorem b3F {hv:Nat→Value}:G9 hv 1 = .slice none 0 0:=rfl
theorem O6 (kk n e z:Nat) {av:AV} (hk:look s kk=some av) (h1:av.n=1) (ht0:(Nat.beq av.t 0||Nat.beq av.t 5)=true) (hkk:Nat.blt kk 200000=true) (hn:(Nat.ble 200000 n&&Nat.blt n 400000)=true) (hz:Nat.blt 0 z=true) (hr:D7 s [(n,[])]=true):Wk w0 U0 nt s ((n,.tok e z)::(kk,{ av with n:=n })::s):=by
 rintro a w ⟨D,hv,h⟩
 obtain ⟨hn,hnx⟩:=rnB hn
 have hkk:=bL hkk
 have hz:=bL hz
 have hr:=(t8 hr (n,[]) (by simp)).nr
 have ht2:av.t=0∨av.t=5:=by
  rw [Bool.or_eq_true] at ht0
  exact ht0.imp Nat.eq_of_beq_eq_true Nat.eq_of_beq_eq_true
 obtain ⟨hv1,hhv⟩:∃ hv1:Nat→Value,hv1=fun x=>if x=n then .slice none 0 0 else hv x:=⟨_,rfl⟩
 have hG:SimG w0 U0 nt ((n,.tok e z)::s) a w D hv1:=by
  rw [hhv]
  exact h.newrow (X:=fun _=>False) (v' := .slice none 0 0) ⟨hn,hnx⟩ hr (by simp) (BelowX.refl _ _) (fun b hb=>hb.elim) (fun g hg=>by cases hg) (fun b o hd => .inl hd) h.dlt (fun b o u h1 h2=>⟨h1,h2⟩) (fun hv lv=>by unfold OC;exact ⟨0,[],World.ownsRow_nil _ _ _ _,hz⟩)
 have hvn:hv1 n = .slice none 0 0:=by rw [hhv];simp
 obtain ⟨t,ht⟩:∃ t,t=(n,AV.tok e z)::(kk,{ av with n:=n })::s:=⟨_,rfl⟩
 obtain ⟨t0,ht1⟩:∃ t0,t0=(n,AV.tok e z)::s:=⟨_,rfl⟩
 rw [←ht]
 rw [←ht1] at hG
 have hlk:∀ k,k≠kk→look t k=look t0 k:=fun k h2=>by
  rw [ht,ht1]
  by_cases e:n=k
  ·subst e;rw [lS,lS]
  ·rw [lN e,lN e,lN (Ne.symm h2)]
 have hlt:look t kk=some { av with n:=n }:=by rw [ht,lN (by omega),lS]
 have hlt0:look t0 kk=some av:=by rw [ht1,lN (by omega)];exact hk
 have hl:∀ m f,r9 t m f↔r9 t0 m f:=fun m f=>by
  unfold r9
  by_cases e:m=kk
  ·constructor<;>rintro ⟨_,h3,_⟩<;>omega
  ·rw [hlk m e]
 have hl2:a8 t=a8 t0:=by funext m;simp only [a8,hl]
 have hlv:a8 t0 n := .inr ⟨(e,z),by rw [ht1];exact ⟨lS _ _ _,hn,hnx⟩⟩
 have htk:∀ us,Tk hv1 (a8 t0) av us→Tk hv1 (a8 t0) { av with n:=n } us:=fun us h2 _=>by
  obtain ⟨m,c,g1,g2⟩:=h2 (.inl h1)
  refine ⟨m,c,g1,?_⟩
  rw [g2,h1,b3F]
  unfold G9
  simp only
  rw [if_neg (by omega),hvn]
 refine ⟨D,hv1,hG.below,hG.dfr,hG.size,fun d av' h2 h3=>?_,fun m o av' h2 h3 h4 h6=>?_,fun m o o' av1 av2 h2 h3=>?_,fun k av' h2 h3=>?_,fun k av' g h2 h3 h4 h6=>?_,fun k k' av1 av2 g h2 h3 h4 h6 h7 h8 hne=>?_,hG.fix,hG.dlt⟩
 ·rw [hl2]
  by_cases e:d=kk
  ·subst e
   rw [hlt] at h2
   cases h2
   obtain ⟨v,g4,g5⟩:=hG.slot d av hlt0 h3
   refine ⟨v,g4,?_⟩
   unfold AVRep at g5 ⊢
   simp only
   rcases ht2 with ht2 | ht2
   ·rw [if_pos ht2] at g5 ⊢
    exact ⟨g5.1,htk _ g5.2⟩
   ·rw [if_neg (by omega),if_neg (by omega),if_neg (by omega),if_neg (by omega),if_neg (by omega),if_neg (by omega),if_neg (by omega),if_neg (by omega),if_neg (by omega),if_neg (by omega)]
    first | trivial | exact b3g (by simp only;omega)
  ·rw [hlk d e] at h2
   exact hG.slot d av' h2 h3
 ·rw [hl2]
  rw [hlk _ (by unfold b9;omega)] at h2
  have hne:100000+m≠kk:=fun e=>by
   rw [e,hlt] at h4
   injection h4 with h4
   rcases ht2 with ht2 | ht2<;>(have:=congrArg AV.t h4;simp only at this;omega)
  rw [hlk _ hne] at h4
  exact hG.fld m o av' h2 h3 h4 h6
 ·rw [hlk _ (by unfold b9;omega)] at h2 h3
  exact hG.fdis m o o' av1 av2 h2 h3
 ·rw [hl2]
  by_cases e:k=kk
  ·subst e
   rw [hlt] at h2
   cases h2
   have g5:=hG.obj k av hlt0 h3
   unfold OC at g5 ⊢
   simp only
   rcases ht2 with ht2 | ht2
   ·rw [if_neg (by omega),if_neg (by omega),if_neg (by omega),if_neg (by omega),if_neg (by omega)]
    first | trivial | exact b3g (by simp only;omega)
   ·rw [if_pos ht2] at g5 ⊢
    obtain ⟨g,xs,ty,e1,e2,e3,e4⟩:=g5
    exact ⟨g,xs,ty,e1,e2,e3,htk _ e4⟩
  ·rw [hlk k e] at h2
   exact hG.obj k av' h2 h3
 ·by_cases e:k=kk
  ·subst e
   rw [hlt] at h2
   cases h2
   have:=hG.blk k av g hlt0 h3 h4 h6
   exact this
  ·rw [hlk k e] at h2
   exact hG.blk k av' g h2 h3 h4 h6
 ·have conv:∀ q (aq:AV),look t q=some aq→aq.t≠7→∃ aq',look t0 q=some aq'∧aq'.t≠7:=fun q aq f1 f2=>by
   by_cases e:q=kk
   ·subst e
    rw [hlt] at f1
    cases f1
    exact ⟨av,hlt0,f2⟩
   ·rw [hlk q e] at f1;exact ⟨aq,f1,f2⟩
  obtain ⟨a1,b1,c1⟩:=conv k av1 h2 h7
  obtain ⟨a2,b2,c2⟩:=conv k' av2 h3 h8
  exact hG.disj k k' a1 a2 g b1 b2 h4 h6 c1 c2 hne
def b7v (k:Nat):AS→AS
 | []=>[]
 | (d,av)::s=>(d,match Nat.beq d k with | true=>(match Nat.beq av.t 0||Nat.beq av.t 5 with | false=>av | true=>⟨av.t,av.c,0,av.o,av.p⟩) | false=>av)::b7v k s
def o6 (n n':Nat) (av:AV):AV:=⟨av.t,av.c,match Nat.beq av.t 2,Nat.beq av.n n with | false,true=>n' | _,_=>av.n,av.o,av.p⟩
def ren (n n':Nat):AS→AS
 | []=>[]
 | (k,av)::s=>(match Nat.beq k n with | true=>n' | false=>k,o6 n n' av)::ren n n' s
def W7 (s:AS) (n:Nat):Bool:=s.all fun p=>!Nat.beq p.1 n
theorem a3w {n n':Nat}:∀ {s:AS},W7 s n'=true→∀ {k:Nat} {av:AV},look (ren n n' s) k=some av→∃ k0 av0,look s k0=some av0∧av=o6 n n' av0∧((k0=n∧k=n')∨(k0≠n∧k0≠n'∧k=k0))
 | [],_,k,av,h=>by simp [ren,look] at h
 | (d,x)::s,hno,k,av,h=>by
  unfold W7 at hno
  rw [List.all_cons,Bool.and_eq_true] at hno
  have hdn:d≠n':=fun e=>by have:=hno.1;rw [e] at this;simp at this
  obtain ⟨kd,hkd⟩:∃ kd,kd=(match Nat.beq d n with | true=>n' | false=>d):=⟨_,rfl⟩
  rw [ren,←hkd,f0] at h
  split at h
  ·rename_i e
   rw [hkd] at e
   cases h
   by_cases hd:d=n
   ·subst hd
    refine ⟨d,x,lS _ _ _,rfl,.inl ⟨rfl,?_⟩⟩
    rw [←e,Nat.beq_refl]
   ·refine ⟨d,x,lS _ _ _,rfl,.inr ⟨hd,hdn,?_⟩⟩
    rw [←e,S1 hd]
  ·rename_i e
   rw [hkd] at e
   obtain ⟨k0,av0,h1,h2,h3⟩:=a3w (s:=s) hno.2 h
   refine ⟨k0,av0,?_,h2,h3⟩
   rw [lN]
   ·exact h1
   ·rintro rfl
    apply e
    rcases h3 with ⟨h4,h5⟩ | ⟨h4,h5,h6⟩
    ·rw [h4,Nat.beq_refl,h5]
    ·rw [S1 h4,h6]
theorem a4G {n n':Nat} {av:AV} (hn:n≠0) (hn':n'≠0) (h:o6 n n' av = .obj):av = .obj:=by
 obtain ⟨t,c,n0,o,p⟩:=av
 unfold o6 at h
 injection h with e1 e2 e3 e4 e5
 simp only at e1 e2 e3 e4 e5
 subst e1;subst e2;subst e4;subst e5
 by_cases e:n0=n
 ·subst e;rw [Nat.beq_refl] at e3;exact absurd e3 hn'
 ·rw [S1 e] at e3;rw [show n0=0 from e3]
theorem a1p {n n' e z:Nat} {av:AV} (hn:n≠0) (hn':n'≠0) (h:o6 n n' av = .tok e z):av = .tok e z:=by
 obtain ⟨t,c,n0,o,p⟩:=av
 unfold o6 at h
 injection h with e1 e2 e3 e4 e5
 simp only at e1 e2 e3 e4 e5
 subst e1;subst e2;subst e4;subst e5
 by_cases e:n0=n
 ·subst e;rw [Nat.beq_refl] at e3;exact absurd e3 hn'
 ·rw [S1 e] at e3;rw [show n0=0 from e3]
def rOk (s:AS) (n n':Nat):Bool:=match look s n with | some av=>Nat.beq av.t 6||Nat.blt n 300000||Nat.ble 300000 n' | none=>true
theorem rnF {n:Nat} (h:(Nat.ble 200000 n&&Nat.blt n 450000)=true):200000≤n∧n<450000:=by
 rw [Bool.and_eq_true] at h
 exact ⟨Nat.le_of_ble_eq_true h.1,bL h.2⟩
theorem C3 (n n':Nat) (hn:(Nat.ble 200000 n&&Nat.blt n 400000)=true) (hn':(Nat.ble 200000 n'&&Nat.blt n' 400000)=true) (hr:D7 s [(n',[])]=true) (hk':(W7 s n'&&rOk s n n')=true):Wk w0 U0 nt s (ren n n' s):=by
 rintro a w ⟨D,hv,h⟩
 have hn:=rnB hn
 have hn':=rnB hn'
 rw [Bool.and_eq_true] at hk'
 obtain ⟨hk,hrok⟩:=hk'
 have hr:=(t8 hr (n',[]) (by simp)).nr
 obtain ⟨t,ht⟩:∃ t,t=ren n n' s:=⟨_,rfl⟩
 rw [←ht]
 have hlk:∀ {k av},look t k=some av→∃ k0 av0,look s k0=some av0∧av=o6 n n' av0∧((k0=n∧k=n')∨(k0≠n∧k0≠n'∧k=k0)):=fun {k av} h1=>by rw [ht] at h1;exact a3w hk h1
 have hlow:∀ {k av},look t k=some av→(k<200000∨400000≤k)→∃ av0,look s k=some av0∧av=o6 n n' av0:=fun {k av} h1 h2=>by
  obtain ⟨k0,av0,g1,g2,g3⟩:=hlk h1
  rcases g3 with ⟨g4,g5⟩ | ⟨g4,g5,g6⟩
  ·omega
  ·rw [g6];exact ⟨av0,g1,g2⟩
 have hlive:∀ {m f},r9 t m f→∃ m0,r9 s m0 f∧((m0=n∧m=n')∨(m0≠n∧m0≠n'∧m=m0)):=fun {m f} h1=>by
  obtain ⟨k0,av0,g1,g2,g3⟩:=hlk h1.1
  refine ⟨k0,⟨?_,?_⟩,g3⟩
  ·rw [g1,a1p (by omega) (by omega) g2.symm]
  ·have:=h1.2
   rcases g3 with ⟨g4,g5⟩ | ⟨g4,g5,g6⟩<;>omega
 obtain ⟨hv1,hhv⟩:∃ hv1:Nat→Value,hv1=fun x=>if x=n' then hv n else hv x:=⟨_,rfl⟩
 have hvn:∀ k,k≠n'→hv1 k=hv k:=fun k hk=>by rw [hhv];simp only [if_neg hk]
 have hvd:hv1 n'=hv n:=by rw [hhv];simp
 have hid:∀ b o v,Us w0 U0 D b o→w.cell? ⟨b,o,none⟩=some v→Us w0 U0 D b o∧w.cell? ⟨b,o,none⟩=some v:=fun _ _ _ h1 h2=>⟨h1,h2⟩
 have hnm:∀ {k av0},look s k=some av0→(av0.t≠2∧av0.n=n∧(o6 n n' av0).n=n')∨((av0.t=2∨av0.n≠n)∧(o6 n n' av0).n=av0.n):=fun {k av0} h1=>by
  unfold o6
  by_cases e:av0.n=n
  ·by_cases e2:av0.t=2
   ·right;exact ⟨.inl e2,by simp only [e2,Nat.beq_refl]⟩
   ·left;exact ⟨e2,e,by simp only [e,Nat.beq_refl,S1 e2]⟩
  ·right;refine ⟨.inr e,?_⟩;simp only [S1 e];cases Nat.beq av0.t 2<;>rfl
 have hlv:∀ {k av0},look s k=some av0→a8 t (o6 n n' av0).n→av0.t≠2→a8 s av0.n∧G9 hv1 (o6 n n' av0).n=G9 hv av0.n:=fun {k av0} h1 h2 h3=>by
  have hne:=(hr k av0 h1).1
  rcases hnm h1 with ⟨g1,g2,g3⟩ | ⟨g1,g3⟩
  ·rw [g3] at h2 ⊢
   rw [g2]
   refine ⟨?_,?_⟩
   ·rcases h2 with h2 | ⟨f,hf⟩
    ·omega
    ·obtain ⟨m0,f1,f2⟩:=hlive hf
     rcases f2 with ⟨f3,_⟩ | ⟨f3,f4,f5⟩
     ·exact .inr ⟨f,f3▸f1⟩
     ·omega
   ·unfold G9
    rw [if_neg (by omega),if_neg (by omega),hvd]
  ·rw [g3] at h2 ⊢
   refine ⟨?_,?_⟩
   ·rcases h2 with h2 | ⟨f,hf⟩
    ·exact .inl h2
    ·obtain ⟨m0,f1,f2⟩:=hlive hf
     rcases f2 with ⟨_,f4⟩ | ⟨_,_,f5⟩
     ·exact absurd f4 hne
     ·rw [f5];exact .inr ⟨f,f1⟩
   ·unfold G9
    rw [hvn _ hne]
 have hav:∀ {k av0 v},look s k=some av0→AVRep (Us w0 U0 D) w hv (a8 s) av0 v→AVRep (Us w0 U0 D) w hv1 (a8 t) (o6 n n' av0) v:=fun {k av0 v} h1 h2=>by
  have hne:=(hr k av0 h1).1
  unfold AVRep at h2 ⊢
  rw [show (o6 n n' av0).t=av0.t from rfl,show (o6 n n' av0).c=av0.c from rfl,show (o6 n n' av0).o=av0.o from rfl]
  have ez:zOf (o6 n n' av0)=zOf av0∧zSl (o6 n n' av0)=zSl av0:=⟨rfl,rfl⟩
  rw [ez.1,ez.2]
  by_cases t0:av0.t=0
  ·rw [if_pos t0] at h2 ⊢
   refine ⟨h2.1,fun he=>?_⟩
   obtain ⟨f1,f2⟩:=hlv h1 he (by omega)
   obtain ⟨m,c,f3,f4⟩:=h2.2 f1
   exact ⟨m,c,f3,by rw [f4,f2]⟩
  rw [if_neg t0] at h2 ⊢
  by_cases t2:av0.t=2
  ·rw [if_pos t2] at h2 ⊢
   have e:(o6 n n' av0).n=av0.n:=by
    rcases hnm h1 with ⟨g1,_⟩ | ⟨_,g⟩
    ·exact absurd t2 g1
    ·exact g
   have hb:=h2.1
   unfold BN at hb
   rw [e,hvn _ (by omega)]
   exact h2
  rw [if_neg t2] at h2 ⊢
  by_cases t3:av0.t=3
  ·rw [if_pos t3] at h2 ⊢;exact h2
  rw [if_neg t3] at h2 ⊢
  by_cases t4:av0.t=4
  ·rw [if_pos t4] at h2 ⊢;exact h2
  rw [if_neg t4] at h2 ⊢
  have hR:RN av0.n→RN (o6 n n' av0).n∧hv1 (o6 n n' av0).n=hv av0.n:=fun h3=>by
   rcases hnm h1 with ⟨g1,g2,g3⟩ | ⟨g1,g3⟩
   ·rw [g3,g2];exact ⟨RW.rn hn',hvd⟩
   ·rw [g3];exact ⟨h3,hvn _ hne⟩
  by_cases t11:av0.t=11
  ·rw [if_pos t11] at h2 ⊢;obtain ⟨f1,f2⟩:=hR h2.1;rw [f2];exact ⟨f1,h2.2⟩
  rw [if_neg t11] at h2 ⊢
  by_cases t12:av0.t=12
  ·rw [if_pos t12] at h2 ⊢;obtain ⟨f1,f2⟩:=hR h2.1;rw [f2];exact ⟨f1,h2.2⟩
  rw [if_neg t12] at h2 ⊢
  by_cases t15:av0.t=15
  ·rw [if_pos t15] at h2 ⊢;obtain ⟨f1,f2⟩:=hR h2.1;rw [f2];exact ⟨f1,h2.2⟩
  rw [if_neg t15] at h2 ⊢
  by_cases t16:av0.t=16
  ·rw [if_pos t16] at h2 ⊢;exact h2
  rw [if_neg t16] at h2 ⊢
  by_cases t18:av0.t=18
  ·rw [if_pos t18] at h2 ⊢;exact h2
  rw [if_neg t18] at h2 ⊢
  by_cases t19:av0.t=19
  ·rw [if_pos t19] at h2 ⊢;obtain ⟨f1,f2⟩:=hR h2.1;rw [f2];exact ⟨f1,h2.2⟩
  rw [if_neg t19]
  trivial
 have hkey:∀ {k k0},((k0=n∧k=n')∨(k0≠n∧k0≠n'∧k=k0))→hv1 k=hv k0∧(k9 k→k9 k0):=fun {k k0} h1=>by
  unfold k9
  rcases h1 with ⟨rfl,rfl⟩ | ⟨h2,h3,rfl⟩
  ·exact ⟨hvd,fun _=>by omega⟩
  ·exact ⟨hvn _ h3,fun h=>h⟩
 refine ⟨D,hv1,h.below,h.dfr,h.size,fun d av h1 h2=>?_,fun m o av h1 h2 h3 h4=>?_,fun m o o' av av' h1 h2=>?_,fun k av h1 h2=>?_,fun k av g h1 h2 h3 h4=>?_,fun k k' av av' g h1 h2 h3 h4 h5 h6 hne=>?_,fun m g h1=>?_,h.dlt⟩
 ·obtain ⟨av0,g1,rfl⟩:=hlow h1 (by omega)
  obtain ⟨v,g4,g5⟩:=h.slot d av0 g1 h2
  exact ⟨v,g4,hav g1 g5⟩
 ·obtain ⟨av0,g1,rfl⟩:=hlow h1 (by unfold b9;omega)
  obtain ⟨k0,av1,f1,f2,f3⟩:=hlk h3
  have f2:=a4G (by omega) (by omega) f2.symm
  subst f2
  rcases f3 with ⟨f4,f5⟩ | ⟨f4,f5,f6⟩
  ·unfold BN at h4;omega
  ·rw [←f6] at f1
   obtain ⟨v,g4,g5,g6⟩:=h.fld m o av0 g1 h2 f1 h4
   exact ⟨v,hav g1 g4,g5,by rw [hvn _ (by omega)];exact g6⟩
 ·obtain ⟨av0,g1,rfl⟩:=hlow h1 (by unfold b9;omega)
  obtain ⟨av1,g2,rfl⟩:=hlow h2 (by unfold b9;omega)
  exact h.fdis m o o' av0 av1 g1 g2
 ·obtain ⟨k0,av0,g1,rfl,g3⟩:=hlk h1
  obtain ⟨e1,e2⟩:=hkey g3
  rw [e1]
  have g5:=h.obj k0 av0 g1 (e2 h2)
  unfold OC at g5 ⊢
  rw [show (o6 n n' av0).t=av0.t from rfl,show (o6 n n' av0).c=av0.c from rfl,show (o6 n n' av0).o=av0.o from rfl]
  have ez:zOf (o6 n n' av0)=zOf av0:=rfl
  rw [ez]
  by_cases t5:av0.t=5
  ·rw [if_pos t5] at g5 ⊢
   obtain ⟨g,xs,ty,f1,f2,f3,f4⟩:=g5
   refine ⟨g,xs,ty,f1,f2,f3,fun he=>?_⟩
   obtain ⟨f5,f6⟩:=hlv g1 he (by omega)
   obtain ⟨m,c,f7,f8⟩:=f4 f5
   exact ⟨m,c,f7,by rw [f8,f6]⟩
  ·rw [if_neg t5] at g5 ⊢
   exact g5
 ·obtain ⟨k0,av0,g1,rfl,g3⟩:=hlk h1
  obtain ⟨e1,e2⟩:=hkey g3
  rw [e1] at h4 ⊢
  obtain ⟨f1,f2,f3⟩:=h.blk k0 av0 g g1 (e2 h2) h3 h4
  refine ⟨?_,f2,f3⟩
  rcases g3 with ⟨rfl,rfl⟩ | ⟨_,_,rfl⟩
  ·unfold rOk at hrok
   rw [g1] at hrok
   simp only [Bool.or_eq_true] at hrok
   have e3:(o6 k0 k av0).t=av0.t:=rfl
   rcases hrok with (h6 | h6) | h6
   ·rw [J5 (Nat.eq_of_beq_eq_true h6)] at f1
    rw [J5 (e3.trans (Nat.eq_of_beq_eq_true h6))];exact f1
   ·rw [a1b (bL h6)] at f1
    rcases f1 with f1 | f1
    ·exact .inl f1
    ·exact absurd rfl f1.1
   ·have h7:=Nat.le_of_ble_eq_true h6
    rw [a2H h7]
    rcases f1 with f1 | f1
    ·exact .inl f1
    ·refine .inr ⟨?_,f1.2⟩
     intro e4
     exact f1.1 (J5 e4)
  ·exact f1
 ·obtain ⟨k0,av0,g1,rfl,g3⟩:=hlk h1
  obtain ⟨k1,av1,g4,rfl,g6⟩:=hlk h2
  obtain ⟨e1,e2⟩:=hkey g3
  obtain ⟨e3,e4⟩:=hkey g6
  rw [e1,e3]
  refine h.disj k0 k1 av0 av1 g g1 g4 (e2 h3) (e4 h4) h5 h6 fun e=>hne ?_
  rcases g3 with ⟨f1,f2⟩ | ⟨f1,f2,f3⟩<;>rcases g6 with ⟨f4,f5⟩ | ⟨f4,f5,f6⟩<;>omega
 ·have:=U0.hf m g h1
  rw [hvn _ (by omega)]
  exact h.fix m g h1
def b5G (s:AS) (n:Nat):Bool:=match look s n with | some av=>!Nat.beq av.t 6 | none=>true
theorem t7 (n n':Nat) (hn:(Nat.ble 200000 n&&Nat.blt n 450000)=true) (hn':(Nat.ble 200000 n'&&Nat.blt n' 450000)=true) (hf:U0.f n'=none) (hnt:b5G s n=true) (hr:D7 s [(n',[])]=true) (hk':(W7 s n'&&rOk s n n')=true):Wk w0 U0 nt s (ren n n' s):=by
 rintro a w ⟨D,hv,h⟩
 have hn:=rnF hn
 have hn':=rnF hn'
 rw [Bool.and_eq_true] at hk'
 obtain ⟨hk,hrok⟩:=hk'
 have hr:=(t8 hr (n',[]) (by simp)).nr
 obtain ⟨t,ht⟩:∃ t,t=ren n n' s:=⟨_,rfl⟩
 rw [←ht]
 have hlk:∀ {k av},look t k=some av→∃ k0 av0,look s k0=some av0∧av=o6 n n' av0∧((k0=n∧k=n')∨(k0≠n∧k0≠n'∧k=k0)):=fun {k av} h1=>by rw [ht] at h1;exact a3w hk h1
 have hlow:∀ {k av},look t k=some av→(k<200000∨450000≤k)→∃ av0,look s k=some av0∧av=o6 n n' av0:=fun {k av} h1 h2=>by
  obtain ⟨k0,av0,g1,g2,g3⟩:=hlk h1
  rcases g3 with ⟨g4,g5⟩ | ⟨g4,g5,g6⟩
  ·omega
  ·rw [g6];exact ⟨av0,g1,g2⟩
 have hlive:∀ {m f},r9 t m f→∃ m0,r9 s m0 f∧((m0=n∧m=n')∨(m0≠n∧m0≠n'∧m=m0)):=fun {m f} h1=>by
  obtain ⟨k0,av0,g1,g2,g3⟩:=hlk h1.1
  refine ⟨k0,⟨?_,?_⟩,g3⟩
  ·rw [g1,a1p (by omega) (by omega) g2.symm]
  ·have:=h1.2
   rcases g3 with ⟨g4,g5⟩ | ⟨g4,g5,g6⟩
   ·exfalso
    have g7:=a1p (by omega) (by omega) g2.symm
    rw [g4,g7] at g1
    unfold b5G at hnt
    rw [g1] at hnt
    cases hnt
   ·omega
 obtain ⟨hv1,hhv⟩:∃ hv1:Nat→Value,hv1=fun x=>if x=n' then hv n else hv x:=⟨_,rfl⟩
 have hvn:∀ k,k≠n'→hv1 k=hv k:=fun k hk=>by rw [hhv];simp only [if_neg hk]
 have hvd:hv1 n'=hv n:=by rw [hhv];simp
 have hid:∀ b o v,Us w0 U0 D b o→w.cell? ⟨b,o,none⟩=some v→Us w0 U0 D b o∧w.cell? ⟨b,o,none⟩=some v:=fun _ _ _ h1 h2=>⟨h1,h2⟩
 have hnm:∀ {k av0},look s k=some av0→(av0.t≠2∧av0.n=n∧(o6 n n' av0).n=n')∨((av0.t=2∨av0.n≠n)∧(o6 n n' av0).n=av0.n):=fun {k av0} h1=>by
  unfold o6
  by_cases e:av0.n=n
  ·by_cases e2:av0.t=2
   ·right;exact ⟨.inl e2,by simp only [e2,Nat.beq_refl]⟩
   ·left;exact ⟨e2,e,by simp only [e,Nat.beq_refl,S1 e2]⟩
  ·right;refine ⟨.inr e,?_⟩;simp only [S1 e];cases Nat.beq av0.t 2<;>rfl
 have hlv:∀ {k av0},look s k=some av0→a8 t (o6 n n' av0).n→av0.t≠2→a8 s av0.n∧G9 hv1 (o6 n n' av0).n=G9 hv av0.n:=fun {k av0} h1 h2 h3=>by
  have hne:=(hr k av0 h1).1
  rcases hnm h1 with ⟨g1,g2,g3⟩ | ⟨g1,g3⟩
  ·rw [g3] at h2 ⊢
   rw [g2]
   refine ⟨?_,?_⟩
   ·rcases h2 with h2 | ⟨f,hf⟩
    ·omega
    ·obtain ⟨m0,f1,f2⟩:=hlive hf
     rcases f2 with ⟨f3,_⟩ | ⟨f3,f4,f5⟩
     ·exact .inr ⟨f,f3▸f1⟩
     ·omega
   ·unfold G9
    rw [if_neg (by omega),if_neg (by omega),hvd]
  ·rw [g3] at h2 ⊢
   refine ⟨?_,?_⟩
   ·rcases h2 with h2 | ⟨f,hf⟩
    ·exact .inl h2
    ·obtain ⟨m0,f1,f2⟩:=hlive hf
     rcases f2 with ⟨_,f4⟩ | ⟨_,_,f5⟩
     ·exact absurd f4 hne
     ·rw [f5];exact .inr ⟨f,f1⟩
   ·unfold G9
    rw [hvn _ hne]
 have hav:∀ {k av0 v},look s k=some av0→AVRep (Us w0 U0 D) w hv (a8 s) av0 v→AVRep (Us w0 U0 D) w hv1 (a8 t) (o6 n n' av0) v:=fun {k av0 v} h1 h2=>by
  have hne:=(hr k av0 h1).1
  unfold AVRep at h2 ⊢
  rw [show (o6 n n' av0).t=av0.t from rfl,show (o6 n n' av0).c=av0.c from rfl,show (o6 n n' av0).o=av0.o from rfl]
  have ez:zOf (o6 n n' av0)=zOf av0∧zSl (o6 n n' av0)=zSl av0:=⟨rfl,rfl⟩
  rw [ez.1,ez.2]
  by_cases t0:av0.t=0
  ·rw [if_pos t0] at h2 ⊢
   refine ⟨h2.1,fun he=>?_⟩
   obtain ⟨f1,f2⟩:=hlv h1 he (by omega)
   obtain ⟨m,c,f3,f4⟩:=h2.2 f1
   exact ⟨m,c,f3,by rw [f4,f2]⟩
  rw [if_neg t0] at h2 ⊢
  by_cases t2:av0.t=2
  ·rw [if_pos t2] at h2 ⊢
   have e:(o6 n n' av0).n=av0.n:=by
    rcases hnm h1 with ⟨g1,_⟩ | ⟨_,g⟩
    ·exact absurd t2 g1
    ·exact g
   have hb:=h2.1
   unfold BN at hb
   rw [e,hvn _ (by omega)]
   exact h2
  rw [if_neg t2] at h2 ⊢
  by_cases t3:av0.t=3
  ·rw [if_pos t3] at h2 ⊢;exact h2
  rw [if_neg t3] at h2 ⊢
  by_cases t4:av0.t=4
  ·rw [if_pos t4] at h2 ⊢;exact h2
  rw [if_neg t4] at h2 ⊢
  have hR:RN av0.n→RN (o6 n n' av0).n∧hv1 (o6 n n' av0).n=hv av0.n:=fun h3=>by
   rcases hnm h1 with ⟨g1,g2,g3⟩ | ⟨g1,g3⟩
   ·rw [g3,g2];exact ⟨hn',hvd⟩
   ·rw [g3];exact ⟨h3,hvn _ hne⟩
  by_cases t11:av0.t=11
  ·rw [if_pos t11] at h2 ⊢;obtain ⟨f1,f2⟩:=hR h2.1;rw [f2];exact ⟨f1,h2.2⟩
  rw [if_neg t11] at h2 ⊢
  by_cases t12:av0.t=12
  ·rw [if_pos t12] at h2 ⊢;obtain ⟨f1,f2⟩:=hR h2.1;rw [f2];exact ⟨f1,h2.2⟩
  rw [if_neg t12] at h2 ⊢
  by_cases t15:av0.t=15
  ·rw [if_pos t15] at h2 ⊢;obtain ⟨f1,f2⟩:=hR h2.1;rw [f2];exact ⟨f1,h2.2⟩
  rw [if_neg t15] at h2 ⊢
  by_cases t16:av0.t=16
  ·rw [if_pos t16] at h2 ⊢;exact h2
  rw [if_neg t16] at h2 ⊢
  by_cases t18:av0.t=18
  ·rw [if_pos t18] at h2 ⊢;exact h2
  rw [if_neg t18] at h2 ⊢
  by_cases t19:av0.t=19
  ·rw [if_pos t19] at h2 ⊢;obtain ⟨f1,f2⟩:=hR h2.1;rw [f2];exact ⟨f1,h2.2⟩
  rw [if_neg t19]
  trivial
 have hkey:∀ {k k0},((k0=n∧k=n')∨(k0≠n∧k0≠n'∧k=k0))→hv1 k=hv k0∧(k9 k→k9 k0):=fun {k k0} h1=>by
  unfold k9
  rcases h1 with ⟨rfl,rfl⟩ | ⟨h2,h3,rfl⟩
  ·exact ⟨hvd,fun _=>by omega⟩
  ·exact ⟨hvn _ h3,fun h=>h⟩
 refine ⟨D,hv1,h.below,h.dfr,h.size,fun d av h1 h2=>?_,fun m o av h1 h2 h3 h4=>?_,fun m o o' av av' h1 h2=>?_,fun k av h1 h2=>?_,fun k av g h1 h2 h3 h4=>?_,fun k k' av av' g h1 h2 h3 h4 h5 h6 hne=>?_,fun m g h1=>?_,h.dlt⟩
 ·obtain ⟨av0,g1,rfl⟩:=hlow h1 (by omega)
  obtain ⟨v,g4,g5⟩:=h.slot d av0 g1 h2
  exact ⟨v,g4,hav g1 g5⟩
 ·obtain ⟨av0,g1,rfl⟩:=hlow h1 (by unfold b9;omega)
  obtain ⟨k0,av1,f1,f2,f3⟩:=hlk h3
  have f2:=a4G (by omega) (by omega) f2.symm
  subst f2
  rcases f3 with ⟨f4,f5⟩ | ⟨f4,f5,f6⟩
  ·unfold BN at h4;omega
  ·rw [←f6] at f1
   obtain ⟨v,g4,g5,g6⟩:=h.fld m o av0 g1 h2 f1 h4
   exact ⟨v,hav g1 g4,g5,by rw [hvn _ (by omega)];exact g6⟩
 ·obtain ⟨av0,g1,rfl⟩:=hlow h1 (by unfold b9;omega)
  obtain ⟨av1,g2,rfl⟩:=hlow h2 (by unfold b9;omega)
  exact h.fdis m o o' av0 av1 g1 g2
 ·obtain ⟨k0,av0,g1,rfl,g3⟩:=hlk h1
  obtain ⟨e1,e2⟩:=hkey g3
  rw [e1]
  have g5:=h.obj k0 av0 g1 (e2 h2)
  unfold OC at g5 ⊢
  rw [show (o6 n n' av0).t=av0.t from rfl,show (o6 n n' av0).c=av0.c from rfl,show (o6 n n' av0).o=av0.o from rfl]
  have ez:zOf (o6 n n' av0)=zOf av0:=rfl
  rw [ez]
  by_cases t5:av0.t=5
  ·rw [if_pos t5] at g5 ⊢
   obtain ⟨g,xs,ty,f1,f2,f3,f4⟩:=g5
   refine ⟨g,xs,ty,f1,f2,f3,fun he=>?_⟩
   obtain ⟨f5,f6⟩:=hlv g1 he (by omega)
   obtain ⟨m,c,f7,f8⟩:=f4 f5
   exact ⟨m,c,f7,by rw [f8,f6]⟩
  ·rw [if_neg t5] at g5 ⊢
   exact g5
 ·obtain ⟨k0,av0,g1,rfl,g3⟩:=hlk h1
  obtain ⟨e1,e2⟩:=hkey g3
  rw [e1] at h4 ⊢
  obtain ⟨f1,f2,f3⟩:=h.blk k0 av0 g g1 (e2 h2) h3 h4
  refine ⟨?_,f2,f3⟩
  rcases g3 with ⟨rfl,rfl⟩ | ⟨_,_,rfl⟩
  ·unfold rOk at hrok
   rw [g1] at hrok
   simp only [Bool.or_eq_true] at hrok
   have e3:(o6 k0 k av0).t=av0.t:=rfl
   rcases hrok with (h6 | h6) | h6
   ·rw [J5 (Nat.eq_of_beq_eq_true h6)] at f1
    rw [J5 (e3.trans (Nat.eq_of_beq_eq_true h6))];exact f1
   ·rw [a1b (bL h6)] at f1
    rcases f1 with f1 | f1
    ·exact .inl f1
    ·exact absurd rfl f1.1
   ·have h7:=Nat.le_of_ble_eq_true h6
    rw [a2H h7]
    rcases f1 with f1 | f1
    ·exact .inl f1
    ·refine .inr ⟨?_,f1.2⟩
     intro e4
     exact f1.1 (J5 e4)
  ·exact f1
 ·obtain ⟨k0,av0,g1,rfl,g3⟩:=hlk h1
  obtain ⟨k1,av1,g4,rfl,g6⟩:=hlk h2
  obtain ⟨e1,e2⟩:=hkey g3
  obtain ⟨e3,e4⟩:=hkey g6
  rw [e1,e3]
  refine h.disj k0 k1 av0 av1 g g1 g4 (e2 h3) (e4 h4) h5 h6 fun e=>hne ?_
  rcases g3 with ⟨f1,f2⟩ | ⟨f1,f2,f3⟩<;>rcases g6 with ⟨f4,f5⟩ | ⟨f4,f5,f6⟩<;>omega
 ·have hm:m≠n':=fun e=>by rw [e,hf] at h1;cases h1
  rw [hvn _ hm]
  exact h.fix m g h1
end
section
variable {P:Program} {w0:World} {U0:UX} {nt:Nat} {ops:Array Oper} {o:Oper} {S:Nat→Option AV} {gs:List Nat} {d:Nat} {s:AS} {a:Act} {w:World} {D:Nat→Nat→Prop} {hv:Nat→Value}
theorem a0L {U:Nat→Nat→Prop} {c:CV} {u:Value}:VRep U w (.ptr c) u↔∃ b off ys,u = .pointer (some ⟨b,off,none⟩)∧Rep U w c ys∧∀ i,i<ys.length→U b (off+i)∧w.cell? ⟨b,off+i,none⟩=ys[i]?:=by
 rw [show VRep U w (.ptr c) u=Rep U w (.ptr c) [u] from rfl,b7P];simp
theorem a1h {U:Nat→Nat→Prop} {f n:Nat} {l:List CV} {u:Value}:VRep U w (.fn f n l) u↔∃ (ys zs:List Value),u = .func (.func f) ys.toArray zs.toArray∧ys.length=n∧Sq (l.map fun c=>Rep U w c) (ys++zs)∧∀ c∈l,c.k≠2:=by
 rw [show VRep U w (.fn f n l) u=if 10+n=2 then ∃ xs:List Value,u = .agg xs.toArray∧Rep U w (.fn f n l) xs else Rep U w (.fn f n l) [u] from rfl,if_neg (by omega),b9L];simp
theorem a0B {U:Nat→Nat→Prop}:∀ {l:List CV} {xs:List Value},(∀ c∈l,c.k≠2)→Sq (l.map fun c=>Rep U w c) xs→VReps U w l xs
 | [],xs,_,h=>h
 | c::cs,xs,hk,⟨ys,zs,e,h1,h2⟩=>by
  have hc:=hk c (by simp)
  have hlen:=h1.len
  have h1c:c.size=1:=by cases c with | mk k v l=>rw [CV.size_mk,if_neg hc]
  rw [h1c] at hlen
  match ys,hlen with
  | [u],_=>exact ⟨u,zs,e,by unfold VRep;rw [if_neg hc];exact h1,a0B (fun x hx=>hk x (List.mem_cons_of_mem _ hx)) h2⟩
theorem a7M {U:Nat→Nat→Prop}:∀ {l:List CV} {xs:List Value},(∀ c∈l,c.k≠2)→VReps U w l xs→Sq (l.map fun c=>Rep U w c) xs
 | [],xs,_,h=>h
 | c::cs,xs,hk,⟨u,us,e,h1,h2⟩=>by
  refine ⟨[u],us,e,?_,a7M (fun x hx=>hk x (List.mem_cons_of_mem _ hx)) h2⟩
  unfold VRep at h1
  rw [if_neg (hk c (by simp))] at h1
  exact h1
theorem VReps.append {U:Nat→Nat→Prop}:∀ {l m:List CV} {xs ys:List Value},VReps U w l xs→VReps U w m ys→VReps U w (l++m) (xs++ys)
 | [],m,xs,ys,h,h2=>by have h:xs=[]:=h;rw [h];exact h2
 | c::cs,m,xs,ys,⟨u,us,e,h1,h3⟩,h2=>⟨u,us++ys,by rw [e];rfl,h1,VReps.append h3 h2⟩
theorem VReps.split {U:Nat→Nat→Prop}:∀ {l:List CV} {xs ys:List Value},VReps U w l (xs++ys)→VReps U w (l.take xs.length) xs∧VReps U w (l.drop xs.length) ys
 | l,[],ys,h=>⟨rfl,h⟩
 | [],x::xs,ys,h=>by have h:x::xs++ys=[]:=h;simp at h
 | c::cs,x::xs,ys,⟨u,us,e,h1,h3⟩=>by
  injection e with e1 e2
  subst e1;subst e2
  obtain ⟨h4,h5⟩:=VReps.split h3
  exact ⟨⟨x,xs,rfl,h1,h4⟩,h5⟩
def a4t:List CV→Bool
 | []=>true
 | c::cs=>match Nat.beq c.k 2 with | true=>false | false=>a4t cs
theorem S8:∀ {l:List CV},a4t l=true→∀ c∈l,c.k≠2
 | [],_,c,hc=>by simp at hc
 | x::l,h,c,hc=>by
  unfold a4t at h
  split at h
  ·cases h
  ·rename_i hb
   rcases List.mem_cons.1 hc with rfl | hc
   ·exact fun e=>by rw [e] at hb;cases hb
   ·exact S8 h c hc
def AFunV (P:Program) (W:World) (fc:CV) (args:List CV) (r:AV):Prop:=∃ f n l,fc = .fn f n l∧AFun P W f (l.take n++(args++l.drop n)) r
theorem AFunV.up {W w:World} {fc:CV} {args:List CV} {r:AV} {U:UX} (h:AFunV P W fc args r) (hW:Hw W w U):AFunV P w fc args r:=by
 obtain ⟨f,n,l,h1,h2⟩:=h
 exact ⟨f,n,l,h1,h2.up hW⟩
theorem b1o {x:Operand} {xs:Array Operand} {ts:Array TypeId} {fc:CV} {cs:List CV} {r:AV} {n q p} (hg:Gd w0 U0 nt ops o gs S) (hd:o.dst=some d) (hn:Nat.blt d nt=true) (h5:Nat.blt d 100000=true)
  (ho:o.op = .call { callee := .value x,args:=xs,argTypes:=ts }) (hf:ev S x=some ⟨0,fc,n,q,p⟩) (hx:Y3 S xs.toList=some cs) (hc:AFunV P w0 fc cs r):AOp P w0 U0 nt ops o (gs++(rd x++rdl xs.toList)) [] S [(d,r)]:=by
 intro s hs _ a w ⟨D,hv,h⟩ Q K hK
 rw [if_pos (hg s (fun k hk=>hs k (List.mem_append_left _ hk)) a w D hv h)]
 have hargs:=E7 h (fun k hk=>hs k (List.mem_append_right _ (List.mem_append_right _ hk))) hx
 have hfv:=A0 h (fun k hk=>hs k (List.mem_append_right _ (List.mem_append_left _ hk))) hf
 obtain ⟨f,m,l,rfl,h1,h2,h3,h4⟩:=hc
 obtain ⟨ys,zs,e1,e2,e3,e4⟩:=a1h.1 hfv
 obtain ⟨s1,s2⟩:=VReps.split (a0B e4 e3)
 rw [e2] at s1 s2
 have hcall:=h4 _ w _ trivial (s1.append (hargs.append s2))
 have he:(execOp a.eval o).run P w = .ok (.enter f (ys++(xs.toList.map a.eval++zs)).toArray) w:=by
  have hen:=h1 (ys.toArray++(xs.map a.eval++zs.toArray)) w
  have harr:(ys++(xs.toList.map a.eval++zs)).toArray=ys.toArray++(xs.map a.eval++zs.toArray):=by apply Array.ext';simp
  rw [harr]
  generalize a.eval=ρ at e1 hen ⊢
  simp [execOp,ho,resolve,invoke,Deferred.ofValue,e1,hen]
 unfold Oper.wp
 rw [he,Oper.upon_enter]
 refine hcall.mono ?_
 rintro e w' ⟨v,rfl,h6,h7⟩
 rw [hd]
 refine hK _ _ ⟨Dn D w w',hv,(h.growN h7).put (bL hn) (bL h5) (O5 h2 h3 (T8 rfl h7.size h.below.size h6))⟩
theorem zC {P:Program} {w0:World} {U0:UX} {nt:Nat} {ops:Array Oper} {o:Oper} {S:Nat→Option AV} {gs:List Nat} {d:Nat} {x:Operand} {xs:Array Operand} {ts:Array TypeId} {fc:CV} {cs:List CV} {r:AV} {n} {q} {p} (t:Gd w0 U0 nt ops o gs S:=by exact gN rfl) (u:o.dst=some d:=by exact rfl) (y:Nat.blt d nt=true:=by exact rfl) (z:Nat.blt d 100000=true:=by exact rfl) (A:o.op = .call { callee := .value x,args:=xs,argTypes:=ts }:=by exact rfl) (B:ev S x=some ⟨0,fc,n,q,p⟩:=by exact rfl) (C:Y3 S xs.toList=some cs:=by exact rfl) (E:AFunV P w0 fc cs r):AOp P w0 U0 nt ops o (gs++(rd x++rdl xs.toList)) [] S [(d,r)]:=b1o t u y z A B C E
section
variable (hg:Gd w0 U0 nt ops o gs S) (hd:o.dst=some d) (hn:Nat.blt d nt=true) (h5:Nat.blt d 100000=true)
include hg hd hn h5
theorem b4X {f:Nat} {xs ys:Array Operand} {cs:List CV} (ho:o.op = .makeFunc (.func f) xs ys) (hx:Y3 S (xs.toList++ys.toList)=some cs) (hk:a4t cs=true):AOp P w0 U0 nt ops o (gs++rdl (xs.toList++ys.toList)) [] S [(d,.val (.fn f xs.size cs))]:=
 d9 hg hd hn h5 (fun k hk=>List.mem_append_left _ hk) fun s hs a w D hv hm=>by
  have hargs:=E7 hm (fun k hk=>hs k (List.mem_append_right _ hk)) hx
  rw [List.map_append] at hargs
  refine ⟨.func (.func f) (xs.toList.map a.eval).toArray (ys.toList.map a.eval).toArray,?_,k8 (a1h.2 ⟨_,_,rfl,by simp,a7M (S8 hk) hargs,S8 hk⟩)⟩
  have e1:(xs.toList.map a.eval).toArray=xs.map a.eval:=by apply Array.ext';simp
  have e2:(ys.toList.map a.eval).toArray=ys.map a.eval:=by apply Array.ext';simp
  rw [e1,e2]
  generalize a.eval=ρ
  simp [execOp,ho,Instr.makeFunc]
theorem v8 {x:Operand} {ty:TypeId} {ds:TypeDesc} {z:Nat} {c:CV} {n q p} (ho:o.op = .load ty x) (hu:P.underlying ty=some ds) (hi:(P.info? ty).map (·.size)=some z) (hx:ev S x=some ⟨0,.ptr c,n,q,p⟩) (hk:R6 ds=Nat.beq c.k 2) (hz:c.size=z):AOp P w0 U0 nt ops o (gs++rd x) [] S [(d,.val c)]:=
 d9 hg hd hn h5 (fun k hk=>List.mem_append_left _ hk) fun s hs a w D hv hm=>by
  have h0:=A0 hm (fun k hk=>hs k (List.mem_append_right _ hk)) hx
  obtain ⟨b,off,xs,h1,h2,h3⟩:∃ b off xs,a.eval x = .pointer (some ⟨b,off,none⟩)∧Rep (Us w0 U0 D) w c xs∧∀ i,i<xs.length→Us w0 U0 D b (off+i)∧w.cell? ⟨b,off+i,none⟩=xs[i]?:=a0L.1 h0
  obtain ⟨v,h4,h6,_⟩:=B2 hu hi hk hz h2 (fun i hi=>(h3 i hi).2)
  refine ⟨v,?_,k8 h6⟩
  generalize a.eval=ρ at h1 ⊢
  simp [execOp,ho,Instr.loadAt,Instr.sureAddr,h1,h4]
theorem c1k {x y:Operand} {ts:Array TypeId} {k:IntKind} {i j:Int} {n q p n' q' p'} (ho:o.op = .call { callee := .builtin .max,args := #[x,y],argTypes:=ts }) (hx:ev S x=some ⟨0,.sc (.int k i),n,q,p⟩) (hy:ev S y=some ⟨0,.sc (.int k j),n',q',p'⟩):AOp P w0 U0 nt ops o (gs++(rd x++rd y)) [] S [(d,.val (.sc (.int k (max i j))))]:=
 d9 hg hd hn h5 (fun k hk=>List.mem_append_left _ hk) fun s hs a w D hv hm=>by
  have e1:=s9 hm (fun k hk=>hs k (List.mem_append_right _ (List.mem_append_left _ hk))) hx
  have e2:=s9 hm (fun k hk=>hs k (List.mem_append_right _ (List.mem_append_right _ hk))) hy
  refine ⟨.int k (max i j),?_,p7 rfl⟩
  have e3:(if j>i then j else i)=max i j:=by split<;>omega
  generalize a.eval=ρ at e1 e2 ⊢
  simp [execOp,ho,resolve,invoke,builtin,Builtin.max_,Builtin.max2,e1,e2]
  exact e3
omit hg hd hn h5 in
theorem a6q {U:Nat→Nat→Prop} {l:List CV} {ao:Option Addr} {m cap z lo hi:Nat} (hz:∀ c∈l,c.size=z) (h:VRep U w (.lst l) (.slice ao m cap)) (h1:lo≤hi) (h2:hi≤l.length):VRep U w (.lst ((l.drop lo).take (hi-lo))) (.slice (if cap=lo then ao else ao.map (·.add (lo*z))) (hi-lo) (cap-lo)):=by
 obtain ⟨ao',m',cap',e,e2,e3,e4,e5,ys,e6,e7⟩:=j5.1 h
 injection e with e8 e9 e10
 subst e8;subst e9;subst e10
 have hsplit:l=l.take lo++((l.drop lo).take (hi-lo)++(l.drop lo).drop (hi-lo)):=by rw [List.take_append_drop,List.take_append_drop]
 have e7':=e7
 rw [hsplit,List.map_append,List.map_append] at e7'
 obtain ⟨y1,y2,f1,f2,f3⟩:=t9 e7'
 obtain ⟨z1,z2,f4,f5,f6⟩:=t9 f3
 have hy1:y1.length=lo*z:=by rw [C5 (n:=CV.size) (fun c _ xs h=>h.len) f2,r5 (fun c hc=>hz c (List.mem_of_mem_take hc)),List.length_take,Nat.min_eq_left (by omega)]
 refine j5.2 ⟨_,hi-lo,cap-lo,rfl,by simp;omega,by omega,by omega,?_,z1,?_,f5⟩
 ·intro hn
  split at hn
  ·have:=e5 hn;omega
  ·cases ao with
   | none=>have:=e5 rfl;omega
   | some a=>cases hn
 ·rcases e6 with e6 | ⟨b,off,rfl,hc⟩
  ·left
   have:=congrArg List.length f1
   rw [e6,f4] at this
   simp at this
   exact List.eq_nil_of_length_eq_zero (by omega)
  ·by_cases hz1:z1=[]
   ·exact .inl hz1
   ·right
    have hne:cap≠lo:=fun e=>by
     have:(l.drop lo).take (hi-lo)=[]:=by
      rw [show hi-lo=0 by omega];rfl
     rw [this] at f5
     exact hz1 f5
    refine ⟨b,off+lo*z,?_,fun i hi'=>?_⟩
    ·rw [if_neg hne]
     simp [Addr.add]
    ·have:=hc (y1.length+i) (by rw [f1,f4];simp;omega)
     rw [f1,f4,List.getElem?_append_right (by omega),show y1.length+i-y1.length=i by omega,List.getElem?_append_left hi'] at this
     rw [Nat.add_assoc,←hy1]
     exact this
omit hg hd hn h5 in
theorem w9 {k:IntKind} {j y:Nat} {code:BoundsCode} (h:j≤y):(Instr.sliceBound (.int k (j:Int)) y code).run P w = .ok j w:=by
 have:(0:Int)≤(j:Int)∧(j:Int)≤(y:Int):=⟨by omega,by omega⟩
 simp [Instr.sliceBound,asIntOf,h]
theorem b9l {x y:Operand} {t e:TypeId} {z:Nat} {l:List CV} {k:IntKind} {i:Int} {lo:Nat} {n q p n' q' p'} (ho:o.op = .slice t x (some y) none none) (hu:P.underlying t=some (.slice e)) (hi:(P.info? e).map (·.size)=some z) (hx:ev S x=some ⟨0,.lst l,n,q,p⟩) (hy:ev S y=some ⟨0,.sc (.int k i),n',q',p'⟩) (hij:i=(lo:Int)) (hlo:lo≤l.length) (hz:∀ c∈l,c.size=z):AOp P w0 U0 nt ops o (gs++(rd x++rd y)) [] S [(d,.val (.lst (l.drop lo)))]:=
 d9 hg hd hn h5 (fun k hk=>List.mem_append_left _ hk) fun s hs a w D hv hm=>by
  have hv:=A0 hm (fun k hk=>hs k (List.mem_append_right _ (List.mem_append_left _ hk))) hx
  have e2:=s9 hm (fun k hk=>hs k (List.mem_append_right _ (List.mem_append_right _ hk))) hy
  obtain ⟨ao,m,cap,h1,h2,h3,_⟩:=j5.1 hv
  rw [h1] at hv
  have hcut:=a6q hz hv (lo:=lo) (hi:=l.length) hlo (Nat.le_refl _)
  rw [List.take_of_length_le (by simp)] at hcut
  have hsz:(sizeOf e).run P w = .ok z w:=by
   cases hi':P.info? e with
   | none=>rw [hi'] at hi;simp at hi
   | some i=>rw [hi'] at hi;simp at hi;simp [sizeOf,typeInfo,hi',hi]
  subst hij
  refine ⟨_,?_,k8 hcut⟩
  have hb:=w9 (P:=P) (w:=w) (k:=k) (j:=lo) (y:=l.length) (code := .sliceB) hlo
  subst h2
  generalize a.eval=ρ at h1 e2 ⊢
  simp [execOp,ho,Instr.sliceAt,Instr.slice,run_underlying hu,h1,e2,Instr.sliceBounds,hb,hsz]
theorem b9r {x y:Operand} {t e:TypeId} {z:Nat} {l:List CV} {k:IntKind} {i:Int} {hi':Nat} {n q p n' q' p'} (ho:o.op = .slice t x none (some y) none) (hu:P.underlying t=some (.slice e)) (hi:(P.info? e).map (·.size)=some z) (hx:ev S x=some ⟨0,.lst l,n,q,p⟩) (hy:ev S y=some ⟨0,.sc (.int k i),n',q',p'⟩) (hij:i=(hi':Int)) (hhi:hi'≤l.length) (hz:∀ c∈l,c.size=z):AOp P w0 U0 nt ops o (gs++(rd x++rd y)) [] S [(d,.val (.lst (l.take hi')))]:=
 d9 hg hd hn h5 (fun k hk=>List.mem_append_left _ hk) fun s hs a w D hv hm=>by
  have hv:=A0 hm (fun k hk=>hs k (List.mem_append_right _ (List.mem_append_left _ hk))) hx
  have e2:=s9 hm (fun k hk=>hs k (List.mem_append_right _ (List.mem_append_right _ hk))) hy
  obtain ⟨ao,m,cap,h1,h2,h3,_⟩:=j5.1 hv
  rw [h1] at hv
  have hcut:=a6q hz hv (lo:=0) (hi:=hi') (Nat.zero_le _) hhi
  rw [List.drop_zero,Nat.sub_zero,Nat.sub_zero] at hcut
  have hsz:(sizeOf e).run P w = .ok z w:=by
   cases hi':P.info? e with
   | none=>rw [hi'] at hi;simp at hi
   | some i=>rw [hi'] at hi;simp at hi;simp [sizeOf,typeInfo,hi',hi]
  subst hij
  refine ⟨_,?_,k8 hcut⟩
  have hb:=w9 (P:=P) (w:=w) (k:=k) (j:=hi') (y:=cap) (code := .sliceAcap) (by omega)
  generalize a.eval=ρ at h1 e2 ⊢
  simp [execOp,ho,Instr.sliceAt,Instr.slice,run_underlying hu,h1,e2,Instr.sliceBounds,hb,hsz]
end
theorem zB {P:Program} {w0:World} {U0:UX} {nt:Nat} {ops:Array Oper} {o:Oper} {S:Nat→Option AV} {gs:List Nat} {d:Nat} {f:Nat} {xs:Array Operand} {ys:Array Operand} {cs:List CV} (p:Gd w0 U0 nt ops o gs S:=by exact gN rfl) (q:o.dst=some d:=by exact rfl) (r:Nat.blt d nt=true:=by exact rfl) (t:Nat.blt d 100000=true:=by exact rfl) (u:o.op = .makeFunc (.func f) xs ys:=by exact rfl) (v:Y3 S (xs.toList++ys.toList)=some cs:=by exact rfl) (x:a4t cs=true:=by exact rfl):AOp P w0 U0 nt ops o (gs++rdl (xs.toList++ys.toList)) [] S [(d,.val (.fn f xs.size cs))]:=b4X p q r t u v x
theorem zbv {P:Program} {w0:World} {U0:UX} {nt:Nat} {ops:Array Oper} {o:Oper} {S:Nat→Option AV} {gs:List Nat} {d:Nat} {x:Operand} {y:Operand} {ts:Array TypeId} {k:IntKind} {i:Int} {j:Int} {n} {q} {p} {n'} {q'} {p'} (r:Gd w0 U0 nt ops o gs S:=by exact gN rfl) (t:o.dst=some d:=by exact rfl) (u:Nat.blt d nt=true:=by exact rfl) (v:Nat.blt d 100000=true:=by exact rfl) (z:o.op = .call { callee := .builtin .max,args := #[x,y],argTypes:=ts }:=by exact rfl) (A:ev S x=some ⟨0,.sc (.int k i),n,q,p⟩:=by exact rfl) (B:ev S y=some ⟨0,.sc (.int k j),n',q',p'⟩:=by exact rfl):AOp P w0 U0 nt ops o (gs++(rd x++rd y)) [] S [(d,.val (.sc (.int k (max i j))))]:=c1k r t u v z A B
theorem zbz {P:Program} {w0:World} {U0:UX} {nt:Nat} {ops:Array Oper} {o:Oper} {S:Nat→Option AV} {gs:List Nat} {d:Nat} {x:Operand} {y:Operand} {t:TypeId} {e:TypeId} {z:Nat} {l:List CV} {k:IntKind} {i:Int} {lo:Nat} {n} {q} {p} {n'} {q'} {p'} (r:Gd w0 U0 nt ops o gs S:=by exact gN rfl) (u:o.dst=some d:=by exact rfl) (v:Nat.blt d nt=true:=by exact rfl) (A:Nat.blt d 100000=true:=by exact rfl) (B:o.op = .slice t x (some y) none none:=by exact rfl) (C:P.underlying t=some (.slice e):=by exact rfl) (E:(P.info? e).map (·.size)=some z:=by exact rfl) (F:ev S x=some ⟨0,.lst l,n,q,p⟩:=by exact rfl) (G:ev S y=some ⟨0,.sc (.int k i),n',q',p'⟩:=by exact rfl) (H:i=(lo:Int):=by exact rfl) (hlo:lo≤l.length:=by omega) (hz:∀ c∈l,c.size=z:=by first | assumption | exact sZ rfl | exact Tm.size_all _ | exact Bd.size_all _ | exact i7 _ | exact bys_size _ | exact Lt.size_all _):AOp P w0 U0 nt ops o (gs++(rd x++rd y)) [] S [(d,.val (.lst (l.drop lo)))]:=b9l r u v A B C E F G H hlo hz
theorem zbE {P:Program} {w0:World} {U0:UX} {nt:Nat} {ops:Array Oper} {o:Oper} {S:Nat→Option AV} {gs:List Nat} {d:Nat} {x:Operand} {ty:TypeId} {ds:TypeDesc} {z:Nat} {c:CV} {n} {q} {p} (r:Gd w0 U0 nt ops o gs S:=by exact gN rfl) (t:o.dst=some d:=by exact rfl) (u:Nat.blt d nt=true:=by exact rfl) (y:Nat.blt d 100000=true:=by exact rfl) (A:o.op = .load ty x:=by exact rfl) (B:P.underlying ty=some ds:=by exact rfl) (C:(P.info? ty).map (·.size)=some z:=by exact rfl) (E:ev S x=some ⟨0,.ptr c,n,q,p⟩:=by exact rfl) (F:R6 ds=Nat.beq c.k 2:=by exact rfl) (G:c.size=z:=by exact rfl):AOp P w0 U0 nt ops o (gs++rd x) [] S [(d,.val c)]:=v8 r t u y A B C E F G
theorem zbM {P:Program} {w0:World} {U0:UX} {nt:Nat} {ops:Array Oper} {o:Oper} {S:Nat→Option AV} {gs:List Nat} {d:Nat} {x:Operand} {y:Operand} {t:TypeId} {e:TypeId} {z:Nat} {l:List CV} {k:IntKind} {i:Int} {hi':Nat} {n} {q} {p} {n'} {q'} {p'} (r:Gd w0 U0 nt ops o gs S:=by exact gN rfl) (u:o.dst=some d:=by exact rfl) (v:Nat.blt d nt=true:=by exact rfl) (A:Nat.blt d 100000=true:=by exact rfl) (B:o.op = .slice t x none (some y) none:=by exact rfl) (C:P.underlying t=some (.slice e):=by exact rfl) (E:(P.info? e).map (·.size)=some z:=by exact rfl) (F:ev S x=some ⟨0,.lst l,n,q,p⟩:=by exact rfl) (G:ev S y=some ⟨0,.sc (.int k i),n',q',p'⟩:=by exact rfl) (H:i=(hi':Int):=by exact rfl) (hhi:hi'≤l.length:=by omega) (hz:∀ c∈l,c.size=z:=by first | assumption | exact sZ rfl | exact Tm.size_all _ | exact Bd.size_all _ | exact i7 _ | exact bys_size _ | exact Lt.size_all _):AOp P w0 U0 nt ops o (gs++(rd x++rd y)) [] S [(d,.val (.lst (l.take hi')))]:=b9r r u v A B C E F G H hhi hz
theorem SimG.moreD (h:SimG w0 U0 nt s a w D hv) {g:Nat} (hg:g<w.heap.size) (hno:∀ k av,look s k=some av→k9 k→av.t≠7→hb (hv k)≠some g):SimG w0 U0 nt s a w (fun b o=>D b o∨b=g) hv:=by
 have hkeep:∀ b o v,Us w0 U0 D b o→w.cell? ⟨b,o,none⟩=some v→Us w0 U0 (fun b o=>D b o∨b=g) b o∧w.cell? ⟨b,o,none⟩=some v:=fun b o v hu hc=>⟨hu.imp id fun h=>⟨h.1,.inl h.2⟩,hc⟩
 refine ⟨h.below,h.dfr,h.size,fun d av h1 h2=>?_,fun m o av h1 h2 h3 h4=>?_,h.fdis,fun k av h1 h2=>?_,fun k av g' h1 h2 h3 h4=>?_,h.disj,h.fix,fun b o hd=>?_⟩
 ·obtain ⟨v,h3,h4⟩:=h.slot d av h1 h2
  exact ⟨v,h3,h4.keep hkeep⟩
 ·obtain ⟨v,h5,h6⟩:=h.fld m o av h1 h2 h3 h4
  exact ⟨v,h5.keep hkeep,h6⟩
 ·exact (h.obj k av h1 h2).move hkeep (fun _ h3=>⟨h3,rfl⟩) fun _ _=>rfl
 ·obtain ⟨f1,f2,f3⟩:=h.blk k av g' h1 h2 h3 h4
  refine ⟨f1,f2,fun o ho hd=>?_⟩
  rcases hd with hd | hd
  ·exact f3 o ho hd
  ·exact hno k av h1 h2 h3 (by rw [h4,hd])
 ·rcases hd with hd | hd
  ·exact h.dlt b o hd
  ·rw [hd];exact hg
theorem SimG.know (h:SimG w0 U0 nt s a w D hv) {d:Nat} {av:AV} {v:Value} (h5:d<100000) (hv1:a.tmps[d]?=some v) (hav:AVRep (Us w0 U0 D) w hv (a8 s) av v):SimG w0 U0 nt ((d,av)::s) a w D hv:=by
 have hlt:d<nt:=by
  rw [←h.size]
  rcases Nat.lt_or_ge d a.tmps.size with h1 | h1
  ·exact h1
  ·rw [Array.getElem?_eq_none h1] at hv1;cases hv1
 have:=h.put hlt h5 hav
 have e:a.put (some d) v=a:=by
  have:a.tmps.setIfInBounds d v=a.tmps:=by
   apply Array.ext_getElem?
   intro i
   rw [Array.getElem?_setIfInBounds]
   split
   ·rename_i e
    subst e
    rw [if_pos (by rw [h.size];exact hlt),hv1]
   ·rfl
  show { a with tmps:=a.tmps.setIfInBounds d v }=a
  rw [this]
 rw [e] at this
 exact this
theorem N2 (n:Nat) {c:CV} {k q p v l q1} (hb:look s (100000+n)=some ⟨5,c,k,q,p⟩) (hs:look s n=some ⟨2,⟨q1,v,l⟩,n,0,[]⟩) (hn5:Nat.blt n 100000=true) {s':AS} (hsub:SubL s s') (hk:W7 s' (100000+n)=true) (hk2:W7 s' n=true) (hr:D7 s' [(n,[])]=true):Wk w0 U0 nt s ((n,.val (.ptr c))::s'):=by
 rintro a w ⟨D,hv,h⟩
 have hn:=bL hn5
 obtain ⟨g,xs,ty,g0,g1,g2,g5⟩:=h.box hb (by omega)
 obtain ⟨v',g6,g7⟩:=h.slot n _ hs hn
 have g7:v' = .pointer (some ⟨o0 (hv (100000+n)),0,none⟩):=g7.2
 have hgb:Go.Proofs.YtglmoficcjphaaaGreat.hb (hv (100000+n))=some g:=by rw [g0];rfl
 have hgb2:o0 (hv (100000+n))=g:=by rw [g0];rfl
 rw [hgb2] at g7
 have hsub:=hsub.sub
 obtain ⟨f1,f2,f3⟩:=h.blk (100000+n) _ g hb ⟨by omega,by omega⟩ (by simp) hgb
 have nokey:∀ {t:AS} {m:Nat},W7 t m=true→∀ av,look t m≠some av:=fun {t m} h1 av h2=>by
  have h3:=C9 h2
  unfold W7 at h1
  rw [List.all_eq_true] at h1
  have:=h1 _ h3
  simp at this
 have hnob:∀ av,look s' (100000+n)≠some av:=nokey hk
 have h2:=(h.sub hsub).moreD (g:=g) f2 fun k av h3 h4 h5 h6=>h.disj (100000+n) k _ av g hb (hsub _ _ h3) ⟨by omega,by omega⟩ h4 (by simp) h5 (fun e=>hnob av (e▸h3)) hgb h6
 rcases f1 with f1 | f1
 ·refine ⟨_,hv,h2.know hn g6 (k8 ?_)⟩
  rw [g7]
  refine a0L.2 ⟨g,0,xs,rfl,g2.keep fun b o v hu hc=>⟨hu.imp id fun h=>⟨h.1,.inl h.2⟩,hc⟩,fun i hi=>⟨.inr ⟨f1,.inr rfl⟩,?_⟩⟩
  have:=E3 (ys:=[]) (us:=[]) g1 (by simp) i hi
  simpa using this
 ·exact absurd (a1b (by omega) _) f1.1
end
section
variable {P:Program} {w0:World} {U0:UX} {nt:Nat} {ops:Array Oper} {o:Oper} {S:Nat→Option AV} {gs:List Nat} {d:Nat} {s:AS} {a:Act} {w:World} {D:Nat→Nat→Prop} {hv:Nat→Value}
theorem a1H (w:World) (o:Obj):w.grownBy (w.alloc o) none:=⟨rfl,rfl,rfl,by simp,fun k hk _=>Below.heap_alloc _ _ _ hk⟩
theorem SimG.lit (h:SimG w0 U0 nt s a w D hv) (hd:d<nt) (h5:d<100000) {n e z len:Nat} (hn:RW n) (hr:U4 s n) (hz:0<z) (hlen:len≤maxLen) {r:Array Value} (hrs:r.size=len*z) {cs:List CV} (hcl:cs.length=len) (hsq:Sq (cs.map fun c=>Rep (Us w0 U0 D) w c) r.toList) :
  Sim w0 U0 nt ((d,.own (.lst cs) n)::(n,.tok e z)::s) (a.put (some d) (.slice (some ⟨w.heap.size,0,none⟩) len len)) (w.alloc (.cells r e)):=by
 have hb:Below w.heap.size w (w.alloc (.cells r e)):=(Below.refl _ _).alloc (Nat.le_refl _) _
 have ho:(w.alloc (.cells r e)).ownsRow 0 e z (.slice (some ⟨w.heap.size,0,none⟩) len len) (0+len) ([]++r.toList):=by
  refine ⟨by simp [hrs],.inr ⟨w.heap.size,len,r,by simp,Nat.zero_le _,s5 _ _,by simp,hlen,hrs,?_⟩⟩
  rw [Nat.zero_add,List.nil_append,List.take_of_length_le (by simp [hrs])]
 obtain ⟨s1,s2⟩:=h.app (v := .slice none 0 0) hn hr (World.ownsRow_nil _ _ e z) hz (fun g hg=>by cases hg) ho (a1H w _) (.inr ⟨a1H w _,fun g hg=>by cases hg;exact Nat.le_refl _⟩)
 refine ⟨_,_,s1.put hd h5 ⟨?_,fun _=>?_⟩⟩
 ·refine j5.2 ⟨_,len,len,rfl,hcl.symm,Nat.le_refl _,hlen,(fun h=>by cases h),r.toList,?_,hsq.keep s2⟩
  have:=At.new (U:=Us w0 U0 (Da D (.slice (some ⟨w.heap.size,0,none⟩) len len) ((0+len)*z))) w r.toList e (fun i hi => .inr ⟨h.below.size,.inr ⟨rfl,by rw [Nat.zero_add,←hrs];simpa using hi⟩⟩)
  rw [Array.toArray_toList] at this
  exact this
 ·refine ⟨0,.lst cs,rfl,?_⟩
  unfold G9
  rw [if_neg (by show n≠1;unfold RW at hn;omega)]
  simp [Value.cells]
theorem b1T (hg:Gd w0 U0 nt ops o gs S) (hd:o.dst=some d) (hn:Nat.blt d nt=true) (h5:Nat.blt d 100000=true) {t e:TypeId} {ie:TypeInfo} {sz:Nat} (ho:o.op = .buildSlice t 0 #[]) (hu:P.underlying t=some (.slice e)) (hi:P.info? e=some ie) (hsz0:ie.size=sz) (hp:Nat.blt 0 sz=true) :
  AOp P w0 U0 nt ops o gs [(300000+d,[])] S [(d,.own (.lst []) (300000+d)),(300000+d,.tok e sz)]:=by
 subst hsz0
 intro s hs hN a w ⟨D,hv,h⟩ Q K hK
 rw [if_pos (hg s hs a w D hv h)]
 have he:(execOp a.eval o).run P w = .ok (.value (.slice (some ⟨w.heap.size,0,none⟩) 0 0)) (w.alloc (.cells #[] e)):=by
  simp [execOp,ho,Instr.buildSlice,run_underlying hu,sizeOf,typeInfo,hi,Instr.fill,newRow]
  congr 2
  apply Array.ext'
  simp
 unfold Oper.wp
 rw [he,Oper.upon_value,hd]
 exact hK _ _ (h.lit (bL hn) (bL h5) ⟨by omega,by have:=bL h5;omega⟩ (hN (300000+d,[]) (by simp)).nr (bL hp) (by unfold maxLen;omega) (by simp) rfl rfl)
theorem zS {P:Program} {w0:World} {U0:UX} {nt:Nat} {ops:Array Oper} {o:Oper} {S:Nat→Option AV} {gs:List Nat} {d:Nat} {t:TypeId} {e:TypeId} {ie:TypeInfo} {sz:Nat} (p:Gd w0 U0 nt ops o gs S:=by exact gN rfl) (q:o.dst=some d:=by exact rfl) (r:Nat.blt d nt=true:=by exact rfl) (u:Nat.blt d 100000=true:=by exact rfl) (v:o.op = .buildSlice t 0 #[]:=by exact rfl) (x:P.underlying t=some (.slice e):=by exact rfl) (y:P.info? e=some ie:=by exact rfl) (z:ie.size=sz:=by exact rfl) (A:Nat.blt 0 sz=true:=by exact rfl):AOp P w0 U0 nt ops o gs [(300000+d,[])] S [(d,.own (.lst []) (300000+d)),(300000+d,.tok e sz)]:=b1T p q r u v x y z A
end
end Go.Proofs.YtglmoficcjphaaaGreat
namespace Go.Proofs.YtglmoficcjphaaaGreat
set_option linter.unusedVariables false
structure Tm where
 f:Int
 l:List Tm
def Tm.ps (t:Tm):List Tm:=if t.f<0 then [] else t.l
theorem Tm.ind {P:Tm→Prop} (h:∀ f l,(∀ t∈l,P t)→P (.mk f l)):∀ t,P t:=by
 intro t
 induction hn:SizeOf.sizeOf t using Nat.strongRecOn generalizing t with
 | ind n ih =>
  cases t with
  | mk f l =>
   refine h f l fun s hs=>ih (SizeOf.sizeOf s) ?_ s rfl
   have:=List.sizeOf_lt_of_mem hs
   simp at hn
   omega
theorem Tm.ps_mem {t s:Tm} (h:s∈t.ps):s∈t.l∧0≤t.f:=by
 unfold Tm.ps at h
 split at h
 ·cases h
 ·exact ⟨h,by omega⟩
theorem Tm.ps_of_var {t:Tm} (h:t.f<0):t.ps=[]:=if_pos h
theorem Tm.ps_of_sym {t:Tm} (h:0≤t.f):t.ps=t.l:=if_neg (by omega)
theorem Tm.indp {P:Tm→Prop} (h:∀ t,(∀ s∈t.ps,P s)→P t):∀ t,P t:=
 Tm.ind fun f l ih=>h _ fun s hs=>ih s (Tm.ps_mem hs).1
def Tm.flat:Tm→List Tm
 | ⟨f,l⟩=>⟨f,l⟩::(if f<0 then [] else (l.map Tm.flat).flatten)
theorem Tm.flat_eq (t:Tm):t.flat=t::t.ps.flatMap Tm.flat:=by
 cases t with
 | mk f l =>
  rw [Tm.flat,←List.flatMap_def]
  unfold Tm.ps
  simp only
  by_cases h:f<0<;>simp [h]
def Tm.size (t:Tm):Nat:=t.flat.length
theorem Tm.size_eq (t:Tm):t.size=1+(t.ps.flatMap Tm.flat).length:=by
 unfold Tm.size
 rw [Tm.flat_eq,List.length_cons]
 omega
theorem Q4 {α β:Type} (g:α→List β) {l:List α} {x:α} (h:x∈l):(g x).length≤(l.flatMap g).length:=by
 induction l with
 | nil=>cases h
 | cons y ys ih =>
  rw [List.flatMap_cons,List.length_append]
  rcases List.mem_cons.1 h with rfl | h
  ·omega
  ·have:=ih h;omega
theorem Tm.size_pos (t:Tm):1≤t.size:=by rw [Tm.size_eq];omega
theorem Tm.size_part {t s:Tm} (h:s∈t.ps):s.size<t.size:=by
 have:=Q4 Tm.flat h
 rw [t.size_eq]
 unfold Tm.size
 omega
theorem Tm.len_ps (t:Tm):t.ps.length<t.size:=by
 rw [t.size_eq]
 have:∀ l:List Tm,l.length≤(l.flatMap Tm.flat).length:=by
  intro l
  induction l with
  | nil=>simp
  | cons y ys ih =>
   have:=y.size_pos
   unfold Tm.size at this
   rw [List.flatMap_cons,List.length_append,List.length_cons]
   omega
 have:=this t.ps
 omega
def Tm.strip:Tm→Tm
 | ⟨f,l⟩=>⟨f,if f<0 then [] else l.map Tm.strip⟩
theorem Tm.strip_eq (t:Tm):t.strip = .mk t.f (t.ps.map Tm.strip):=by
 cases t with
 | mk f l =>
  rw [Tm.strip]
  unfold Tm.ps
  simp only
  by_cases h:f<0<;>simp [h]
theorem Tm.strip_f (t:Tm):t.strip.f=t.f:=by rw [Tm.strip_eq]
theorem Tm.strip_l (t:Tm):t.strip.l=t.ps.map Tm.strip:=by rw [Tm.strip_eq]
theorem Tm.strip_ps (t:Tm):t.strip.ps=t.ps.map Tm.strip:=by
 unfold Tm.ps
 rw [Tm.strip_f,Tm.strip_l]
 split
 ·rfl
 ·unfold Tm.ps;rw [if_neg (by assumption)]
theorem Tm.strip_strip (t:Tm):t.strip.strip=t.strip:=by
 induction t using Tm.indp with
 | h t ih =>
  rw [Tm.strip_eq t.strip,Tm.strip_f,Tm.strip_ps,List.map_map,Tm.strip_eq t]
  congr 1
  exact List.map_congr_left fun s hs=>ih s hs
theorem Tm.strip_size (t:Tm):t.strip.size=t.size:=by
 induction t using Tm.indp with
 | h t ih =>
  rw [Tm.size_eq,Tm.size_eq,Tm.strip_ps]
  congr 1
  have:∀ l:List Tm,(∀ s∈l,s.strip.size=s.size)→((l.map Tm.strip).flatMap Tm.flat).length=(l.flatMap Tm.flat).length:=by
   intro l hl
   induction l with
   | nil=>rfl
   | cons y ys ih2 =>
    have h1:=hl y (by simp)
    unfold Tm.size at h1
    rw [List.map_cons,List.flatMap_cons,List.flatMap_cons,List.length_append,List.length_append,h1,ih2 (fun s hs=>hl s (List.mem_cons_of_mem _ hs))]
  exact this _ ih
end Go.Proofs.YtglmoficcjphaaaGreat
namespace Go.Proofs.YtglmoficcjphaaaGreat
open Go.RowKit
set_option linter.unusedVariables false
noncomputable def Tm.cv (t:Tm):CV:=Tm.rec (motive_1:=fun _=>CV) (motive_2:=fun _=>List CV) (fun f _ ih => .row [.i f,.lst ih]) [] (fun _ _ a b=>a::b) t
noncomputable abbrev Tm.cw (t:Tm):CV := .row [.i t.f,.lst (t.l.map Tm.cv)]
theorem Tm.cv_eq (t:Tm):t.cv=t.cw:=by
 cases t with
 | mk f l =>
  have hl:∀ l:List Tm,Tm.rec_1 (motive_1:=fun _=>CV) (motive_2:=fun _=>List CV) (fun f _ ih => .row [.i f,.lst ih]) [] (fun _ _ a b=>a::b) l=l.map Tm.cv:=by
   intro l
   induction l with
   | nil=>rfl
   | cons c cs ih=>rw [List.map_cons,←ih];rfl
  show CV.row [.i f,.lst _]=CV.row [.i f,.lst _]
  rw [←hl]
theorem Tm.size_cv (t:Tm):t.cv.size=2:=by rw [Tm.cv_eq];rfl
theorem Tm.size_all (l:List Tm):∀ c∈l.map Tm.cv,c.size=2:=by
 intro c hc
 obtain ⟨t,_,rfl⟩:=List.mem_map.1 hc
 exact t.size_cv
theorem Tm.map_at {l:List Tm} {i:Nat} {t:Tm} (h:l[i]?=some t):(l.map Tm.cv)[i]?=some t.cw:=by rw [List.getElem?_map,h,Option.map_some,Tm.cv_eq]
def Tm.ok:Tm→Prop
 | ⟨f,l⟩=>l.length≤10000000000∧∀ t∈l,Tm.ok t
theorem Tm.ok_iff (t:Tm):t.ok↔t.l.length≤10000000000∧∀ s∈t.l,s.ok:=by cases t;rw [Tm.ok]
set_option maxHeartbeats 1000000 in
theorem i7 (l:List Int):∀ c∈l.map CV.i,c.size=1:=by
 intro c hc
 obtain ⟨z,_,rfl⟩:=List.mem_map.1 hc
 rfl
def Cu (U:Nat→Prop) (w:World) (a:Option Addr) (xs:List Value):Prop:=
 xs=[]∨∃ b off,a=some ⟨b,off,none⟩∧U b∧b<w.heap.size∧∀ i,i<xs.length→w.cell? ⟨b,off+i,none⟩=xs[i]?
def c0c:List (Int×(Option Addr→Nat→Nat→Prop))→List Value→Prop
 | [],xs=>xs=[]
 | t::ts,xs=>∃ a n c ys,xs = .int .i64 t.1 :: .slice a n c::ys∧t.2 a n c∧c0c ts ys
def Tat (U:Nat→Prop) (w:World):Tm→Option Addr→Nat→Nat→Prop
 | ⟨f,l⟩,a,n,c=>(-9223372036854775808≤f∧f≤9223372036854775807)∧(n=l.length∧n≤c∧c≤maxLen∧(a=none→n=0∧c=0)∧∃ xs,Cu U w a xs∧c0c (l.map fun s=>(s.f,fun a n c=>Tat U w s a n c)) xs)
def Ecs (U:Nat→Prop) (w:World) (l:List Tm) (xs:List Value):Prop:=c0c (l.map fun s=>(s.f,fun a n c=>Tat U w s a n c)) xs
def Las (U:Nat→Prop) (w:World) (l:List Tm) (a:Option Addr) (n c:Nat):Prop:=
 n=l.length∧n≤c∧c≤maxLen∧(a=none→n=0∧c=0)∧∃ xs,Cu U w a xs∧Ecs U w l xs
theorem R1 {U:Nat→Prop} {w:World} {t:Tm} {a:Option Addr} {n c:Nat}:Tat U w t a n c↔(-9223372036854775808≤t.f∧t.f≤9223372036854775807)∧Las U w t.l a n c:=by
 cases t with
 | mk f l=>rw [Tat];rfl
theorem Ecs.nil_iff {U:Nat→Prop} {w:World} {xs:List Value}:Ecs U w [] xs↔xs=[]:=Iff.rfl
theorem Ecs.cons_iff {U:Nat→Prop} {w:World} {t:Tm} {ts:List Tm} {xs:List Value}:Ecs U w (t::ts) xs↔∃ a n c ys,xs = .int .i64 t.f :: .slice a n c::ys∧Tat U w t a n c∧Ecs U w ts ys:=Iff.rfl
theorem Las.nil (U:Nat→Prop) (w:World):Las U w [] none 0 0:=⟨rfl,Nat.le_refl _,by unfold maxLen;omega,fun _=>⟨rfl,rfl⟩,[],.inl rfl,Ecs.nil_iff.2 rfl⟩
theorem Ecs.length {U:Nat→Prop} {w:World}:∀ {l:List Tm} {xs:List Value},Ecs U w l xs→xs.length=l.length*2
 | [],_,h=>by rw [Ecs.nil_iff.1 h];rfl
 | t::ts,_,h=>by
  obtain ⟨a,n,c,ys,rfl,_,h2⟩:=Ecs.cons_iff.1 h
  have:=Ecs.length h2
  simp only [List.length_cons]
  omega
theorem Ecs.one {U:Nat→Prop} {w:World}:∀ {l:List Tm} {xs:List Value},Ecs U w l xs→∀ u∈xs,u.oneCell'=true
 | [],_,h=>by rw [Ecs.nil_iff.1 h];simp
 | t::ts,_,h=>by
  obtain ⟨a,n,c,ys,rfl,_,h2⟩:=Ecs.cons_iff.1 h
  have:=Ecs.one h2
  intro u hu
  rcases List.mem_cons.1 hu with rfl | hu
  ·rfl
  ·rcases List.mem_cons.1 hu with rfl | hu
   ·rfl
   ·exact this u hu
theorem Ecs.at {U:Nat→Prop} {w:World}:∀ {l:List Tm} {xs:List Value},Ecs U w l xs→∀ {i:Nat},i<l.length→∃ s a n c,l[i]?=some s∧Tat U w s a n c∧xs[i*2]?=some (.int .i64 s.f)∧xs[i*2+1]?=some (.slice a n c)
 | [],_,h,i,hi=>by simp at hi
 | t::ts,_,h,i,hi=>by
  obtain ⟨a,n,c,ys,rfl,h1,h2⟩:=Ecs.cons_iff.1 h
  cases i with
  | zero=>exact ⟨t,a,n,c,rfl,h1,rfl,rfl⟩
  | succ i =>
   obtain ⟨s,a',n',c',e1,e2,e3,e4⟩:=Ecs.at h2 (i:=i) (by simpa using hi)
   refine ⟨s,a',n',c',by simpa using e1,e2,?_,?_⟩
   ·rw [show (i+1)*2=i*2+1+1 by omega];simpa using e3
   ·rw [show (i+1)*2+1=i*2+1+1+1 by omega];simpa using e4
theorem Ecs.append {U:Nat→Prop} {w:World}:∀ {l m:List Tm} {xs ys:List Value},Ecs U w l xs→Ecs U w m ys→Ecs U w (l++m) (xs++ys)
 | [],m,xs,ys,h,h2=>by rw [Ecs.nil_iff.1 h];exact h2
 | t::ts,m,xs,ys,h,h2=>by
  obtain ⟨a,n,c,zs,rfl,h1,h3⟩:=Ecs.cons_iff.1 h
  exact Ecs.cons_iff.2 ⟨a,n,c,zs++ys,rfl,h1,Ecs.append h3 h2⟩
theorem Ecs.single {U:Nat→Prop} {w:World} {t:Tm} {a:Option Addr} {n c:Nat} (h:Tat U w t a n c):Ecs U w [t] [.int .i64 t.f,.slice a n c]:=Ecs.cons_iff.2 ⟨a,n,c,[],rfl,h,Ecs.nil_iff.2 rfl⟩
theorem Ecs.take {U:Nat→Prop} {w:World}:∀ {l:List Tm} {xs:List Value},Ecs U w l xs→∀ (k:Nat),Ecs U w (l.take k) (xs.take (k*2))
 | [],_,h,k=>by rw [Ecs.nil_iff.1 h];simp [Ecs.nil_iff]
 | t::ts,_,h,0=>by simp [Ecs.nil_iff]
 | t::ts,_,h,k+1=>by
  obtain ⟨a,n,c,zs,rfl,h1,h3⟩:=Ecs.cons_iff.1 h
  rw [show (k+1)*2=k*2+1+1 by omega]
  exact Ecs.cons_iff.2 ⟨a,n,c,zs.take (k*2),rfl,h1,Ecs.take h3 k⟩
theorem Ecs.drop {U:Nat→Prop} {w:World}:∀ {l:List Tm} {xs:List Value},Ecs U w l xs→∀ (k:Nat),Ecs U w (l.drop k) (xs.drop (k*2))
 | [],_,h,k=>by rw [Ecs.nil_iff.1 h];simp [Ecs.nil_iff]
 | t::ts,_,h,0=>by simpa using h
 | t::ts,_,h,k+1=>by
  obtain ⟨a,n,c,zs,rfl,h1,h3⟩:=Ecs.cons_iff.1 h
  rw [show (k+1)*2=k*2+1+1 by omega]
  exact Ecs.drop h3 k
theorem Las.at {U:Nat→Prop} {w:World} {l:List Tm} {a:Option Addr} {n c:Nat} (h:Las U w l a n c) {i:Nat} (hi:i<n) :
  ∃ b off s a' n' c',a=some ⟨b,off,none⟩∧U b∧b<w.heap.size∧l[i]?=some s∧Tat U w s a' n' c'∧w.cell? ⟨b,off+i*2,none⟩=some (.int .i64 s.f)∧w.cell? ⟨b,off+i*2+1,none⟩=some (.slice a' n' c'):=by
 obtain ⟨h1,_,_,_,xs,h2,h3⟩:=h
 obtain ⟨s,a',n',c',e1,e2,e3,e4⟩:=h3.at (i:=i) (by omega)
 have hl:=h3.length
 rcases h2 with rfl | ⟨b,off,rfl,hu,hlt,hc⟩
 ·simp at e3
 ·refine ⟨b,off,s,a',n',c',rfl,hu,hlt,e1,e2,?_,?_⟩
  ·rw [hc (i*2) (by omega),e3]
  ·rw [Nat.add_assoc,hc (i*2+1) (by omega),e4]
theorem Z8 {w w':World} {b o:Nat} (h:w'.heap[b]?=w.heap[b]?):w'.cell? ⟨b,o,none⟩=w.cell? ⟨b,o,none⟩:=by simp [World.cell?,h]
theorem Cu.keep {U V:Nat→Prop} {w w':World} {a:Option Addr} {xs:List Value} (h:Cu U w a xs) (hs:∀ b,U b→b<w.heap.size→V b∧w'.heap[b]?=w.heap[b]?):Cu V w' a xs:=by
 rcases h with h | ⟨b,off,ha,hu,hlt,hc⟩
 ·exact .inl h
 ·obtain ⟨h1,h2⟩:=hs b hu hlt
  refine .inr ⟨b,off,ha,h1,?_,fun i hi=>?_⟩
  ·rw [Array.getElem?_eq_getElem hlt] at h2
   exact (Array.getElem?_eq_some_iff.1 h2).1
  ·rw [Z8 h2];exact hc i hi
theorem a3T {U V:Nat→Prop} {w w':World}:∀ {l:List Tm} {xs:List Value},(∀ t∈l,∀ a n c,Tat U w t a n c→Tat V w' t a n c)→Ecs U w l xs→Ecs V w' l xs
 | [],_,_,h=>h
 | t::ts,_,ht,h=>by
  obtain ⟨a,n,c,ys,h1,h2,h3⟩:=Ecs.cons_iff.1 h
  exact Ecs.cons_iff.2 ⟨a,n,c,ys,h1,ht t (by simp) a n c h2,a3T (fun s hs=>ht s (List.mem_cons_of_mem _ hs)) h3⟩
theorem Tat.keep {U V:Nat→Prop} {w w':World} (hs:∀ b,U b→b<w.heap.size→V b∧w'.heap[b]?=w.heap[b]?):∀ {t:Tm} {a:Option Addr} {n c:Nat},Tat U w t a n c→Tat V w' t a n c:=by
 intro t
 induction t using Tm.ind with
 | h f l ih =>
  intro a n c h
  rw [R1] at h ⊢
  obtain ⟨h1,h2,h3,h4,h5,xs,h6,h7⟩:=h
  exact ⟨h1,h2,h3,h4,h5,xs,h6.keep hs,a3T (fun s hs' a n c=>ih s hs') h7⟩
theorem Ecs.keep {U V:Nat→Prop} {w w':World} (hs:∀ b,U b→b<w.heap.size→V b∧w'.heap[b]?=w.heap[b]?) {l:List Tm} {xs:List Value} (h:Ecs U w l xs):Ecs V w' l xs:=a3T (fun s _ a n c h'=>h'.keep hs) h
theorem Las.keep {U V:Nat→Prop} {w w':World} (hs:∀ b,U b→b<w.heap.size→V b∧w'.heap[b]?=w.heap[b]?) {l:List Tm} {a:Option Addr} {n c:Nat} (h:Las U w l a n c):Las V w' l a n c:=by
 obtain ⟨h2,h3,h4,h5,xs,h6,h7⟩:=h
 exact ⟨h2,h3,h4,h5,xs,h6.keep hs,Ecs.keep hs h7⟩
theorem Tat.below {U:Nat→Prop} {B:Nat} {w w':World} (hb:Below B w w') (hU:∀ b,U b→b<w.heap.size→b<B) {t:Tm} {a:Option Addr} {n c:Nat} (h:Tat U w t a n c):Tat U w' t a n c:=
 h.keep fun b h1 h2=>⟨h1,hb.block b (hU b h1 h2)⟩
theorem Las.below {U:Nat→Prop} {B:Nat} {w w':World} (hb:Below B w w') (hU:∀ b,U b→b<w.heap.size→b<B) {l:List Tm} {a:Option Addr} {n c:Nat} (h:Las U w l a n c):Las U w' l a n c:=
 h.keep fun b h1 h2=>⟨h1,hb.block b (hU b h1 h2)⟩
theorem Ecs.below {U:Nat→Prop} {B:Nat} {w w':World} (hb:Below B w w') (hU:∀ b,U b→b<w.heap.size→b<B) {l:List Tm} {xs:List Value} (h:Ecs U w l xs):Ecs U w' l xs:=
 h.keep fun b h1 h2=>⟨h1,hb.block b (hU b h1 h2)⟩
theorem Tat.mono {U V:Nat→Prop} {w:World} (hU:∀ b,U b→b<w.heap.size→V b) {t:Tm} {a:Option Addr} {n c:Nat} (h:Tat U w t a n c):Tat V w t a n c:=
 h.keep fun b h1 h2=>⟨hU b h1 h2,rfl⟩
theorem Ecs.mono {U V:Nat→Prop} {w:World} (hU:∀ b,U b→b<w.heap.size→V b) {l:List Tm} {xs:List Value} (h:Ecs U w l xs):Ecs V w l xs:=
 h.keep fun b h1 h2=>⟨hU b h1 h2,rfl⟩
theorem Tat.las {U:Nat→Prop} {w:World} {t:Tm} {a:Option Addr} {n c:Nat} (h:Tat U w t a n c):Las U w t.l a n c:=(R1.1 h).2
theorem Tat.wf {U:Nat→Prop} {w:World} {t:Tm} {a:Option Addr} {n c:Nat} (h:Tat U w t a n c) : -9223372036854775808≤t.f∧t.f≤9223372036854775807:=(R1.1 h).1
theorem Las.len {U:Nat→Prop} {w:World} {l:List Tm} {a:Option Addr} {n c:Nat} (h:Las U w l a n c):n=l.length∧n≤c∧c≤maxLen:=⟨h.1,h.2.1,h.2.2.1⟩
end Go.Proofs.YtglmoficcjphaaaGreat
namespace Go.Proofs.YtglmoficcjphaaaGreat
open Go.RowKit
set_option linter.unusedVariables false
set_option linter.unusedSimpArgs false
theorem hid {p:Prop} (h:p):Hid p:=h
theorem bW (w:World):Below w.heap.size w w:=Below.refl _ _
theorem bA {w w':World} (h:Below w.heap.size w w') (o:Obj):Below w.heap.size w (w'.alloc o):=h.alloc h.size o
theorem bN {w w' w'':World} (h:Below w.heap.size w w') (h2:Below w'.heap.size w' w''):Below w.heap.size w w'':=h.trans (h2.mono h.size)
theorem bD {w w':World} (h:Below w.heap.size w w'):Below w.heap.size w w'.drew:=h.drew
theorem Tat.bw {U:Nat→Prop} {w w':World} {t:Tm} {a:Option Addr} {n c:Nat} (h:Tat U w t a n c) (hb:Below w.heap.size w w'):Tat U w' t a n c:=h.below hb fun _ _ h=>h
theorem Las.bw {U:Nat→Prop} {w w':World} {l:List Tm} {a:Option Addr} {n c:Nat} (h:Las U w l a n c) (hb:Below w.heap.size w w'):Las U w' l a n c:=h.below hb fun _ _ h=>h
theorem N4 (f:Int) (a:Option Addr) (n c:Nat) (w:World) :
  Calls Tryz.prog 88 #[.agg #[.int .i64 f,.slice a n c]] w fun e w'=>e = .returned (.bool (decide (f<0)))∧Below w.heap.size w w':=by
 go_enter Tryz.func88,Tryz.ntmps88
 go_wp2
 go_ret
 exact ⟨rfl,bA (bW _) _⟩
theorem a9A (f:Int) (a:Option Addr) (n c:Nat) (w:World) (h1 : -9223372036854775808≤f) (h2:f<0) :
  Calls Tryz.prog 89 #[.agg #[.int .i64 f,.slice a n c]] w fun e w'=>e = .returned (.int .i64 (-1-f))∧Below w.heap.size w w':=by
 go_enter Tryz.func89,Tryz.ntmps89
 go_wp2
 go_ret
 exact ⟨rfl,bA (bW _) _⟩
set_option maxHeartbeats 400000 in
theorem b1C (f:Int) (a:Option Addr) (n c:Nat) (w:World) (h:f<0) :
  Calls Tryz.prog 118 #[.agg #[.int .i64 f,.slice a n c]] w fun e w'=>e = .returned (.slice none 0 0)∧Below w.heap.size w w':=by
 go_enter Tryz.func118,Tryz.ntmps118
 go_wp2_with (go_at_call 88;refine (N4 _ _ _ _ _).mono ?_;rintro e w1 ⟨rfl,hb1⟩)
 go_wp2
 go_ret
 exact ⟨rfl,bN (bA (bW _) _) hb1⟩
set_option maxHeartbeats 400000 in
theorem b1G (f:Int) (a:Option Addr) (n c:Nat) (w:World) (h:0≤f) :
  Calls Tryz.prog 118 #[.agg #[.int .i64 f,.slice a n c]] w fun e w'=>e = .returned (.slice a n c)∧Below w.heap.size w w':=by
 have h':¬ f<0:=by omega
 have hc0:∀ w1,Below (w.alloc (.cells #[.int .i64 f,.slice a n c] 42)).heap.size (w.alloc (.cells #[.int .i64 f,.slice a n c] 42)) w1→w1.cell? ⟨w.heap.size,1,none⟩=some (.slice a n c):=fun w1 hb=>by
  rw [hb.cell (by simp),World.cell?_alloc_mark];rfl
 go_enter Tryz.func118,Tryz.ntmps118
 go_wp2_with (go_at_call 88;refine (N4 _ _ _ _ _).mono ?_;rintro e w1 ⟨rfl,hb1⟩;have hc1:=hc0 w1 hb1)
 go_wp2
 go_ret
 exact ⟨rfl,bN (bA (bW _) _) hb1⟩
theorem U2 {U:Nat→Prop} {t:Tm} {a:Option Addr} {n c:Nat} {w:World} (h:Tat U w t a n c) :
  Calls Tryz.prog 118 #[.agg #[.int .i64 t.f,.slice a n c]] w fun e w'=>Below w.heap.size w w'∧∃ a' n' c',e = .returned (.slice a' n' c')∧Las U w' t.ps a' n' c':=by
 by_cases hf:t.f<0
 ·refine (b1C _ _ _ _ _ hf).mono ?_
  rintro e w' ⟨rfl,hb⟩
  exact ⟨hb,_,_,_,rfl,by rw [Tm.ps_of_var hf];exact Las.nil _ _⟩
 ·refine (b1G _ _ _ _ _ (by omega)).mono ?_
  rintro e w' ⟨rfl,hb⟩
  exact ⟨hb,_,_,_,rfl,by rw [Tm.ps_of_sym (by omega)];exact h.las.bw hb⟩
theorem a1t (x:Int) (w:World) :
  Calls Tryz.prog 146 #[.int .i64 x] w fun e w'=>e = .returned (.bool false)∧w'=w:=by
 go_enter Tryz.func146,Tryz.ntmps146
 go_wp2
 go_ret
 exact ⟨by simp,rfl⟩
def y7 (x y:Int):Int:=if x<y then -1 else if y<x then 1 else 0
set_option maxHeartbeats 400000 in
theorem J4 (x y:Int) (w:World) :
  Calls Tryz.prog 120 #[.int .i64 x,.int .i64 y] w fun e w'=>e = .returned (.int .i64 (y7 x y))∧Below w.heap.size w w':=by
 rcases Int.lt_trichotomy x y with h | h | h
 ·have h2:y7 x y = -1:=if_pos h
  rw [h2]
  clear h2
  go_enter Tryz.func120,Tryz.ntmps120
  go_wp2_with (go_at_call 146;refine (a1t _ _).mono ?_;rintro e w1 ⟨rfl,rfl⟩)
  go_ret
  exact ⟨rfl,bW _⟩
 ·subst h
  have h2:y7 x x=0:=by simp [y7]
  rw [h2]
  clear h2
  go_enter Tryz.func120,Tryz.ntmps120
  go_wp2_with (go_at_call 146;refine (a1t _ _).mono ?_;rintro e w1 ⟨rfl,rfl⟩)
  go_ret
  exact ⟨rfl,bW _⟩
 ·have h2:y7 x y=1:=by unfold y7;rw [if_neg (by omega),if_pos h]
  rw [h2]
  clear h2
  go_enter Tryz.func120,Tryz.ntmps120
  go_wp2_with (go_at_call 146;refine (a1t _ _).mono ?_;rintro e w1 ⟨rfl,rfl⟩)
  go_ret
  exact ⟨rfl,bW _⟩
def a5f (x y:Int):Int:=if x<0∧y<0 then y7 (-1-x) (-1-y) else y7 x y
theorem c1B {w w1:World} {x y:Value} {t:TypeId} (hb:Below (w.alloc (.cells #[x,y] t)).heap.size (w.alloc (.cells #[x,y] t)) w1):w1.cell? ⟨w.heap.size,0,none⟩=some x∧w1.cell? ⟨w.heap.size,1,none⟩=some y:=by
 constructor
 ·rw [hb.cell (by simp),World.cell?_alloc_mark];rfl
 ·rw [hb.cell (by simp),World.cell?_alloc_mark];rfl
theorem c0g {w w1:World} {x y x' y':Value} {t t':TypeId} (hb:Below ((w.alloc (.cells #[x,y] t)).alloc (.cells #[x',y'] t')).heap.size ((w.alloc (.cells #[x,y] t)).alloc (.cells #[x',y'] t')) w1) :
  (w1.cell? ⟨w.heap.size,0,none⟩=some x∧w1.cell? ⟨w.heap.size,1,none⟩=some y)∧(w1.cell? ⟨w.heap.size+1,0,none⟩=some x'∧w1.cell? ⟨w.heap.size+1,1,none⟩=some y'):=by
 refine ⟨c1B (bN (bA (bW _) _) hb),?_⟩
 have:=c1B hb
 rw [World.size_alloc] at this
 exact this
set_option maxHeartbeats 800000 in
theorem b2H (f g:Int) (a b:Option Addr) (n c m d:Nat) (w:World) (hf : -9223372036854775808≤f) (hg : -9223372036854775808≤g) :
  Calls Tryz.prog 119 #[.agg #[.int .i64 f,.slice a n c],.agg #[.int .i64 g,.slice b m d]] w fun e w'=>e = .returned (.int .i64 (a5f f g))∧Below w.heap.size w w':=by
 obtain ⟨w0,hw0⟩:∃ w0,w0=(w.alloc (.cells #[.int .i64 f,.slice a n c] 42)).alloc (.cells #[.int .i64 g,.slice b m d] 42):=⟨_,rfl⟩
 have HB:Hid (∀ w1,Below w0.heap.size w0 w1→(w1.cell? ⟨w.heap.size,0,none⟩=some (.int .i64 f)∧w1.cell? ⟨w.heap.size,1,none⟩=some (.slice a n c))∧(w1.cell? ⟨w.heap.size+1,0,none⟩=some (.int .i64 g)∧w1.cell? ⟨w.heap.size+1,1,none⟩=some (.slice b m d))):=fun w1 hb=>by
  rw [hw0] at hb;exact c0g hb
 have HW:Hid (w0=(w.alloc (.cells #[.int .i64 f,.slice a n c] 42)).alloc (.cells #[.int .i64 g,.slice b m d] 42)):=hw0
 have HB0:Hid (Below w.heap.size w w0):=by rw [hw0];exact bA (bA (bW _) _) _
 clear hw0
 have hq:Below w0.heap.size w0 w0:=bW _
 obtain ⟨⟨c1,c2⟩,c3,c4⟩:=HB.out w0 hq
 by_cases h1:f<0
 ·by_cases h2:g<0
  ·have h3:a5f f g=y7 (-1-f) (-1-g):=if_pos ⟨h1,h2⟩
   rw [h3]
   clear h3
   have h2':g ≤ -1:=by omega
   have h1':f ≤ -1:=by omega
   go_enter Tryz.func119,Tryz.ntmps119
   go_wp2_with fail
   rw [←HW.out]
   go_wp2_with (go_at_call 88;refine (N4 _ _ _ _ _).mono ?_;rintro e w1 ⟨rfl,hb1⟩;replace hq:=bN hq hb1;clear c1 c2 c3 c4 hb1;obtain ⟨⟨c1,c2⟩,c3,c4⟩:=HB.out _ hq)
   go_region_held3 (fun w'=>(w'.cell? ⟨w.heap.size,0,none⟩=some (.int .i64 f)∧w'.cell? ⟨w.heap.size,1,none⟩=some (.slice a n c))∧(w'.cell? ⟨w.heap.size+1,0,none⟩=some (.int .i64 g)∧w'.cell? ⟨w.heap.size+1,1,none⟩=some (.slice b m d))) (exact HB.out _ (by first | with_reducible exact hq | with_reducible exact bD hq))
    (first
     | (go_at_call 89;refine (a9A _ _ _ _ _ (by assumption) (by assumption)).mono ?_;rintro e w2 ⟨rfl,hb2⟩;replace hq:=bN (by first | with_reducible exact hq | with_reducible exact bD hq) hb2;clear hb2;dsimp only)
     | (go_at_call 120;refine (J4 _ _ _).mono ?_;rintro e w2 ⟨rfl,hb2⟩;replace hq:=bN (by first | with_reducible exact hq | with_reducible exact bD hq) hb2;clear hb2;dsimp only))
   go_wp2_with fail
   go_ret
   exact ⟨rfl,bN HB0.out hq⟩
  ·have h3:a5f f g=y7 f g:=if_neg (by omega)
   rw [h3]
   clear h3
   go_enter Tryz.func119,Tryz.ntmps119
   go_wp2_with fail
   rw [←HW.out]
   go_wp2_with (first
    | (go_at_call 88;refine (N4 _ _ _ _ _).mono ?_;rintro e w1 ⟨rfl,hb1⟩;replace hq:=bN hq hb1;clear c1 c2 c3 c4 hb1;obtain ⟨⟨c1,c2⟩,c3,c4⟩:=HB.out _ hq)
    | (go_at_call 120;refine (J4 _ _ _).mono ?_;rintro e w1 ⟨rfl,hb1⟩))
   go_ret
   exact ⟨rfl,bN (bN HB0.out hq) hb1⟩
 ·have h3:a5f f g=y7 f g:=if_neg (by omega)
  rw [h3]
  clear h3
  go_enter Tryz.func119,Tryz.ntmps119
  go_wp2_with fail
  rw [←HW.out]
  go_wp2_with (first
   | (go_at_call 88;refine (N4 _ _ _ _ _).mono ?_;rintro e w1 ⟨rfl,hb1⟩;replace hq:=bN hq hb1;clear c1 c2 c3 c4 hb1;obtain ⟨⟨c1,c2⟩,c3,c4⟩:=HB.out _ hq)
   | (go_at_call 120;refine (J4 _ _ _).mono ?_;rintro e w1 ⟨rfl,hb1⟩))
  go_ret
  exact ⟨rfl,bN (bN HB0.out hq) hb1⟩
def c0d:List (Tm→Int)→List Tm→Int
 | [],[]=>0
 | [],_::_ => -1
 | _::_,[]=>1
 | c::cs,s::ss=>if c s≠0 then c s else c0d cs ss
def v9:Tm→Tm→Int
 | ⟨f,l⟩,b=>if f≠b.f then a5f f b.f else if f<0 then 0 else if l.length≠b.l.length then y7 l.length b.l.length else c0d (l.map fun s=>fun b=>v9 s b) b.l
def I9 (l m:List Tm):Int:=c0d (l.map fun s=>fun b=>v9 s b) m
theorem H4:I9 [] []=0:=rfl
theorem Y5 (s:Tm) (ss:List Tm):I9 [] (s::ss) = -1:=rfl
theorem X8 (t:Tm) (ts:List Tm):I9 (t::ts) []=1:=rfl
theorem B4 (t s:Tm) (ts ss:List Tm):I9 (t::ts) (s::ss)=if v9 t s≠0 then v9 t s else I9 ts ss:=rfl
theorem J7 (a b:Tm):v9 a b=if a.f≠b.f then a5f a.f b.f else if a.ps.length≠b.ps.length then y7 a.ps.length b.ps.length else I9 a.ps b.ps:=by
 cases a with
 | mk f l =>
  cases b with
  | mk g m =>
   rw [v9]
   unfold Tm.ps
   show _=if ¬ f=g then _ else if ¬ (if f<0 then [] else l).length=(if g<0 then [] else m).length then _ else I9 (if f<0 then [] else l) (if g<0 then [] else m)
   simp only
   by_cases h:f=g
   ·subst h
    by_cases h2:f<0
    ·simp [h2,H4]
    ·by_cases h3:l.length=m.length<;>simp [h2,h3,I9]
   ·simp [h]
theorem a1g {α:Type} {l:List α} {k:Nat} {x:α} (h:l[k]?=some x):l.drop k=x::l.drop (k+1):=by
 obtain ⟨hlt,rfl⟩:=List.getElem?_eq_some_iff.1 h
 exact List.drop_eq_getElem_cons hlt
set_option maxRecDepth 100000 in
set_option maxHeartbeats 800000 in
theorem a2g {U:Nat→Prop} {la lb:List Tm} {a1 a2:Option Addr} {n1 c1 n2 c2:Nat} {w:World} (h1:Las U w la a1 n1 c1) (h2:Las U w lb a2 n2 c2)
  (hC:∀ t∈la,∀ (s:Tm) (a a':Option Addr) (n c n' c':Nat) (w':World),Tat U w' t a n c→Tat U w' s a' n' c'→Calls Tryz.prog 90 #[.agg #[.int .i64 t.f,.slice a n c],.agg #[.int .i64 s.f,.slice a' n' c']] w' fun e w''=>e = .returned (.int .i64 (v9 t s))∧Below w'.heap.size w' w'') :
  Calls Tryz.prog 121 #[.slice a1 n1 c1,.slice a2 n2 c2,.func (.func 90) #[] #[]] w fun e w'=>e = .returned (.int .i64 (I9 la lb))∧Below w.heap.size w w':=by
 have HL1:Hid (n1=la.length∧n1≤c1∧c1≤maxLen):=h1.len
 have HL2:Hid (n2=lb.length∧n2≤c2∧c2≤maxLen):=h2.len
 have hn1:n1≤9223372036854775807:=by have:=HL1.out;unfold maxLen at this;omega
 have hn2:n2≤9223372036854775807:=by have:=HL2.out;unfold maxLen at this;omega
 have HA1:Hid (∀ w',Below w.heap.size w w'→Las U w' la a1 n1 c1):=fun w' hb=>h1.bw hb
 have HA2:Hid (∀ w',Below w.heap.size w w'→Las U w' lb a2 n2 c2):=fun w' hb=>h2.bw hb
 have HC:=hid hC
 clear h1 h2 hC
 go_enter Tryz.func121,Tryz.ntmps121
 go_wp2
 go_loopw [13] (fun i wr=>∃ k:Nat,i = .int .i64 (k:Int)∧k≤n1∧Below w.heap.size w wr∧I9 (la.drop k) (lb.drop k)=I9 la lb) (fun i _=>n1-(intOf i).toNat)
 case atStart=>exact ⟨0,rfl,by omega,bW _,by simp⟩
 case round =>
  obtain ⟨k,rfl,hk,hbr,hcm⟩:=hrel
  have HCM:=hid hcm
  clear hcm
  by_cases hlt:k<n1
  ·obtain ⟨b,off,t,a',n',c',rfl,hU,hlt',ht,hT,e1,e2⟩:=(HA1.out wr hbr).at hlt
   have HT:=hid ht
   clear ht
   by_cases h2:k<n2
   ·obtain ⟨b2,off2,s,a2',n2',c2',rfl,hU2,hlt2',hs,hS,e3,e4⟩:=(HA2.out wr hbr).at h2
    have HS:=hid hs
    clear hs
    have HCall:Hid (∀ w',Below wr.heap.size wr w'→Calls Tryz.prog 90 #[.agg #[.int .i64 t.f,.slice a' n' c'],.agg #[.int .i64 s.f,.slice a2' n2' c2']] w' fun e w''=>e = .returned (.int .i64 (v9 t s))∧Below w'.heap.size w' w''):=fun w' hb=>HC.out t (List.mem_of_getElem? HT.out) s _ _ _ _ _ _ w' (hT.bw hb) (hS.bw hb)
    have HD:Hid (I9 (la.drop k) (lb.drop k)=if v9 t s≠0 then v9 t s else I9 (la.drop (k+1)) (lb.drop (k+1))):=by show _=_;rw [a1g HT.out,a1g HS.out,B4]
    obtain ⟨z,hz⟩:∃ z,z=v9 t s:=⟨_,rfl⟩
    rw [←hz] at HD HCall
    clear hz
    by_cases hz0:z=0
    ·subst hz0
     have HE:Hid (I9 (la.drop (k+1)) (lb.drop (k+1))=I9 la lb):=by show _=_;rw [←HCM.out,HD.out];simp
     go_wp2_with (go_at_call 90;refine (HCall.out _ (bA (bA (bW _) _) _)).mono ?_;rintro e w1 ⟨rfl,hb1⟩)
     go_roundw
     case rel=>exact ⟨k+1,by go_num,by omega,bN hbr (bN (bA (bA (bW _) _) _) hb1),HE.out⟩
     case measure=>simp [intOf];omega
    ·have HE:Hid (I9 la lb=z):=by show _=_;rw [←HCM.out,HD.out];simp [hz0]
     go_wp2_with (go_at_call 90;refine (HCall.out _ (bA (bA (bW _) _) _)).mono ?_;rintro e w1 ⟨rfl,hb1⟩)
     go_ret
     exact ⟨by rw [HE.out];rfl,bN hbr (bN (bA (bA (bW _) _) _) hb1)⟩
   ·have HE:Hid (I9 la lb=1):=by
     show _=_
     rw [←HCM.out,a1g HT.out,show lb.drop k=[] from List.drop_eq_nil_of_le (by have:=HL2.out;omega),X8]
    go_wp2
    go_ret
    exact ⟨by rw [HE.out];rfl,bN hbr (bA (bW _) _)⟩
  ·have HE:Hid (I9 la lb=if n1<n2 then -1 else 0):=by
    show _=_
    rw [←HCM.out,show la.drop k=[] from List.drop_eq_nil_of_le (by have:=HL1.out;omega)]
    cases hd:lb.drop k with
    | nil =>
     rw [H4,if_neg]
     have:=List.drop_eq_nil_iff.1 hd
     have:=HL2.out
     omega
    | cons x xs =>
     rw [Y5,if_pos]
     have h3:¬ lb.drop k=[]:=by rw [hd];simp
     rw [List.drop_eq_nil_iff] at h3
     have:=HL2.out
     have:=HL1.out
     omega
   by_cases h3:n1<n2
   ·go_wp2
    go_ret
    exact ⟨by rw [HE.out,if_pos h3];rfl,hbr⟩
   ·go_wp2
    go_ret
    exact ⟨by rw [HE.out,if_neg (by omega)];rfl,hbr⟩
set_option maxRecDepth 100000 in
set_option maxHeartbeats 800000 in
theorem a1V {U:Nat→Prop}:∀ (t s:Tm) (a a':Option Addr) (n c n' c':Nat) (w:World),Tat U w t a n c→Tat U w s a' n' c' →
  Calls Tryz.prog 90 #[.agg #[.int .i64 t.f,.slice a n c],.agg #[.int .i64 s.f,.slice a' n' c']] w fun e w'=>e = .returned (.int .i64 (v9 t s))∧Below w.heap.size w w':=by
 intro t
 induction t using Tm.indp with
 | h t ih =>
  intro s a a' n c n' c' w ht hs
  obtain ⟨w0,hw0⟩:∃ w0,w0=(w.alloc (.cells #[.int .i64 t.f,.slice a n c] 42)).alloc (.cells #[.int .i64 s.f,.slice a' n' c'] 42):=⟨_,rfl⟩
  have HB:Hid (∀ w1,Below w0.heap.size w0 w1→(w1.cell? ⟨w.heap.size,0,none⟩=some (.int .i64 t.f)∧w1.cell? ⟨w.heap.size,1,none⟩=some (.slice a n c))∧(w1.cell? ⟨w.heap.size+1,0,none⟩=some (.int .i64 s.f)∧w1.cell? ⟨w.heap.size+1,1,none⟩=some (.slice a' n' c'))):=fun w1 hb=>by
   rw [hw0] at hb;exact c0g hb
  have HW:=hid hw0
  have HB0:Hid (Below w.heap.size w w0):=by rw [hw0];exact bA (bA (bW _) _) _
  clear hw0
  have HT:Hid (∀ w1,Below w0.heap.size w0 w1→Tat U w1 t a n c∧Tat U w1 s a' n' c'):=fun w1 hb=>⟨ht.bw (bN HB0.out hb),hs.bw (bN HB0.out hb)⟩
  have HF:=hid (And.intro ht.wf hs.wf)
  have HE:=hid (J7 t s)
  have HI:=hid ih
  have hq:Below w0.heap.size w0 w0:=bW _
  obtain ⟨z,hz⟩:∃ z,z=v9 t s:=⟨_,rfl⟩
  rw [←hz] at HE ⊢
  clear hz ht hs ih
  by_cases hf:t.f=s.f
  ·have HE2:Hid (z=if t.ps.length≠s.ps.length then y7 t.ps.length s.ps.length else I9 t.ps s.ps):=by show _=_;rw [HE.out,if_neg (by simp [hf])]
   have HP1:Hid (∀ w1,Below w0.heap.size w0 w1→Calls Tryz.prog 118 #[.agg #[.int .i64 t.f,.slice a n c]] w1 fun e w'=>Below w1.heap.size w1 w'∧∃ a' n' c',e = .returned (.slice a' n' c')∧Las U w' t.ps a' n' c'):=fun w1 hb=>U2 (HT.out w1 hb).1
   have HP2:Hid (∀ w1,Below w0.heap.size w0 w1→Calls Tryz.prog 118 #[.agg #[.int .i64 t.f,.slice a' n' c']] w1 fun e w'=>Below w1.heap.size w1 w'∧∃ a' n' c',e = .returned (.slice a' n' c')∧Las U w' s.ps a' n' c'):=fun w1 hb=>by
    have:=U2 (HT.out w1 hb).2
    rw [←hf] at this
    exact this
   rw [←hf] at HB HW ⊢
   obtain ⟨f,hff⟩:∃ f,f=t.f:=⟨_,rfl⟩
   rw [←hff] at HB HW HP1 HP2 ⊢
   clear HE hff hf HF HT
   obtain ⟨⟨c1,c2⟩,c3,c4⟩:=HB.out w0 hq
   go_enter Tryz.func90,Tryz.ntmps90
   go_wp2_with fail
   rw [←HW.out]
   go_region_held3 (fun w'=>(w'.cell? ⟨w.heap.size,0,none⟩=some (.int .i64 f)∧w'.cell? ⟨w.heap.size,1,none⟩=some (.slice a n c))∧(w'.cell? ⟨w.heap.size+1,0,none⟩=some (.int .i64 f)∧w'.cell? ⟨w.heap.size+1,1,none⟩=some (.slice a' n' c'))) (exact HB.out _ (by first | with_reducible exact hq | with_reducible exact bD hq))
    (first
     | (go_at_call_of 118 (Value.agg #[Value.int .i64 f,Value.slice a n c]);refine (HP1.out _ (by first | with_reducible exact hq | with_reducible exact bD hq)).mono ?_;rintro e w2 ⟨hb2,a2,n2,c2,rfl,hl2⟩;replace hq:=bN (by first | with_reducible exact hq | with_reducible exact bD hq) hb2;clear hb2;dsimp only)
     | (go_at_call_of 118 (Value.agg #[Value.int .i64 f,Value.slice a' n' c']);refine (HP2.out _ (by first | with_reducible exact hq | with_reducible exact bD hq)).mono ?_;rintro e w3 ⟨hb3,a3,n3,c3,rfl,hl3⟩;replace hq:=bN (by first | with_reducible exact hq | with_reducible exact bD hq) hb3;replace hl2:=hl2.bw (by first | with_reducible exact hb3 | with_reducible exact bN (bD (bW _)) hb3);dsimp only))
   have HN:Hid (n2=t.ps.length∧n3=s.ps.length):=⟨hl2.1,hl3.1⟩
   by_cases hn:n2=n3
   ·subst hn
    have HE3:Hid (z=I9 t.ps s.ps):=by show _=_;rw [HE2.out,if_neg (by have:=HN.out;omega)]
    go_wp2_with (go_at_call 121;refine (a2g hl2 hl3 HI.out).mono ?_;rintro e w4 ⟨rfl,hb4⟩)
    go_ret
    exact ⟨by rw [HE3.out];rfl,bN (bN HB0.out hq) hb4⟩
   ·have HE3:Hid (z=y7 n2 n3):=by show _=_;rw [HE2.out,if_pos (by have:=HN.out;omega),HN.out.1,HN.out.2]
    go_wp2_with (go_at_call 120;refine (J4 _ _ _).mono ?_;rintro e w4 ⟨rfl,hb4⟩)
    go_ret
    exact ⟨by rw [HE3.out];rfl,bN (bN HB0.out hq) hb4⟩
  ·have HE2:Hid (z=a5f t.f s.f):=by show _=_;rw [HE.out,if_pos hf]
   have hf1:=HF.out.1.1
   have hf2:=HF.out.2.1
   obtain ⟨f,hff⟩:∃ f,f=t.f:=⟨_,rfl⟩
   obtain ⟨g,hgg⟩:∃ g,g=s.f:=⟨_,rfl⟩
   rw [←hff,←hgg] at HB HW HE2 hf ⊢
   rw [←hff] at hf1
   rw [←hgg] at hf2
   clear HE hff hgg HF HT
   obtain ⟨⟨c1,c2⟩,c3,c4⟩:=HB.out w0 hq
   go_enter Tryz.func90,Tryz.ntmps90
   go_wp2_with fail
   rw [←HW.out]
   go_wp2_with (go_at_call 119;refine (b2H _ _ _ _ _ _ _ _ _ hf1 hf2).mono ?_;rintro e w1 ⟨rfl,hb1⟩)
   go_ret
   exact ⟨by rw [HE2.out];rfl,bN (bN HB0.out hq) hb1⟩
def B0 (t s:Tm):Bool:=v9 t s == 0
set_option maxHeartbeats 400000 in
theorem b3N {U:Nat→Prop} (t s:Tm) (a a':Option Addr) (n c n' c':Nat) (w:World) (ht:Tat U w t a n c) (hs:Tat U w s a' n' c') :
  Calls Tryz.prog 63 #[.agg #[.int .i64 t.f,.slice a n c],.agg #[.int .i64 s.f,.slice a' n' c']] w fun e w'=>e = .returned (.bool (B0 t s))∧Below w.heap.size w w':=by
 have HC:Hid (∀ w1,Below w.heap.size w w1→Calls Tryz.prog 90 #[.agg #[.int .i64 t.f,.slice a n c],.agg #[.int .i64 s.f,.slice a' n' c']] w1 fun e w'=>e = .returned (.int .i64 (v9 t s))∧Below w1.heap.size w1 w'):=fun w1 hb=>a1V t s _ _ _ _ _ _ w1 (ht.bw hb) (hs.bw hb)
 unfold B0
 clear ht hs
 go_enter Tryz.func63,Tryz.ntmps63
 go_wp2_with (go_at_call 90;refine (HC.out _ (bA (bA (bW _) _) _)).mono ?_;rintro e w1 ⟨rfl,hb1⟩)
 go_ret
 exact ⟨rfl,bN (bA (bA (bW _) _) _) hb1⟩
end Go.Proofs.YtglmoficcjphaaaGreat
namespace Go.Proofs.YtglmoficcjphaaaGreat
open Go.RowKit
set_option linter.unusedVariables false
variable {α:Type} {P:Program}
def a0D (P:Program) (gf:Nat) (lb:Array Value) (encs:α→Array Value) (Ok:List α→α→World→Prop) (Kp:World→World→Prop) (S:List α→Prop) (w:World):Prop:=
 ∀ (l:Nat) (J:List α→World→Prop) (W:World),Below w.heap.size w W→(∀ pre A B,J pre A→Below A.heap.size A B→J pre B) →
  (∀ pre x V,J pre V→Ok pre x V→YieldAt Fence.wide 1 P l (encs x) V fun e V'=>e = .returned (.bool true)∧J (pre++[x]) V'∧Kp V V') →
  J [] W→CallsIn Fence.wide 2 P gf (#[.func (.yield l) #[] #[]]++lb) W fun e W'=>(∃ v,e = .returned v)∧∃ xs,S xs∧J xs W'
def c0k (Kp:World→World→Prop) (I:World→Prop) (W:World):Exit→Act→World→Prop
 | .normal,_,W'=>KeepsOthers W W'∧Kp W W'∧I W'
 | _,_,_=>False
def y6 (fn:FuncId) (tmps:Array Value) (ps:Array Tmp) (assign body:Code) (D:Nat) (st:LoopState):Loop:=
 { state:=st,pending:=none,fn:=fn,tmps:=tmps,params:=ps,assign:=assign,body:=body,defers:=D }
end Go.Proofs.YtglmoficcjphaaaGreat
namespace Go.Proofs.YtglmoficcjphaaaGreat
open Go.RowKit Go.Shelf
set_option linter.unusedVariables false
attribute [local go_sem] Oper.semAt_some
structure Tr where
 t:Tm
 a:Option Addr
 n:Nat
 c:Nat
def Tr.v (x:Tr):Value := .agg #[.int .i64 x.t.f,.slice x.a x.n x.c]
def Tr.ok (n₀:Nat) (x:Tr) (V:World):Prop:=Tat (·< n₀) V x.t x.a x.n x.c
def KpT (n₀:Nat) (V V':World):Prop:=Below n₀ V V'∧∀ (g:Nat) cs fl,V.heap[g]?=some (Obj.cells cs 42 fl)→V'.heap[g]?=some (Obj.cells cs 42 fl)
theorem KpT.refl (n₀:Nat) (V:World):KpT n₀ V V:=⟨Below.refl _ _,fun _ _ _ h=>h⟩
theorem KpT.trans {n₀:Nat} {A B C:World} (h:KpT n₀ A B) (k:KpT n₀ B C):KpT n₀ A C:=⟨h.1.trans k.1,fun g cs fl e=>k.2 g cs fl (h.2 g cs fl e)⟩
theorem KpT.of_below {n₀:Nat} {A B:World} (hn:n₀≤A.heap.size) (h:Below A.heap.size A B):KpT n₀ A B:=⟨h.mono hn,fun g cs fl e=>by
 rw [h.block g (Array.getElem?_eq_some_iff.1 e).1];exact e⟩
theorem a3H {w:World} {b:Nat} {x y:Value} {t:TypeId} {fl:Nat×Nat} (h:w.heap[b]?=some (.cells #[x,y] t fl)):w.cell? ⟨b,0,none⟩=some x∧w.cell? ⟨b,1,none⟩=some y:=by
 constructor<;>simp [World.cell?,h]
theorem a7k {m:Nat} (m':Nat) {P:Program} {l:Nat} {args:Array Value} {W:World} {R:Ending→World→Prop} (h:YieldAt Fence.wide m P l args W R):YieldAt Fence.wide m' P l args W R:=by
 obtain ⟨fn,tmps,assign,body,hy,hR⟩:=h
 exact ⟨fn,tmps,assign,body,hy,hR.1,fun c cs _=>hR.2 c cs (fun d h=>by cases h)⟩
set_option maxRecDepth 100000 in
set_option maxHeartbeats 2000000 in
theorem b6A (l n₀ N:Nat) (J:List Tr→World→Prop) (hJ:∀ pre A B,J pre A→Below A.heap.size A B→J pre B)
  (hY:∀ m pre (x:Tr) V,J pre V→x.ok n₀ V∧pre.length<N→YieldAt Fence.wide m Tryz.prog l #[x.v] V fun e V'=>e = .returned (.bool true)∧J (pre++[x]) V'∧KpT n₀ V V') (t:Tm) :
  ∀ (d:Nat) (a:Option Addr) (n c:Nat) (pre:List Tr) (W:World),Tat (·< n₀) W t a n c→n₀≤W.heap.size→J pre W→pre.length+t.size≤N →
   CallsIn Fence.wide d Tryz.prog 95 #[.agg #[.int .i64 t.f,.slice a n c],.func (.yield l) #[] #[]] W fun e W'=>e = .returned (.bool true)∧∃ xs:List Tr,xs.map Tr.t=t.flat∧J (pre++xs) W'∧KpT n₀ W W':=by
 induction t using Tm.indp with
 | h t ih =>
  intro d a n c pre W ht hn hpre hN
  have hs1:=t.size_pos
  have hdd:∀ k:Nat,(Fence.wide.depth.isSome=true→1≤k):=fun k h=>by cases h
  obtain ⟨W1,hW1⟩:∃ W1,W1=W.alloc (.cells #[.int .i64 t.f,.slice a n c] 42):=⟨_,rfl⟩
  have hb1:Below W.heap.size W W1:=by rw [hW1];exact bA (bW _) _
  have hbx:W1.heap[W.heap.size]?=some (.cells #[.int .i64 t.f,.slice a n c] 42 (0,0)):=by rw [hW1];exact World.alloc_heap_new _ _
  obtain ⟨c1,c2⟩:=a3H hbx
  have ht1:Tat (·< n₀) W1 t a n c:=ht.bw hb1
  obtain ⟨fn,tmps,assign,body,hy,hR⟩:=hY (d-1) pre ⟨t,a,n,c⟩ W1 (hJ _ _ _ hpre hb1) ⟨ht1,by omega⟩
  dsimp only [Tr.v] at hy
  have HW:=hid hW1
  clear hW1
  refine callsIn_of_wp Tryz.func95 rfl trivial ?_ rfl
  simp only [Tryz.ntmps95,List.size_toArray,List.length_cons,List.length_nil,Nat.reduceAdd,Nat.reduceSub,Array.replicate_succ,Array.replicate_zero,List.push_toArray,List.append_toArray,List.nil_append,List.cons_append]
  rw [HW.out] at hy hR
  gi_wp2_with fail
  refine ⟨hdd _,hR.mono ?_⟩
  rw [←HW.out]
  rintro e W2 ⟨rfl,hJ2,hk2⟩
  obtain ⟨c1,c2⟩:=a3H (hk2.2 _ _ _ hbx)
  have ht2:Tat (·< n₀) W2 t a n c:=ht1.below hk2.1 fun b h _=>h
  have hkk:KpT n₀ W W2:=(KpT.of_below hn hb1).trans hk2
  have hn2:n₀≤W2.heap.size:=Nat.le_trans hn hkk.1.size
  gi_wp2_with (refine ⟨trivial,hdd _,?_⟩;gi_at_call 118;refine (callsIn_wide.2 (U2 ht2)).mono ?_;rintro e W3 ⟨hb3,a3,n3,c3,rfl,hl3⟩)
  have HL3:=hid hl3.len
  have hm3:n3≤9223372036854775807:=by have:=HL3.out;unfold maxLen at this;omega
  have hk3:KpT n₀ W W3:=hkk.trans (KpT.of_below hn2 hb3)
  have hJ3:=hJ _ _ _ hJ2 hb3
  have HLs:Hid (∀ V,KpT n₀ W3 V→Las (·< n₀) V t.ps a3 n3 c3):=fun V h=>hl3.below h.1 fun b hb _=>hb
  have hn3:n₀≤W3.heap.size:=Nat.le_trans hn2 hb3.size
  have HN:Hid (pre.length+t.size≤N):=hN
  have HI:=hid ih
  clear hl3 hJ2 hk2 hkk ht2 c1 c2 hb3 ih hN hY hy hR hbx ht1 hb1 ht
  gi_loopw [14] (fun i wr=>∃ (k:Nat) (xs:List Tr),i = .int .i64 (k:Int)∧k≤n3∧xs.map Tr.t=t::(t.ps.take k).flatMap Tm.flat∧J (pre++xs) wr∧KpT n₀ W3 wr) (fun i _=>n3-(intOf i).toNat)
  case atStart=>exact ⟨0,[⟨t,a,n,c⟩],rfl,by omega,by simp,hJ3,KpT.refl _ _⟩
  case round =>
   obtain ⟨k,xs,rfl,hk,hxs,hJr,hkr⟩:=hrel
   have HX:=hid hxs
   clear hxs
   have hnr:n₀≤wr.heap.size:=Nat.le_trans hn3 hkr.1.size
   by_cases hlt:k<n3
   ·obtain ⟨b,off,s,a',n',c',rfl,hU,hlt',hs,hT,e1,e2⟩:=(HLs.out wr hkr).at hlt
    have HS:=hid hs
    clear hs
    have hb4:Below wr.heap.size wr (wr.alloc (.cells #[.int .i64 s.f,.slice a' n' c'] 42)):=bA (bW _) _
    have HC:Hid (CallsIn Fence.wide (d-1) Tryz.prog 95 #[.agg #[.int .i64 s.f,.slice a' n' c'],.func (.yield l) #[] #[]] (wr.alloc (.cells #[.int .i64 s.f,.slice a' n' c'] 42)) fun e W'=>e = .returned (.bool true)∧∃ ys:List Tr,ys.map Tr.t=s.flat∧J ((pre++xs)++ys) W'∧KpT n₀ (wr.alloc (.cells #[.int .i64 s.f,.slice a' n' c'] 42)) W'):=by
     refine HI.out s (List.mem_of_getElem? HS.out) (d-1) a' n' c' (pre++xs) _ (hT.bw hb4) (by simp;omega) (hJ _ _ _ hJr hb4) ?_
     have h1:=congrArg List.length HX.out
     simp only [List.length_map,List.length_cons] at h1
     rw [List.length_append,h1]
     have h2:=t.size_eq
     have h3:(t.ps.flatMap Tm.flat).length=((t.ps.take k).flatMap Tm.flat).length+(s.flat.length+((t.ps.drop (k+1)).flatMap Tm.flat).length):=by
      conv=>lhs;rw [←List.take_append_drop k t.ps,a1g HS.out,List.flatMap_append,List.flatMap_cons,List.length_append,List.length_append]
     have h4:=HN.out
     unfold Tm.size at *
     omega
    have HK5:Hid (∀ V,KpT n₀ (wr.alloc (.cells #[.int .i64 s.f,.slice a' n' c'] 42)) V→KpT n₀ W3 V):=fun V h=>(hkr.trans (KpT.of_below hnr hb4)).trans h
    gi_wp2_with (refine ⟨trivial,hdd _,?_⟩;gi_at_call 95;refine HC.out.mono ?_;rintro e W4 ⟨rfl,ys,hys,hJ4,hk4⟩)
    go_roundw
    case rel =>
     refine ⟨k+1,xs++ys,by go_num,by omega,?_,by rw [←List.append_assoc];exact hJ4,HK5.out _ hk4⟩
     rw [List.map_append,HX.out,hys,List.take_add_one,HS.out,List.flatMap_append]
     simp
    case measure=>simp [intOf];omega
   ·gi_wp2
    go_ret
    refine ⟨rfl,xs,?_,hJr,hk3.trans hkr⟩
    rw [HX.out,t.flat_eq,List.take_of_length_le (by have:=HL3.out;omega)]
section
variable {α:Type} {P:Program}
def a4L (B:Nat) (Kp:World→World→Prop) (I:World→Prop) (W:World):Exit→Act→World→Prop
 | .normal,_,W'=>KeepsFrom B W W'∧Kp W W'∧I W'
 | _,_,_=>False
theorem a6U {g:Operand} {ps:Array Tmp} {assign body:Code} {Q:Exit→Act→World→Prop} {a:Act} {w:World} {gf:Nat} {lb:Array Value}
  (hg:a.eval g = .func (.func gf) #[] lb) (eg:∀ args w,(callFunc gf args).run P w = .ok (.enter gf args) w)
  {encs:α→Array Value} {Ok:List α→α→World→Prop} {Kp:World→World→Prop} {S:List α→Prop} (hseq:a0D P gf lb encs Ok Kp S w)
  (hKt:∀ {A B C:World},Kp A B→Kp B C→Kp A C)
  (hKb:∀ (W:World) (l:Nat) (o o':Obj),w.heap.size≤l→W.heap[l]?=some o→o.isCells=false→Kp W (W.putObj l o'))
  (hOk:∀ (pre:List α) (x:α) (W:World) (l:Nat) (o o':Obj),w.heap.size≤l→Ok pre x W→W.heap[l]?=some o→o.isCells=false→Ok pre x (W.putObj l o'))
  (hps:∀ x,(encs x).size=ps.size) (I:List α→World→Prop) (hI:∀ pre A B,I pre A→Below A.heap.size A B→I pre B)
  (hIp:∀ (pre:List α) (A:World) (l:Nat) (o o':Obj),I pre A→w.heap.size≤l→A.heap[l]?=some o→o.isCells=false→I pre (A.putObj l o'))
  (h0:I [] w) (a₁:α→Act)
  (hassign:∀ (l:Nat) (x:α) (W:World) (K:Act→World→Prop),K (a₁ x) W →
   assign.wpIn (Fence.wide.inRound l) 1 P (Exit.then K (fun _ _ _=>False)) { tmps:=(ps.zip (encs x)).foldl (fun t (p,v)=>t.setIfInBounds p v) a.tmps,defers:=[] } W)
  (hbody:∀ (l:Nat) (pre:List α) (x:α) (W:World),I pre W→Ok pre x W→body.wpIn (Fence.wide.inRound l) 1 P (a4L w.heap.size Kp (I (pre++[x])) W) (a₁ x) W)
  (hdone:∀ (D:Nat) (xs:List α) (W:World),w.heap.size≤D→S xs→I xs W→W.heap[D]?=some (.deferred (some []))→Q .normal { a with defers:={ target := .collected D,args := #[] }::a.defers } W) :
  (Code.rangeFunc g ps assign body).wpIn Fence.wide 3 P Q a w:=by
 refine wpIn_rangeFunc fun fn hfn=>?_
 have hD:∃ D,D=w.heap.size:=⟨_,rfl⟩
 obtain ⟨D,hD⟩:=hD
 obtain ⟨W1,hW1⟩:∃ W1,W1=(w.alloc (.deferred (some []))).alloc (.loop (y6 fn a.tmps ps assign body D .ready)):=⟨_,rfl⟩
 have below1:Below w.heap.size w W1:=by rw [hW1];exact ((Below.refl _ w).alloc (Nat.le_refl _) _).alloc (by simp) _
 have atL:W1.heap[D+1]?=some (.loop (y6 fn a.tmps ps assign body D .ready)):=by
  have:=World.alloc_heap_new (w.alloc (.deferred (some []))) (.loop (y6 fn a.tmps ps assign body D .ready))
  rw [World.size_alloc,←hD,←hW1] at this
  exact this
 have atD:W1.heap[D]?=some (.deferred (some [])):=by
  have h:=World.alloc_heap_new w (.deferred (some []))
  rw [←hD] at h
  rw [hW1,Below.heap_alloc _ _ _ (by simp;omega)]
  exact h
 refine ⟨D+1,[{ target := .collected D,args := #[] }],W1,{ target := .fn (.func gf) lb,args := #[.func (.yield (D+1)) #[] #[]] },W1,gf,#[.func (.yield (D+1)) #[] #[]]++lb,W1,?_,?_,fun _ _=>trivial,?_,(fun _=>by omega),?_⟩
 ·rw [hW1,hD];exact run_enterLoop_outer _ _ _ _ _
 ·simp only [resolve,hg]
  simp [go_sem]
 ·simp [invoke,go_sem,eg]
 refine (hseq (D+1) (fun pre V=>I pre V∧V.heap[D+1]?=some (.loop (y6 fn a.tmps ps assign body D .ready))∧V.heap[D]?=some (.deferred (some []))) W1 below1 ?abides ?rounds ⟨hI _ _ _ h0 below1,atL,atD⟩).mono ?after
 case abides =>
  rintro pre A B ⟨h1,h2,h3⟩ hb
  exact ⟨hI _ _ _ h1 hb,(hb.block _ (Array.getElem?_eq_some_iff.1 h2).1).trans h2,(hb.block _ (Array.getElem?_eq_some_iff.1 h3).1).trans h3⟩
 case rounds =>
  rintro pre x V ⟨h1,h2,h3⟩ hx
  have hlt:=(Array.getElem?_eq_some_iff.1 h2).1
  have hy:=run_yield (P:=P) (args:=encs x) h2 (hps x)
  refine ⟨fn,_,assign,body,hy,roundIn_of_wpIn hfn (hassign _ x V _ ⟨_,run_beginRound h2 rfl,?_⟩)⟩
  have hDL:w.heap.size≤D+1:=by omega
  have b2:(V.putObj (D+1) (.loop (y6 fn a.tmps ps assign body D .busy))).heap[D+1]?=some (.loop (y6 fn a.tmps ps assign body D .busy)):=World.putObj_heap_same hlt
  have b3:(V.putObj (D+1) (.loop (y6 fn a.tmps ps assign body D .busy))).heap[D]?=some (.deferred (some [])):=(World.putObj_heap_other (by omega)).trans h3
  refine wpIn_mono (hbody _ pre x (V.putObj (D+1) (.loop (y6 fn a.tmps ps assign body D .busy))) (hIp _ _ _ _ _ h1 hDL h2 rfl) (hOk _ _ _ _ _ _ hDL hx h2 rfl)) ?_
  rintro e a3 U hp
  cases e with
  | normal =>
   obtain ⟨k1,k2,k3⟩:=hp
   have u2:=k1.same _ _ (by omega) b2 rfl
   have u3:=k1.same _ _ (by omega) b3 rfl
   have hr:=run_endRound (P:=P) none u2
   refine ⟨_,_,hr,rfl,⟨hIp _ _ _ _ _ k3 hDL u2 rfl,World.putObj_heap_same (Array.getElem?_eq_some_iff.1 u2).1,(World.putObj_heap_other (by omega)).trans u3⟩,?_⟩
   exact hKt (hKt (hKb _ _ _ _ hDL h2 rfl) k2) (hKb _ _ _ _ hDL u2 rfl)
  | ret=>exact hp.elim
  | exit _=>exact hp.elim
  | goto _=>exact hp.elim
  | panic _=>exact hp.elim
  | outgrown=>exact hp.elim
 case after =>
  rintro e V ⟨⟨v,rfl⟩,xs,hS,h1,h2,h3⟩
  exact ⟨none,_,run_endLoop (P:=P) h2 (by simp [y6]),hdone D xs _ (by omega) hS (hIp _ _ _ _ _ h1 (by omega) h2 rfl) ((World.putObj_heap_other (by omega)).trans h3)⟩
theorem a6X {g:Operand} {ps:Array Tmp} {assign body:Code} {Q:Exit→Act→World→Prop} {a:Act} {w:World} {gf:Nat} {lb:Array Value}
  (hg:a.eval g = .func (.func gf) #[] lb) (eg:∀ args w,(callFunc gf args).run P w = .ok (.enter gf args) w)
  {encs:α→Array Value} {Ok:List α→α→World→Prop} {Kp:World→World→Prop} {S:List α→Prop} (hseq:a0D P gf lb encs Ok Kp S w)
  (hKt:∀ {A B C:World},Kp A B→Kp B C→Kp A C)
  (hKb:∀ (W:World) (l:Nat) (o o':Obj),w.heap.size≤l→W.heap[l]?=some o→o.isCells=false→Kp W (W.putObj l o'))
  (hOk:∀ (pre:List α) (x:α) (W:World) (l:Nat) (o o':Obj),w.heap.size≤l→Ok pre x W→W.heap[l]?=some o→o.isCells=false→Ok pre x (W.putObj l o'))
  (hps:∀ x,(encs x).size=ps.size) (I:List α→World→Prop) (hI:∀ pre A B,I pre A→Below A.heap.size A B→I pre B)
  (hIp:∀ (pre:List α) (A:World) (l:Nat) (o o':Obj),I pre A→w.heap.size≤l→A.heap[l]?=some o→o.isCells=false→I pre (A.putObj l o'))
  (h0:I [] w) (a₁:α→Nat→Act) (ob:α→Obj) (hKa:∀ (V:World) (x:α),w.heap.size≤V.heap.size→Kp V (V.alloc (ob x))) (hOka:∀ (pre:List α) (x:α) (V:World),Ok pre x V→Ok pre x (V.alloc (ob x)))
  (hassign:∀ (l:Nat) (x:α) (W:World) (K:Act→World→Prop),K (a₁ x W.heap.size) (W.alloc (ob x)) →
   assign.wpIn (Fence.wide.inRound l) 1 P (Exit.then K (fun _ _ _=>False)) { tmps:=(ps.zip (encs x)).foldl (fun t (p,v)=>t.setIfInBounds p v) a.tmps,defers:=[] } W)
  (hbody:∀ (l:Nat) (pre:List α) (x:α) (W:World) (b:Nat),w.heap.size≤b→W.heap[b]?=some (ob x)→I pre W→Ok pre x W→body.wpIn (Fence.wide.inRound l) 1 P (a4L w.heap.size Kp (I (pre++[x])) W) (a₁ x b) W)
  (hdone:∀ (D:Nat) (xs:List α) (W:World),w.heap.size≤D→S xs→I xs W→W.heap[D]?=some (.deferred (some []))→Q .normal { a with defers:={ target := .collected D,args := #[] }::a.defers } W) :
  (Code.rangeFunc g ps assign body).wpIn Fence.wide 3 P Q a w:=by
 refine wpIn_rangeFunc fun fn hfn=>?_
 have hD:∃ D,D=w.heap.size:=⟨_,rfl⟩
 obtain ⟨D,hD⟩:=hD
 obtain ⟨W1,hW1⟩:∃ W1,W1=(w.alloc (.deferred (some []))).alloc (.loop (y6 fn a.tmps ps assign body D .ready)):=⟨_,rfl⟩
 have below1:Below w.heap.size w W1:=by rw [hW1];exact ((Below.refl _ w).alloc (Nat.le_refl _) _).alloc (by simp) _
 have atL:W1.heap[D+1]?=some (.loop (y6 fn a.tmps ps assign body D .ready)):=by
  have:=World.alloc_heap_new (w.alloc (.deferred (some []))) (.loop (y6 fn a.tmps ps assign body D .ready))
  rw [World.size_alloc,←hD,←hW1] at this
  exact this
 have atD:W1.heap[D]?=some (.deferred (some [])):=by
  have h:=World.alloc_heap_new w (.deferred (some []))
  rw [←hD] at h
  rw [hW1,Below.heap_alloc _ _ _ (by simp;omega)]
  exact h
 refine ⟨D+1,[{ target := .collected D,args := #[] }],W1,{ target := .fn (.func gf) lb,args := #[.func (.yield (D+1)) #[] #[]] },W1,gf,#[.func (.yield (D+1)) #[] #[]]++lb,W1,?_,?_,fun _ _=>trivial,?_,(fun _=>by omega),?_⟩
 ·rw [hW1,hD];exact run_enterLoop_outer _ _ _ _ _
 ·simp only [resolve,hg]
  simp [go_sem]
 ·simp [invoke,go_sem,eg]
 refine (hseq (D+1) (fun pre V=>I pre V∧V.heap[D+1]?=some (.loop (y6 fn a.tmps ps assign body D .ready))∧V.heap[D]?=some (.deferred (some []))) W1 below1 ?abides ?rounds ⟨hI _ _ _ h0 below1,atL,atD⟩).mono ?after
 case abides =>
  rintro pre A B ⟨h1,h2,h3⟩ hb
  exact ⟨hI _ _ _ h1 hb,(hb.block _ (Array.getElem?_eq_some_iff.1 h2).1).trans h2,(hb.block _ (Array.getElem?_eq_some_iff.1 h3).1).trans h3⟩
 case rounds =>
  rintro pre x V0 ⟨g1,g2,g3⟩ gx
  have hlt0:=(Array.getElem?_eq_some_iff.1 g2).1
  have hlt1:=(Array.getElem?_eq_some_iff.1 g3).1
  have hy:=run_yield (P:=P) (args:=encs x) g2 (hps x)
  obtain ⟨V,hV⟩:∃ V,V=V0.alloc (ob x):=⟨_,rfl⟩
  have bV:Below V0.heap.size V0 V:=by rw [hV];exact (Below.refl _ V0).alloc (Nat.le_refl _) _
  have h1:I pre V:=hI _ _ _ g1 bV
  have h2:V.heap[D+1]?=some (.loop (y6 fn a.tmps ps assign body D .ready)):=(bV.block _ hlt0).trans g2
  have h3:V.heap[D]?=some (.deferred (some [])):=(bV.block _ hlt1).trans g3
  have hx:Ok pre x V:=by rw [hV];exact hOka _ _ _ gx
  have hk0:Kp V0 V:=by rw [hV];exact hKa _ _ (by omega)
  have hbx:V.heap[V0.heap.size]?=some (ob x):=by rw [hV];exact World.alloc_heap_new _ _
  have hlt:=(Array.getElem?_eq_some_iff.1 h2).1
  refine ⟨fn,_,assign,body,hy,roundIn_of_wpIn hfn (hassign _ x V0 _ ?_)⟩
  rw [←hV]
  refine ⟨_,run_beginRound h2 rfl,?_⟩
  have hDL:w.heap.size≤D+1:=by omega
  have b2:(V.putObj (D+1) (.loop (y6 fn a.tmps ps assign body D .busy))).heap[D+1]?=some (.loop (y6 fn a.tmps ps assign body D .busy)):=World.putObj_heap_same hlt
  have b3:(V.putObj (D+1) (.loop (y6 fn a.tmps ps assign body D .busy))).heap[D]?=some (.deferred (some [])):=(World.putObj_heap_other (by omega)).trans h3
  have b4:(V.putObj (D+1) (.loop (y6 fn a.tmps ps assign body D .busy))).heap[V0.heap.size]?=some (ob x):=(World.putObj_heap_other (by omega)).trans hbx
  refine wpIn_mono (hbody _ pre x (V.putObj (D+1) (.loop (y6 fn a.tmps ps assign body D .busy))) V0.heap.size (by omega) b4 (hIp _ _ _ _ _ h1 hDL h2 rfl) (hOk _ _ _ _ _ _ hDL hx h2 rfl)) ?_
  rintro e a3 U hp
  cases e with
  | normal =>
   obtain ⟨k1,k2,k3⟩:=hp
   have u2:=k1.same _ _ (by omega) b2 rfl
   have u3:=k1.same _ _ (by omega) b3 rfl
   have hr:=run_endRound (P:=P) none u2
   refine ⟨_,_,hr,rfl,⟨hIp _ _ _ _ _ k3 hDL u2 rfl,World.putObj_heap_same (Array.getElem?_eq_some_iff.1 u2).1,(World.putObj_heap_other (by omega)).trans u3⟩,?_⟩
   exact hKt hk0 (hKt (hKt (hKb _ _ _ _ hDL h2 rfl) k2) (hKb _ _ _ _ hDL u2 rfl))
  | ret=>exact hp.elim
  | exit _=>exact hp.elim
  | goto _=>exact hp.elim
  | panic _=>exact hp.elim
  | outgrown=>exact hp.elim
 case after =>
  rintro e V ⟨⟨v,rfl⟩,xs,hS,h1,h2,h3⟩
  exact ⟨none,_,run_endLoop (P:=P) h2 (by simp [y6]),hdone D xs _ (by omega) hS (hIp _ _ _ _ _ h1 (by omega) h2 rfl) ((World.putObj_heap_other (by omega)).trans h3)⟩
end
theorem b2J {n₀ Bb:Nat} {t:Tm} {a:Option Addr} {n c:Nat} {w:World} (hn:n₀≤w.heap.size) (hbx:w.heap[Bb]?=some (.cells #[.int .i64 t.f,.slice a n c] 42 (0,0))) (ht:Tat (·< n₀) w t a n c) :
  a0D Tryz.prog 94 #[.pointer (some ⟨Bb,0,none⟩)] (fun x:Tr => #[x.v]) (fun pre x V=>x.ok n₀ V∧pre.length<t.size) (KpT n₀) (fun xs=>xs.map Tr.t=t.flat) w:=by
 intro l J W hW hJ hY h0
 have hdd:∀ k:Nat,(Fence.wide.depth.isSome=true→1≤k):=fun k h=>by cases h
 have hb:W.heap[Bb]?=some (.cells #[.int .i64 t.f,.slice a n c] 42 (0,0)):=(hW.block Bb (Array.getElem?_eq_some_iff.1 hbx).1).trans hbx
 obtain ⟨c1,c2⟩:=a3H hb
 have hwk:=b6A l n₀ t.size J hJ (fun m pre x V hj hx=>a7k m (hY pre x V hj hx)) t 1 a n c [] W (ht.bw hW) (Nat.le_trans hn hW.size) h0 (by simp)
 refine callsIn_of_wp Tryz.func94 rfl trivial ?_ rfl
 simp only [Tryz.ntmps94,List.size_toArray,List.length_cons,List.length_nil,Nat.reduceAdd,Nat.reduceSub,Array.replicate_succ,Array.replicate_zero,List.push_toArray,List.append_toArray,List.nil_append,List.cons_append]
 gi_wp2_with (refine ⟨trivial,?_⟩;gi_at_call 95;refine hwk.mono ?_;rintro e W1 ⟨rfl,xs,hxs,hJ1,hk1⟩)
 go_end0
 exact ⟨⟨_,rfl⟩,xs,hxs,by simpa using hJ1⟩
theorem b9i (f:Int) (a:Option Addr) (n c:Nat) (w:World) :
  CallsIn Fence.wide 2 Tryz.prog 65 #[.agg #[.int .i64 f,.slice a n c]] w fun e w'=>e = .returned (.func (.func 94) #[] #[.pointer (some ⟨w.heap.size,0,none⟩)])∧w'=w.alloc (.cells #[.int .i64 f,.slice a n c] 42):=by
 refine callsIn_of_wp Tryz.func65 rfl trivial ?_ rfl
 simp only [Tryz.ntmps65,List.size_toArray,List.length_cons,List.length_nil,Nat.reduceAdd,Nat.reduceSub,Array.replicate_succ,Array.replicate_zero,List.push_toArray,List.append_toArray,List.nil_append,List.cons_append]
 gi_wp2
 go_ret
 exact ⟨rfl,rfl⟩
attribute [local go_sem] Oper.semAt_some
theorem b0W {n₀ B:Nat} {W:World} {ty:TypeId} {v:Value} (h:Boxed W B ty v) (hty:ty≠42) (hn:n₀≤B) (u:Value):KpT n₀ W (W.setCell ⟨B,0,none⟩ u):=by
 refine ⟨(Below.refl n₀ W).setCell (p:=⟨B,0,none⟩) hn _,fun g cs fl e=>?_⟩
 rw [Below.heap_setCell _ _ _ g (fun e'=>?_)]
 ·exact e
 ·simp only at e'
  subst e'
  rw [show W.heap[g]?=_ from h] at e
  cases e
  exact hty rfl
theorem Q9 {n₀ l:Nat} {W:World} {o:Obj} (o':Obj) (hn:n₀≤l) (h:W.heap[l]?=some o) (ho:o.isCells=false):KpT n₀ W (W.putObj l o'):=by
 refine ⟨⟨rfl,rfl,rfl,by simp [World.putObj],fun q hq=>World.putObj_heap_other (by omega)⟩,fun g cs fl e=>?_⟩
 rw [World.putObj_heap_other]
 ·exact e
 ·rintro rfl
  rw [h] at e
  cases e
  cases ho
def IntI (w:World) (B:Nat) (v:Value) (W:World):Prop:=Boxed W B 3 v∧Below w.heap.size w W
theorem IntI.abides {w A B:World} {b:Nat} {v:Value} (h:IntI w b v A) (hb:Below A.heap.size A B):IntI w b v B:=
 ⟨(hb.block b h.1.lt).trans h.1,h.2.trans (hb.mono h.2.size)⟩
theorem IntI.putObj {w A:World} {b:Nat} {v:Value} (h:IntI w b v A) {l:Nat} {o:Obj} (o':Obj) (hwl:w.heap.size≤l) (hl:A.heap[l]?=some o) (ho:o.isCells=false):IntI w b v (A.putObj l o'):=by
 refine ⟨(World.putObj_heap_other ?_).trans h.1,h.2.trans (Q9 o' hwl hl ho).1⟩
 rintro rfl
 rw [show A.heap[_]?=_ from h.1] at hl
 cases hl
 cases ho
theorem IntI.set {w W:World} {B b:Nat} {v:Value} (h:IntI w b v W) (hb:w.heap.size≤b) (u:Value):KeepsFrom B W (W.setCell ⟨b,0,none⟩ u)∧KpT w.heap.size W (W.setCell ⟨b,0,none⟩ u)∧IntI w b u (W.setCell ⟨b,0,none⟩ u):=
 ⟨(KeepsOthers.setCell _ _ _).from _,b0W h.1 (by decide) hb u,h.1.set u,h.2.trans (b0W h.1 (by decide) hb u).1⟩
theorem Tr.ok.kept {n₀:Nat} {x:Tr} {V V':World} (h:x.ok n₀ V) (hb:Below n₀ V V'):x.ok n₀ V':=h.below hb fun b h _=>h
set_option maxRecDepth 100000 in
set_option maxHeartbeats 2000000 in
theorem b7e {U:Nat→Prop} (t:Tm) (a:Option Addr) (n c:Nat) (w:World) (h:Tat U w t a n c) (hm:t.size≤4611686018427387904) :
  CallsIn Fence.wide 3 Tryz.prog 46 #[.agg #[.int .i64 t.f,.slice a n c]] w fun e W'=>e = .returned (.int .i64 (t.size:Int))∧Below w.heap.size w W':=by
 refine callsIn_of_wp_marks Tryz.func46 rfl trivial ?_ rfl
 simp only [Tryz.ntmps46,List.size_toArray,List.length_cons,List.length_nil,Nat.reduceAdd,Nat.reduceSub,Array.replicate_succ,Array.replicate_zero,List.push_toArray,List.append_toArray,List.nil_append,List.cons_append]
 gi_wp2_with (refine ⟨trivial,?_⟩;gi_at_call 65;refine (b9i _ _ _ _ _).mono ?_;rintro e w' ⟨rfl,rfl⟩)
 obtain ⟨wl,hwl⟩:∃ wl,wl=((w.alloc (.cells #[.int .i64 t.f,.slice a n c] 42)).alloc (.cells #[.int .i64 0] 3)).alloc (.cells #[.int .i64 t.f,.slice a n c] 42):=⟨_,rfl⟩
 have hb0:Below w.heap.size w wl:=by rw [hwl];exact bA (bA (bA (bW _) _) _) _
 have hsz:wl.heap.size=w.heap.size+3:=by rw [hwl];simp
 have hbx:wl.heap[w.heap.size+1+1]?=some (.cells #[.int .i64 t.f,.slice a n c] 42 (0,0)):=by
  rw [hwl]
  have:=World.alloc_heap_new ((w.alloc (.cells #[.int .i64 t.f,.slice a n c] 42)).alloc (.cells #[.int .i64 0] 3)) (.cells #[.int .i64 t.f,.slice a n c] 42)
  rw [World.size_alloc,World.size_alloc] at this
  exact this
 have hI0:IntI w (w.heap.size+1) (.int .i64 (([]:List Tr).length:Int)) wl:=by
  refine ⟨?_,hb0⟩
  rw [hwl]
  have bO:=Boxed.new (w.alloc (.cells #[.int .i64 t.f,.slice a n c] 42)) 3 (.int .i64 0)
  rw [World.size_alloc] at bO
  exact bO.alloc _
 have ht:Tat (·< w.heap.size) wl t a n c:=(h.mono (V:=(·< w.heap.size)) fun b _ hb=>hb).below hb0 fun b hb _=>hb
 rw [←hwl]
 clear hwl h
 refine a6U (gf:=94) (lb := #[.pointer (some ⟨w.heap.size+1+1,0,none⟩)]) rfl (enters_of Tryz.func94 (by kernel_rfl) rfl)
  (b2J (n₀:=w.heap.size) (by omega) hbx ht) (fun h k=>h.trans k) (fun W l o o' hl h ho=>Q9 o' (by omega) h ho) (fun pre x W l o o' hl hx h ho=>⟨hx.1.kept (Q9 o' (by omega) h ho).1,hx.2⟩) (fun _=>rfl)
  (fun pre W=>IntI w (w.heap.size+1) (.int .i64 (pre.length:Int)) W) (fun pre A B h hb=>h.abides hb) (fun pre A l o o' h hl h1 h2=>h.putObj o' (by omega) h1 h2) hI0
  (fun x=>{ tmps := #[.agg #[.int .i64 t.f,.slice a n c],.pointer (some ⟨w.heap.size,0,none⟩),.int .i64 0,.pointer (some ⟨w.heap.size+1,0,none⟩),.agg #[.int .i64 t.f,.slice a n c],.func (.func 94) #[] #[.pointer (some ⟨w.heap.size+1+1,0,none⟩)],x.v,undef,undef,undef],defers:=[] }) ?assign ?body ?done
 case assign =>
  intro l x W K hK
  gi_wp2
  have hz:(#[6]:Array Tmp).zip #[x.v] = #[(6,x.v)]:=by simp
  rw [hz]
  exact hK
 case body =>
  rintro l pre x W hI ⟨hx,hlt⟩
  have hc:=hI.1.cell
  have hf:=hI.1.frozen
  have hkm:pre.length<4611686018427387904:=by omega
  gi_wp2
  have:=hI.set (B:=wl.heap.size) (by omega) (.int .i64 ((pre.length:Int)+1))
  rw [List.length_append]
  exact this
 case done =>
  rintro D xs W hD hS hI hK
  have hc:=hI.1.cell
  gi_wp2
  refine ⟨by simp,.inl ⟨_,_,rfl,run_takeDeferred hK,?_⟩⟩
  refine ⟨_,results_tmp rfl _ _ _,?_,?_⟩
  ·have h1:=congrArg List.length hS
   rw [List.length_map] at h1
   rw [show t.size=xs.length from h1.symm]
   rfl
  ·exact hI.2.trans (Q9 _ (by omega) hK rfl).1
theorem b4p {U:Nat→Prop} {t:Tm} {a:Option Addr} {n c:Nat} {w:World} (h:Tat U w t a n c) (hm:t.size≤4611686018427387904) :
  Calls Tryz.prog 46 #[.agg #[.int .i64 t.f,.slice a n c]] w fun e W'=>e = .returned (.int .i64 (t.size:Int))∧Below w.heap.size w W':=
 callsIn_wide.1 (b7e t a n c w h hm)
def Tr.ob (x:Tr):Obj := .cells #[.int .i64 x.t.f,.slice x.a x.n x.c] 42 (0,0)
def c3F (f:Int) (l:List Tm):Nat:=(l.filter fun s=>decide (s.f=f)).length
theorem a5v {A:World} {b:Nat} {ty:TypeId} {v:Value} (h:Boxed A b ty v) {l:Nat} {o:Obj} (o':Obj) (hl:A.heap[l]?=some o) (ho:o.isCells=false):Boxed (A.putObj l o') b ty v:=by
 refine (World.putObj_heap_other ?_).trans h
 rintro rfl
 rw [show A.heap[_]?=_ from h] at hl
 cases hl
 cases ho
def c3y (l:List Tm):Int:=l.foldl (fun m s=>if s.f<0 then max m (-1-s.f) else m) (-1)
end Go.Proofs.YtglmoficcjphaaaGreat
namespace Go.Proofs.YtglmoficcjphaaaGreat
open Go.RowKit
set_option linter.unusedVariables false
theorem a9i {P:Program} (w:World) (t ty e:TypeId) (z:Value) (size bytes:Nat) (ht:P.underlying t=some (.slice e)) (hi:(P.info? e).map (fun i=>(i.zero,i.size,i.bytes))=some (some z,size,bytes)) (hzs:z.cells.size=size) (hsz:0<size)
  (v:Value) (n:Nat) (xs:List Value) (hown:w.ownsRow 0 e size v n xs) (ad:Addr) (m c:Nat) (ys:List Value) (hb:Cs w (some ad) ys) (hl:ys.length=m*size) (h1:∀ u∈ys,u.oneCell'=true) (h63:n+m≤maxLen) (hbytes:(n+m)*bytes≤140737488355328) :
  ∃ v' w',Sem.run P (Builtin.append_ #[t,t] ty #[v,.slice (some ad) m c]) w = .ok v' w'∧w'.ownsRow 0 e size v' (n+m) (xs++ys)∧w.grownBy w' v.ownBlock∧(v'.ownBlock=v.ownBlock∨∀ g,v'.ownBlock=some g→w.heap.size≤g):=by
 obtain ⟨i,hi1,hi2,hi3,hi4⟩:=info_parts hi
 have hnews:∀ j u,ys[j]?=some u→w.cell? (ad.add j)=some u:=by
  intro j u hj
  have hjl:j<ys.length:=by
   rcases Nat.lt_or_ge j ys.length with h | h
   ·exact h
   ·rw [List.getElem?_eq_none h] at hj;cases hj
  rcases hb with rfl | ⟨b,off,ha,hlt,hc⟩
  ·simp at hjl
  ·cases ha
   rw [show (⟨b,off,none⟩:Addr).add j=⟨b,off+j,none⟩ by simp [Addr.add],hc j hjl,hj]
 rcases hown.2 with ⟨rfl,rfl⟩ | ⟨g,cap,cur,rfl,hbg,hg,hnc,hcm,hcs,htake⟩
 ·have hx:xs=[]:=List.eq_nil_of_length_eq_zero (by simpa using hown.1)
  subst hx
  obtain ⟨v',w',hr,ho,hg,_⟩:=run_append_own (P:=P) w w.heap.size t ty e i z size bytes ht hi1 hi2 hi3 hi4 hzs hsz (.slice none 0 0) 0 [] (World.ownsRow_nil _ _ _ _) ad m c ys hl hnews h1 h63 hbytes (Nat.le_refl _)
  exact ⟨v',w',hr,r7 ho (Nat.zero_le _),hg,.inr (fun g hg=>(ho.lt g hg).1)⟩
 ·by_cases hroom:n+m≤cap
  ·obtain ⟨w',hr,ho,hgr⟩:=run_append_fits (P:=P) w 0 t ty e i size ht hi1 hi3 g n cap xs hown ad m c ys hl hnews h1 hroom
   exact ⟨_,w',hr,ho,hgr,.inl rfl⟩
  ·obtain ⟨v',w',hr,ho,hgr⟩:=run_append_arg_grows (P:=P) w t ty e i z size bytes ht hi1 hi2 hi3 hi4 hzs hsz ⟨g,0,none⟩ n cap xs hown.1 (hown.cells (g:=g) rfl) ad m c ys hl hnews (by omega) h63 hbytes
   exact ⟨v',w',hr,r7 ho (Nat.zero_le _),hgr.but _,.inr (fun g hg=>(ho.lt g hg).1)⟩
theorem a4s {P:Program} (w:World) {ops:Array Oper} {rest:List Oper} {o:Oper} {a:Act} {Q:Exit→Act→World→Prop} (hgd:Region.wanted o (yielded ops a.tmps)=true) (so x:Operand) (t:TypeId)
  (ho:o.op = .call { callee := .builtin .append,args := #[so,x],argTypes := #[t,t] }) (v y:Value) (hs:a.eval so=v) (hx:a.eval x=y) (v':Value) (w':World) (hrun:Sem.run P (Builtin.append_ #[t,t] o.type #[v,y]) w = .ok v' w') (h:wpList P ops Q rest (a.put o.dst v') w'):wpList P ops Q (o::rest) a w:=by
 refine Y2 hgd fun K hK=>?_
 unfold Oper.wp
 simp [execOp,ho,resolve,invoke,builtin,hs,hx,hrun,Result.andThen]
 exact hK _ _ h
theorem b1v {P:Program} (w:World) {ops:Array Oper} {o:Oper} {a:Act} {K:Act→World→Prop} {Q:Exit→Act→World→Prop} {E:Prop} (hgd:Region.wanted o (yielded ops a.tmps)=true) (f:Nat) (x:Operand) (ts:Array TypeId)
  (ho:o.op = .call { callee := .value (.func f),args := #[x],argTypes:=ts }) (eg:∀ args w,(callFunc f args).run P w = .ok (.enter f args) w) (v:Value) (hx:a.eval x=v) {R:Ending→World→Prop} (hc:Calls P f #[v] w R) (h:∀ e w',R e w'→∃ u,e = .returned u∧K (a.put o.dst u) w') :
  if Region.wanted o (yielded ops a.tmps)=true then Oper.wp P o a w K Q else E:=by
 rw [if_pos hgd]
 unfold Oper.wp
 have he:(execOp a.eval o).run P w = .ok (.enter f #[v]) w:=by
  rw [←hx]
  cases x<;>simp [execOp,ho,resolve,invoke,go_sem,eg]
 rw [he,Oper.upon_enter]
 refine hc.mono ?_
 rintro e w' hr
 obtain ⟨u,rfl,hk⟩:=h e w' hr
 exact hk
theorem a6T {w:World} {B:Nat} {e:TypeId} {size:Nat} {v:Value} {n:Nat} {xs:List Value} (h:w.ownsRow 0 e size v n xs) (hb:∀ g,v.ownBlock=some g→B≤g):w.ownsRow B e size v n xs:=by
 obtain ⟨h1,h2⟩:=h
 refine ⟨h1,?_⟩
 rcases h2 with h2 | ⟨g,cap,cur,rfl,hg,r⟩
 ·exact .inl h2
 ·exact .inr ⟨g,cap,cur,rfl,hb g rfl,r⟩
theorem b6N {P:Program} {w:World} {B:Nat} (hB:B≤w.heap.size) (t e:TypeId) (z:Value) (size bytes:Nat) (ht:P.underlying t=some (.slice e)) (hi:(P.info? e).map (fun i=>(i.zero,i.size,i.bytes))=some (some z,size,bytes)) (hzs:z.cells.size=size) (hsz:0<size)
  (v:Value) (n:Nat) (xs ys:List Value) (hrow:w.ownsRow B e size v n xs) (hl:ys.length=size) (h1:∀ u∈ys,u.oneCell'=true) (hn:n≤100000000000) (hbt:bytes≤1000) :
  ∃ a' c' w',Sem.run P (Builtin.append_ #[t,t] t #[v,.slice (some ⟨w.heap.size,0,none⟩) 1 1]) (w.alloc (.cells ys.toArray e)) = .ok (.slice a' (n+1) c') w'∧w'.ownsRow B e size (.slice a' (n+1) c') (n+1) (xs++ys)∧Below B w w'∧(∀ b,b<w.heap.size→v.ownBlock≠some b→w'.heap[b]?=w.heap[b]?)∧∀ g,(Value.slice a' (n+1) c').ownBlock=some g→v.ownBlock=some g∨w.heap.size≤g:=by
 have hmul:(n+1)*bytes≤100000000001*1000:=Nat.mul_le_mul (by omega) hbt
 have hrow1:(w.alloc (.cells ys.toArray e)).ownsRow 0 e size v n xs:=r7 (hrow.alloc _) (Nat.zero_le _)
 obtain ⟨v',w',hrun,ho,hg,hv⟩:=a9i (P:=P) (w.alloc (.cells ys.toArray e)) t t e z size bytes ht hi hzs hsz v n xs hrow1 ⟨w.heap.size,0,none⟩ 1 1 ys (Cs.new _ _ _) (by rw [hl,Nat.one_mul]) h1 (by unfold maxLen;omega) (by omega)
 obtain ⟨a',c',rfl,_⟩:=F6 ho
 have hv':∀ g,(Value.slice a' (n+1) c').ownBlock=some g→v.ownBlock=some g∨w.heap.size≤g:=fun g hg'=>by
  rcases hv with e | e
  ·left;rw [←e];exact hg'
  ·right;have:=e g hg';rw [World.size_alloc] at this;omega
 refine ⟨a',c',w',hrun,a6T ho (fun g hg'=>?_),?_,fun b hb hne=>?_,hv'⟩
 ·rcases hv' g hg' with e | e
  ·exact (hrow.lt g e).1
  ·omega
 ·exact ((Below.refl B w).alloc hB _).trans ((Below.refl _ _).grown hg (by simp;omega) fun k hk=>(hrow.lt k hk).1)
 ·rw [hg.block b (by simp;omega) (fun e=>hne e.symm),Below.heap_alloc _ _ _ hb]
def OwnT (e:TypeId) (U:Nat→Prop) (w:World) (base:Nat) (v:Value) (l:List Tm):Prop:=∃ xs,w.ownsRow base e 2 v l.length xs∧Ecs (fun b=>U b∧v.ownBlock≠some b) w l xs
theorem OwnT.nil (e:TypeId) (U:Nat→Prop) (w:World) (base:Nat):OwnT e U w base (.slice none 0 0) []:=⟨[],World.ownsRow_nil _ _ _ _,Ecs.nil_iff.2 rfl⟩
theorem OwnT.las {e:TypeId} {U:Nat→Prop} {w:World} {base:Nat} {v:Value} {l:List Tm} (h:OwnT e U w base v l) (hU:∀ b,base≤b→b<w.heap.size→U b):∃ a c,v = .slice a l.length c∧Las U w l a l.length c:=by
 obtain ⟨xs,h1,h2⟩:=h
 obtain ⟨a,c,e1,e2,e3,e4,e5⟩:=F6 h1
 refine ⟨a,c,e1,rfl,e2,e3,e4,xs,?_,h2.mono fun b hb _=>hb.1⟩
 rcases e5 with h | ⟨b,off,ha,hlt,hc⟩
 ·exact .inl h
 ·refine .inr ⟨b,off,ha,hU b ?_ hlt,hlt,hc⟩
  subst ha
  obtain ⟨_,h3⟩:=h1
  rcases h3 with ⟨h3,_⟩ | ⟨g,cap,cur,h3,hb,_⟩
  ·rw [e1] at h3;cases h3
  ·rw [e1] at h3;cases h3;exact hb
theorem OwnT.lt {e:TypeId} {U:Nat→Prop} {w:World} {base:Nat} {v:Value} {l:List Tm} (h:OwnT e U w base v l) {g:Nat} (hg:v.ownBlock=some g):base≤g∧g<w.heap.size:=by
 obtain ⟨xs,h1,h2⟩:=h
 exact h1.lt g hg
theorem OwnT.bw {e:TypeId} {U:Nat→Prop} {w w':World} {base:Nat} {v:Value} {l:List Tm} (h:OwnT e U w base v l) (hb:Below w.heap.size w w'):OwnT e U w' base v l:=by
 obtain ⟨xs,h1,h2⟩:=h
 exact ⟨xs,a4l h1 hb (Nat.le_refl _),h2.below hb fun b _ h=>h⟩
theorem OwnT.keep {e:TypeId} {U:Nat→Prop} {w w':World} {base:Nat} {v:Value} {l:List Tm} (h:OwnT e U w base v l) (hU:∀ b,U b→base≤b) (hs:∀ b,base≤b→b<w.heap.size→w'.heap[b]?=w.heap[b]?):OwnT e U w' base v l:=by
 obtain ⟨xs,h1,h2⟩:=h
 refine ⟨xs,?_,h2.keep fun b hb hlt=>⟨hb,hs b (hU b hb.1) hlt⟩⟩
 refine ⟨h1.1,?_⟩
 rcases h1.2 with h3 | ⟨g,cap,cur,rfl,hg,hh,r⟩
 ·exact .inl h3
 ·exact .inr ⟨g,cap,cur,rfl,hg,(hs g hg (Array.getElem?_eq_some_iff.1 hh).1).trans hh,r⟩
theorem OwnT.mono {e:TypeId} {U V:Nat→Prop} {w:World} {base base':Nat} {v:Value} {l:List Tm} (h:OwnT e U w base v l) (hb:base'≤base) (hU:∀ b,U b→V b):OwnT e V w base' v l:=by
 obtain ⟨xs,h1,h2⟩:=h
 exact ⟨xs,r7 h1 hb,h2.mono fun b hb _=>⟨hU b hb.1,hb.2⟩⟩
theorem b9m {P:Program} {U:Nat→Prop} {w:World} {B:Nat} (hB:B≤w.heap.size) (t e:TypeId) (z:Value) (bytes:Nat) (ht:P.underlying t=some (.slice e)) (hi:(P.info? e).map (fun i=>(i.zero,i.size,i.bytes))=some (some z,2,bytes)) (hzs:z.cells.size=2) (hbt:bytes≤1000)
  {v:Value} {l:List Tm} {s:Tm} {a:Option Addr} {n c:Nat} (h:OwnT e U w B v l) (hs:Tat (fun b=>U b∧v.ownBlock≠some b) w s a n c) (hn:l.length≤100000000000) :
  ∃ a' c' w',Sem.run P (Builtin.append_ #[t,t] t #[v,.slice (some ⟨w.heap.size,0,none⟩) 1 1]) (w.alloc (.cells #[.int .i64 s.f,.slice a n c] e)) = .ok (.slice a' (l.length+1) c') w'∧OwnT e U w' B (.slice a' (l.length+1) c') (l++[s])∧Below B w w'∧(∀ b,b<w.heap.size→v.ownBlock≠some b→w'.heap[b]?=w.heap[b]?)∧∀ g,(Value.slice a' (l.length+1) c').ownBlock=some g→v.ownBlock=some g∨w.heap.size≤g:=by
 obtain ⟨xs,h1,h2⟩:=h
 obtain ⟨a',c',w',hr,ho,hb,hk,hv⟩:=b6N (P:=P) hB t e z 2 bytes ht hi hzs (by decide) v l.length xs [.int .i64 s.f,.slice a n c] h1 rfl (by simp [Value.oneCell']) hn hbt
 have hkeep:∀ b,(U b∧v.ownBlock≠some b)→b<w.heap.size→(U b∧(Value.slice a' (l.length+1) c').ownBlock≠some b)∧w'.heap[b]?=w.heap[b]?:=fun b h3 h4=>by
  refine ⟨⟨h3.1,fun e=>?_⟩,hk b h4 h3.2⟩
  rcases hv b e with e' | e'
  ·exact h3.2 e'
  ·omega
 refine ⟨a',c',w',hr,⟨xs++[.int .i64 s.f,.slice a n c],?_,(h2.keep hkeep).append (Ecs.single (hs.keep hkeep))⟩,hb,hk,hv⟩
 rw [List.length_append]
 exact ho
end Go.Proofs.YtglmoficcjphaaaGreat
namespace Go.Proofs.YtglmoficcjphaaaGreat
open Go.RowKit
set_option linter.unusedVariables false
set_option linter.unusedSimpArgs false
theorem b6K:(Tryz.prog.info? 42).map (fun i=>(i.zero,i.size,i.bytes))=some (some (.agg #[.int .i64 0,.slice none 0 0]),2,32):=by kernel_rfl
theorem a0l:(Tryz.prog.info? 42).map (fun i=>i.size)=some 2:=by kernel_rfl
def CloneSays (w:World) (t:Tm) (e:Ending) (w':World):Prop:=∃ a c,e = .returned (.agg #[.int .i64 t.f,.slice a t.ps.length c])∧OwnT 42 (fun b=>w.heap.size≤b) w' w.heap.size (.slice a t.ps.length c) (t.ps.map Tm.strip)∧Below w.heap.size w w'
theorem CloneSays.tat {w w':World} {t:Tm} {e:Ending} (h:CloneSays w t e w') (hf : -9223372036854775808≤t.f∧t.f≤9223372036854775807):∃ a n c,e = .returned (.agg #[.int .i64 t.f,.slice a n c])∧Tat (fun b=>w.heap.size≤b) w' t.strip a n c∧Below w.heap.size w w':=by
 obtain ⟨a0,c0,h1,h2,h3⟩:=h
 obtain ⟨a,c,e1,h4⟩:=h2.las fun b h _=>h
 rw [e1] at h1
 refine ⟨a,_,c,h1,R1.2 ⟨by rw [Tm.strip_f];exact hf,?_⟩,h3⟩
 rw [Tm.strip_l]
 exact h4
set_option maxRecDepth 100000 in
set_option maxHeartbeats 800000 in
theorem a5y {U:Nat→Prop} {l:List Tm} {a:Option Addr} {n c:Nat} {w:World} (h:Las U w l a n c) (hn:n≤90000000000)
  (hC:∀ t∈l,∀ (a:Option Addr) (n c:Nat) (w':World),Tat U w' t a n c→Calls Tryz.prog 86 #[.agg #[.int .i64 t.f,.slice a n c]] w' (CloneSays w' t)) :
  Calls Tryz.prog 117 #[.slice a n c] w fun e w'=>∃ a c,e = .returned (.slice a l.length c)∧OwnT 42 (fun b=>w.heap.size≤b) w' w.heap.size (.slice a l.length c) (l.map Tm.strip)∧Below w.heap.size w w':=by
 have HL:=hid h.len
 have HA:Hid (∀ w',Below w.heap.size w w'→Las U w' l a n c):=fun w' hb=>h.bw hb
 have HC:=hid hC
 clear h hC
 go_enter Tryz.func117,Tryz.ntmps117
 go_wp2
 go_loopw [3,8] (fun vv i wr=>∃ (k:Nat) (av:Option Addr) (cv:Nat),vv = .slice av k cv∧i = .int .i64 (k:Int)∧k≤n∧OwnT 42 (fun b=>w.heap.size≤b) wr w.heap.size (.slice av k cv) ((l.take k).map Tm.strip)∧Below w.heap.size w wr) (fun _ i _=>n-(intOf i).toNat)
 case atStart=>exact ⟨0,_,_,rfl,rfl,by omega,OwnT.nil _ _ _ _,bW _⟩
 case round =>
  obtain ⟨k,av,cv,rfl,rfl,hk,ho,hbr⟩:=hrel
  by_cases hlt:k<n
  ·obtain ⟨b,off,s,a',n',c',rfl,hU,hlt',hs,hT,e1,e2⟩:=(HA.out wr hbr).at hlt
   have HS:=hid hs
   clear hs
   have hb1:Below wr.heap.size wr (wr.alloc (.cells #[.int .i64 s.f,.slice a' n' c'] 42)):=bA (bW _) _
   have HCall:=hid (HC.out s (List.mem_of_getElem? HS.out) a' n' c' _ (hT.bw hb1))
   have HF:=hid hT.wf
   have HApp:Hid (∀ w1 a1 n1 c1,Below wr.heap.size wr w1→Tat (fun b=>wr.heap.size+1≤b) w1 s.strip a1 n1 c1→∃ a' c' w',Sem.run Tryz.prog (Builtin.append_ #[40,40] 40 #[.slice av k cv,.slice (some ⟨w1.heap.size,0,none⟩) 1 1]) (w1.alloc (.cells #[.int .i64 s.f,.slice a1 n1 c1] 42)) = .ok (.slice a' (k+1) c') w'∧OwnT 42 (fun b=>w.heap.size≤b) w' w.heap.size (.slice a' (k+1) c') ((l.take (k+1)).map Tm.strip)∧Below w.heap.size w w'):=by
    intro w1 a1 n1 c1 hw1 ht1
    have ho1:=ho.bw hw1
    have hs1:Tat (fun b=>w.heap.size≤b∧(Value.slice av k cv).ownBlock≠some b) w1 s.strip a1 n1 c1:=ht1.mono fun b hb _=>⟨by have:=hbr.size;omega,fun e=>by have:=(ho.lt e).2;omega⟩
    have hkl:((l.take k).map Tm.strip).length=k:=by rw [List.length_map,List.length_take];have:=HL.out;omega
    obtain ⟨a',c',w',hr,h1,h2,_,_⟩:=b9m (P:=Tryz.prog) (U:=fun b=>w.heap.size≤b) (B:=w.heap.size) (Nat.le_trans hbr.size hw1.size) 40 42 _ 32 Tryz.underlying40 b6K rfl (by decide) ho1 hs1 (by omega)
    rw [Tm.strip_f,hkl] at hr
    rw [hkl] at h1
    refine ⟨a',c',w',hr,?_,(hbr.trans (hw1.mono hbr.size)).trans h2⟩
    rw [List.take_add_one,HS.out,List.map_append]
    exact h1
   clear ho hT
   go_wp2_with (first
    | (go_at_call 86;refine HCall.out.mono ?_;rintro e w1 hcs;obtain ⟨a1,n1,c1,rfl,ht1,hb1'⟩:=hcs.tat HF.out;rw [World.size_alloc] at ht1;obtain ⟨a2,c2,w2,hr2,ho2,hb2⟩:=HApp.out w1 a1 n1 c1 (bN hb1 hb1') ht1;clear hcs ht1)
    | (at_builtin;refine a4s _ rfl _ _ _ rfl _ _ rfl rfl _ _ hr2 ?_))
   go_wp2
   go_roundw
   case rel=>exact ⟨k+1,_,_,rfl,by go_num,by omega,ho2,hb2⟩
   case measure=>simp [intOf];omega
  ·have HE:Hid (l.take k=l):=List.take_of_length_le (by have:=HL.out;omega)
   rw [HE.out] at ho
   have HK:Hid (k=l.length):=by show _=_;have:=HL.out;omega
   go_wp2
   go_ret
   exact ⟨av,cv,by rw [←HK.out];rfl,by rw [←HK.out];exact ho,hbr⟩
theorem a5n {W:World} {g:Nat} {x y:Value} {t:TypeId} (h:W.heap[g]?=some (.cells #[x,y] t (0,0))) (x' y':Value):((W.setCell ⟨g,0,none⟩ x').setCell ⟨g,1,none⟩ y').heap[g]?=some (.cells #[x',y'] t (0,0)):=by
 obtain ⟨hlt,hk⟩:=Array.getElem?_eq_some_iff.1 h
 have h1:(W.setCell ⟨g,0,none⟩ x').heap[g]?=some (.cells #[x',y] t (0,0)):=by
  show (W.heap.modify g _)[g]?=_
  rw [Array.getElem?_eq_getElem (by rw [Array.size_modify];exact hlt),Array.getElem_modify_self,hk]
  rfl
 obtain ⟨hlt2,hk2⟩:=Array.getElem?_eq_some_iff.1 h1
 show ((W.setCell ⟨g,0,none⟩ x').heap.modify g _)[g]?=_
 rw [Array.getElem?_eq_getElem (by rw [Array.size_modify];exact hlt2),Array.getElem_modify_self,hk2]
 rfl
theorem a2z {w:World} {b:Nat} {x y:Value} {t:TypeId} (h:w.heap[b]?=some (.cells #[x,y] t (0,0))):w.frozen? ⟨b,0,none⟩=false∧w.frozen? ⟨b,1,none⟩=false:=by
 constructor<;>simp [World.frozen?,h]
theorem a4r {tmps:Array Value} {w:World} {g:Nat} {x y:Value} (hp:tmps.getD 2 undef = .pointer (some ⟨g,0,none⟩)) (hg:w.heap[g]?=some (.cells #[x,y] 42 (0,0))) :
  (results Tryz.f86 tmps).run Tryz.prog w = .ok (.agg #[x,y]) w:=by
 have hp':tmps[2]?.getD undef = .pointer (some ⟨g,0,none⟩):=by simpa using hp
 simp [results,hp',asAddr,run_loadVar_row w g _ 42 #[x,y] (0,0) _ hg Tryz.underlying42 rfl a0l]
set_option maxRecDepth 100000 in
set_option maxHeartbeats 800000 in
theorem b2u {U:Nat→Prop}:∀ (t:Tm) (a:Option Addr) (n c:Nat) (w:World),Tat U w t a n c→t.size≤90000000000→Calls Tryz.prog 86 #[.agg #[.int .i64 t.f,.slice a n c]] w (CloneSays w t):=by
 intro t
 induction t using Tm.indp with
 | h t ih =>
  intro a n c w ht hsz
  obtain ⟨w0,hw0⟩:∃ w0,w0=(w.alloc (.cells #[.int .i64 t.f,.slice a n c] 42)).alloc (.cells #[.int .i64 0,.slice none 0 0] 42):=⟨_,rfl⟩
  have HX:Hid (∀ w1,Below w0.heap.size w0 w1→w1.heap[w.heap.size+1]?=some (.cells #[.int .i64 0,.slice none 0 0] 42 (0,0))):=fun w1 hb=>by
   have h1:=World.alloc_heap_new (w.alloc (.cells #[.int .i64 t.f,.slice a n c] 42)) (.cells #[.int .i64 0,.slice none 0 0] 42)
   rw [World.size_alloc,←hw0] at h1
   exact (hb.block _ (Array.getElem?_eq_some_iff.1 h1).1).trans h1
  have HB:Hid (∀ w1,Below w0.heap.size w0 w1→((w1.cell? ⟨w.heap.size,0,none⟩=some (.int .i64 t.f)∧w1.cell? ⟨w.heap.size,1,none⟩=some (.slice a n c))∧(w1.cell? ⟨w.heap.size+1,0,none⟩=some (.int .i64 0)∧w1.cell? ⟨w.heap.size+1,1,none⟩=some (.slice none 0 0)))∧(w1.frozen? ⟨w.heap.size+1,0,none⟩=false∧w1.frozen? ⟨w.heap.size+1,1,none⟩=false)):=fun w1 hb=>by
   refine ⟨?_,a2z (HX.out w1 hb)⟩
   rw [hw0] at hb;exact c0g hb
  have HW:=hid hw0
  have HB0:Hid (Below w.heap.size w w0):=by rw [hw0];exact bA (bA (bW _) _) _
  clear hw0
  have HP:Hid (∀ w1,Below w0.heap.size w0 w1→Calls Tryz.prog 118 #[.agg #[.int .i64 t.f,.slice a n c]] w1 fun e w'=>Below w1.heap.size w1 w'∧∃ a' n' c',e = .returned (.slice a' n' c')∧Las U w' t.ps a' n' c'):=fun w1 hb=>U2 (ht.bw (bN HB0.out hb))
  have hlp:=t.len_ps
  have HC:Hid (∀ w1 a' n' c',Las U w1 t.ps a' n' c'→Calls Tryz.prog 117 #[.slice a' n' c'] w1 fun e w'=>∃ a c,e = .returned (.slice a t.ps.length c)∧OwnT 42 (fun b=>w1.heap.size≤b) w' w1.heap.size (.slice a t.ps.length c) (t.ps.map Tm.strip)∧Below w1.heap.size w1 w'):=fun w1 a' n' c' h=>a5y h (by have:=h.1;omega) (fun s hs a n c w' h'=>ih s hs a n c w' h' (by have:=Tm.size_part hs;omega))
  have HST:Hid (∀ w1 x y,Below w0.heap.size w0 w1→((w1.setCell ⟨w.heap.size+1,0,none⟩ x).setCell ⟨w.heap.size+1,1,none⟩ y).cell? ⟨w.heap.size,0,none⟩=some (.int .i64 t.f)∧((w1.setCell ⟨w.heap.size+1,0,none⟩ x).setCell ⟨w.heap.size+1,1,none⟩ y).cell? ⟨w.heap.size,1,none⟩=some (.slice a n c)):=fun w1 x y hb=>by
   have h1:=(HB.out w1 hb).1.1
   have h2:((w1.setCell ⟨w.heap.size+1,0,none⟩ x).setCell ⟨w.heap.size+1,1,none⟩ y).heap[w.heap.size]?=w1.heap[w.heap.size]?:=by
    rw [Below.heap_setCell _ _ _ _ (by show w.heap.size≠w.heap.size+1;omega),Below.heap_setCell _ _ _ _ (by show w.heap.size≠w.heap.size+1;omega)]
   exact ⟨(Z8 h2).trans h1.1,(Z8 h2).trans h1.2⟩
  have hq:Below w0.heap.size w0 w0:=bW _
  obtain ⟨⟨⟨c1,c2⟩,c3,c4⟩,c5,c6⟩:=HB.out w0 hq
  clear ih ht
  go_enter Tryz.func86,Tryz.ntmps86
  go_wp2_with fail
  rw [←HW.out]
  go_region_held3 (fun w'=>w'.cell? ⟨w.heap.size,0,none⟩=some (.int .i64 t.f)∧w'.cell? ⟨w.heap.size,1,none⟩=some (.slice a n c)) (first | (refine (HB.out _ ?_).1.1;with_reducible exact hq) | (refine (HB.out _ ?_).1.1;with_reducible exact bD hq) | (refine HST.out _ _ _ ?_;with_reducible exact hq))
   (first
    | (go_at_call 118;refine (HP.out _ (by first | with_reducible exact hq | with_reducible exact bD hq)).mono ?_;rintro e w2 ⟨hb2,a2,n2,c2,rfl,hl2⟩;replace hq:=bN (by first | with_reducible exact hq | with_reducible exact bD hq) hb2;clear hb2;dsimp only)
    | (go_at_call 117;refine (HC.out _ _ _ _ hl2).mono ?_;rintro e w3 ⟨a3,c3,rfl,ho3,hb3⟩;have hq2:=hq;replace hq:=bN (by first | with_reducible exact hq | with_reducible exact bD hq) hb3;obtain ⟨⟨_,d3,d4⟩,d5,d6⟩:=HB.out _ hq;dsimp only))
  go_wp2_with fail
  refine bodyPost_ret (a4r (g:=w.heap.size+1) rfl (a5n (HX.out _ hq) _ _)) rfl ?_
  have hle:w0.heap.size≤w2.heap.size:=hq2.size
  have hw0:w0.heap.size=w.heap.size+2:=by rw [HW.out];simp
  refine ⟨a3,c3,rfl,?_,?_⟩
  ·refine (ho3.keep (fun b h=>h) fun b hb hlt=>?_).mono (by omega) (fun b h=>by omega)
   rw [Below.heap_setCell _ _ _ _ (by show b≠w.heap.size+1;omega),Below.heap_setCell _ _ _ _ (by show b≠w.heap.size+1;omega)]
  ·exact ((bN HB0.out hq).setCell (p:=⟨w.heap.size+1,0,none⟩) (by show w.heap.size≤w.heap.size+1;omega) _).setCell (p:=⟨w.heap.size+1,1,none⟩) (by show w.heap.size≤w.heap.size+1;omega) _
end Go.Proofs.YtglmoficcjphaaaGreat
namespace Go.Proofs.YtglmoficcjphaaaGreat
open Go.RowKit
set_option linter.unusedVariables false
def a9M (R:Nat→List Value):Nat→List Value
 | 0=>[]
 | k+1=>a9M R k++R k
def a8S (L:Nat→Nat):Nat→Nat
 | 0=>0
 | k+1=>a8S L k+L k
theorem b7c (L:Nat→Nat) {k m:Nat} (h:k≤m):a8S L k≤a8S L m:=by
 induction h with
 | refl=>exact Nat.le_refl _
 | step h ih=>rw [a8S];omega
def Rw (size:Nat) (w:World) (a:Option Addr) (m:Nat) (A:Nat→Option Addr) (L C:Nat→Nat) (R:Nat→List Value):Prop:=
 (∀ r,r<m→(A r=none→L r=0∧C r=0)∧Cs w (A r) (R r)∧(R r).length=L r*size∧(∀ u∈R r,u.oneCell'=true)) ∧
 (m=0∨∃ b off,a=some ⟨b,off,none⟩∧b<w.heap.size∧∀ r,r<m→w.cell? ⟨b,off+r,none⟩=some (.slice (A r) (L r) (C r)))
theorem Rw.below {B size:Nat} {w w':World} {a:Option Addr} {m:Nat} {A:Nat→Option Addr} {L C:Nat→Nat} {R:Nat→List Value} (h:Rw size w a m A L C R) (hb:Below B w w') (hB:w.heap.size≤B):Rw size w' a m A L C R:=by
 refine ⟨fun r hr=>⟨(h.1 r hr).1,(h.1 r hr).2.1.below hb hB,(h.1 r hr).2.2⟩,?_⟩
 rcases h.2 with h0 | ⟨b,off,rfl,hlt,hc⟩
 ·exact .inl h0
 ·exact .inr ⟨b,off,rfl,Nat.lt_of_lt_of_le hlt hb.size,fun r hr=>by rw [hb.cell (by show b<B;omega)];exact hc r hr⟩
end Go.Proofs.YtglmoficcjphaaaGreat
namespace Go.Proofs.YtglmoficcjphaaaGreat
open Go.RowKit
set_option linter.unusedVariables false
set_option linter.unusedSimpArgs false
def a6A:List (List (List Int))→Nat→List (List Int)
 | [],_=>[]
 | ps::rest,k=>ps.map (fun p=>(k:Int)::p)++a6A rest (k+1)
def Tm.places:Tm→List (List Int)
 | ⟨f,l⟩=>[]::(if f<0 then [] else a6A (l.map Tm.places) 0)
def Tm.placesL (l:List Tm) (k:Nat):List (List Int):=a6A (l.map Tm.places) k
structure Pr where
 a:Option Addr
 n:Nat
 c:Nat
 p:List Int
def Pr.v (x:Pr):Value := .slice x.a x.n x.c
def b5N (p:List Int):List Value:=p.map fun z => .int .i64 z
def Pr.ok (U:Nat→Prop) (w:World) (x:Pr):Prop:=x.n=x.p.length∧x.n≤x.c∧x.c≤maxLen∧(x.a=none→x.n=0∧x.c=0)∧Cu U w x.a (b5N x.p)
theorem Pr.ok.keep {U V:Nat→Prop} {w w':World} {x:Pr} (h:x.ok U w) (hs:∀ b,U b→b<w.heap.size→V b∧w'.heap[b]?=w.heap[b]?):x.ok V w':=⟨h.1,h.2.1,h.2.2.1,h.2.2.2.1,h.2.2.2.2.keep hs⟩
def PsT (w:World) (base:Nat) (v:Value) (ps:List (List Int)):Prop:=
 ∃ xs:List Pr,w.ownsRow base 55 1 v ps.length (xs.map Pr.v)∧xs.map Pr.p=ps∧∀ x∈xs,x.ok (fun b=>base≤b∧v.ownBlock≠some b) w
def Onto (v v':Value) (w w':World):Prop:=w.heap.size≤w'.heap.size∧(∀ b,b<w.heap.size→v.ownBlock≠some b→w'.heap[b]?=w.heap[b]?)∧∀ g,v'.ownBlock=some g→v.ownBlock=some g∨w.heap.size≤g
theorem Onto.trans {v v1 v2:Value} {w w1 w2:World} (h:Onto v v1 w w1) (k:Onto v1 v2 w1 w2):Onto v v2 w w2:=by
 refine ⟨Nat.le_trans h.1 k.1,fun b hb hne=>?_,fun g hg=>?_⟩
 ·rw [k.2.1 b (Nat.lt_of_lt_of_le hb h.1) (fun e=>?_),h.2.1 b hb hne]
  rcases h.2.2 b e with e' | e'
  ·exact hne e'
  ·omega
 ·rcases k.2.2 g hg with e | e
  ·exact h.2.2 g e
  ·have:=h.1;exact .inr (by omega)
end Go.Proofs.YtglmoficcjphaaaGreat
namespace Go.Proofs.YtglmoficcjphaaaGreat
open Go.RowKit Go.Shelf
set_option linter.unusedVariables false
set_option linter.unusedSimpArgs false
attribute [local go_sem] Oper.semAt_some
def c2e (acc:List Int) (s:Tm):List Int:=if s.f<0 then (if (-1-s.f)∈acc then acc else acc++[-1-s.f]) else acc
def c2Z (l:List Tm):List Int:=l.foldl c2e []
def c0B (acc:List Int):List Lit:=acc.map fun n => .int .i64 n
def VarI (w:World) (acc:List Int) (v:Value) (W:World):Prop:=
 Boxed W (w.heap.size+1) 55 v∧W.ownsRow (w.heap.size+5) 3 1 v acc.length (b5N acc)∧Boxed W (w.heap.size+1+1+1) 120 (.map (some (w.heap.size+1+1)))∧W.ownsMap (H:=Unit) Tryz.prog 3 unitElem (w.heap.size+1+1) acc.length (Maps.setOf (.agg []) (c0B acc))∧Below w.heap.size w W∧w.heap.size+5≤W.heap.size
theorem a9F {W W':World} {P:Program} {k:TypeId} {R:Value→Option (DataW Unit×List MemPlace)} {b n:Nat} {D:DataW Unit} (h:W.ownsMap P k R b n D) (hb:W'.heap[b]?=W.heap[b]?):W'.ownsMap P k R b n D:=by
 obtain ⟨es,ck,h1,h2⟩:=h
 exact ⟨es,ck,hb.trans h1,h2⟩
theorem VarI.putObj {w A:World} {acc:List Int} {v:Value} (h:VarI w acc v A) {l:Nat} {o:Obj} (o':Obj) (hwl:w.heap.size+5≤l) (hl:A.heap[l]?=some o) (ho:o.isCells=false):VarI w acc v (A.putObj l o'):=by
 obtain ⟨h1,h2,h3,h4,h5,h6⟩:=h
 refine ⟨a5v h1 o' hl ho,ownsRow_putObj h2 o' hl ho,a5v h3 o' hl ho,a9F h4 (World.putObj_heap_other (by omega)),h5.trans (Q9 o' (by omega) hl ho).1,by simpa [World.putObj] using h6⟩
def Tm.wt:Tm→Nat
 | ⟨_,l⟩=>1+(l.map Tm.wt).sum
def Tm.wts (l:List Tm):Nat:=(l.map Tm.wt).sum
theorem b0F:Tm.wts []=0:=rfl
theorem a0w (t:Tm) (ts:List Tm):Tm.wts (t::ts)=t.wt+Tm.wts ts:=by simp [Tm.wts]
theorem Tm.wt_eq (t:Tm):t.wt=1+Tm.wts t.l:=by cases t with | mk f l=>rw [Tm.wt];rfl
theorem Tm.wts_mem {l:List Tm} {s:Tm} (h:s∈l):s.wt≤Tm.wts l:=by
 induction l with
 | nil=>cases h
 | cons y ys ih =>
  rw [a0w]
  rcases List.mem_cons.1 h with rfl | h
  ·omega
  ·have:=ih h;omega
theorem Tm.wts_len (l:List Tm):l.length≤Tm.wts l:=by
 induction l with
 | nil=>simp [b0F]
 | cons y ys ih=>rw [a0w,y.wt_eq,List.length_cons];omega
theorem Tm.size_wt (t:Tm):t.size≤t.wt:=by
 induction t using Tm.ind with
 | h f l ih =>
  rw [Tm.size_eq,Tm.wt_eq]
  have h1:∀ l:List Tm,(∀ s∈l,s.size≤s.wt)→(l.flatMap Tm.flat).length≤Tm.wts l:=by
   intro l hl
   induction l with
   | nil=>simp
   | cons y ys ih2 =>
    have h1:=hl y (by simp)
    unfold Tm.size at h1
    rw [List.flatMap_cons,List.length_append,a0w]
    have:=ih2 (fun s hs=>hl s (List.mem_cons_of_mem _ hs))
    omega
  unfold Tm.ps
  split
  ·simp
  ·have:=h1 l ih;show 1+(l.flatMap Tm.flat).length≤1+Tm.wts l;omega
theorem b3b {w:World} {b:Nat} {x y:Value} {t:TypeId} {fl:Nat×Nat} (h:w.heap[b]?=some (.cells #[x,y] t fl)):w.cell? ⟨b,0,none⟩=some x∧w.cell? ⟨b,1,none⟩=some y:=by
 constructor<;>simp [World.cell?,h]
def c1T (w:World) (t:Tm) (e:Ending) (w':World):Prop:=∃ a n c,e = .returned (.agg #[.int .i64 t.f,.slice a n c])∧Tat (fun b=>w.heap.size≤b) w' t a n c∧Below w.heap.size w w'
end Go.Proofs.YtglmoficcjphaaaGreat
namespace Go.Proofs.YtglmoficcjphaaaGreat
open Go.RowKit
set_option linter.unusedVariables false
set_option linter.unusedSimpArgs false
def b0e:List (Int→Int→Int)→Int→Int→Int
 | [],most,_=>most
 | c::cs,most,deep=>if most<0 then most else b0e cs (c most deep) deep
def n5:Tm→Int→Int→Int
 | ⟨f,l⟩,most,deep=>if deep<0∨f < -1000∨1000<f∨20<l.length then -1 else b0e (l.map fun s=>fun m d=>n5 s m d) (most-1) (deep-1)
def F7 (l:List Tm) (most deep:Int):Int:=b0e (l.map fun s=>fun m d=>n5 s m d) most deep
theorem a1k (f:Int) (l:List Tm) (most deep:Int):n5 ⟨f,l⟩ most deep=if deep<0∨f < -1000∨1000<f∨20<l.length then -1 else F7 l (most-1) (deep-1):=by rw [n5];rfl
theorem Z7 (most deep:Int):F7 [] most deep=most:=rfl
theorem L8 (t:Tm) (ts:List Tm) (most deep:Int):F7 (t::ts) most deep=if most<0 then most else F7 ts (n5 t most deep) deep:=rfl
theorem a2F (l:List Tm) {m:Int} (d:Int) (h:m<0):F7 l m d=m:=by
 cases l with
 | nil=>rw [Z7]
 | cons t ts=>rw [L8,if_pos h]
theorem a0o (t:Tm):∀ most deep,0≤most → -1≤n5 t most deep∧n5 t most deep<most∧(0≤n5 t most deep→n5 t most deep+t.wt≤most):=by
 induction t using Tm.ind with
 | h f l ih =>
  intro most deep hm
  rw [a1k]
  split
  ·exact ⟨by omega,by omega,by omega⟩
  ·have:∀ (l:List Tm) (m d:Int),(∀ t∈l,∀ most deep,0≤most → -1≤n5 t most deep∧n5 t most deep<most∧(0≤n5 t most deep→n5 t most deep+t.wt≤most)) → -1≤m → -1≤F7 l m d∧F7 l m d≤m∧(0≤F7 l m d→F7 l m d+Tm.wts l≤m):=by
    intro l
    induction l with
    | nil=>intro m d _ h;rw [Z7,b0F];exact ⟨h,Int.le_refl _,by omega⟩
    | cons y ys ih2 =>
     intro m d hl h
     rw [L8,a0w]
     split
     ·exact ⟨by omega,by omega,by omega⟩
     ·have h1:=hl y (by simp) m d (by omega)
      have h2:=ih2 (n5 y m d) d (fun s hs=>hl s (List.mem_cons_of_mem _ hs)) h1.1
      refine ⟨h2.1,by omega,fun h3=>?_⟩
      have:=h2.2.2 h3
      have:=h1.2.2 (by omega)
      omega
   have h1:=this l (most-1) (deep-1) ih (by omega)
   refine ⟨h1.1,by omega,fun h2=>?_⟩
   have:=h1.2.2 h2
   rw [Tm.wt_eq]
   show _+((1+Tm.wts l:Nat):Int)≤_
   omega
set_option maxRecDepth 100000 in
set_option maxHeartbeats 1000000 in
theorem b1A:∀ (t:Tm) (U:Nat→Prop) (a:Option Addr) (n c:Nat) (most deep:Int) (w:World),Tat U w t a n c→0≤most→most≤60 → -1≤deep→deep≤20 →
  Calls Tryz.prog 24 #[.agg #[.int .i64 t.f,.slice a n c],.int .i64 most,.int .i64 deep] w fun e w'=>e = .returned (.int .i64 (n5 t most deep))∧Below w.heap.size w w':=by
 intro t
 induction t using Tm.ind with
 | h f l ih =>
  intro U a n c most deep w ht hm1 hm2 hd1 hd2
  obtain ⟨w1,hw1⟩:∃ w1,w1=w.alloc (.cells #[.int .i64 f,.slice a n c] 51):=⟨_,rfl⟩
  have b1:Below w.heap.size w w1:=by rw [hw1];exact bA (bW _) _
  have x1:w1.heap[w.heap.size]?=some (.cells #[.int .i64 f,.slice a n c] 51 (0,0)):=by rw [hw1];exact World.alloc_heap_new _ _
  have hl:Las U w1 l a n c:=ht.las.bw b1
  have HL:=hid hl.len
  have hn:n≤9223372036854775807:=by have:=HL.out;unfold maxLen at this;omega
  have HX:Hid (∀ V,Below w1.heap.size w1 V→V.cell? ⟨w.heap.size,0,none⟩=some (.int .i64 f)∧V.cell? ⟨w.heap.size,1,none⟩=some (.slice a n c)):=fun V hb=>b3b ((hb.block _ (Array.getElem?_eq_some_iff.1 x1).1).trans x1)
  have HLs:Hid (∀ V,Below w1.heap.size w1 V→Las U V l a n c):=fun V hb=>hl.bw hb
  have HI:=hid ih
  have HW:=hid hw1
  have HD:Hid (n5 (.mk f l) most deep=if deep<0∨f < -1000∨1000<f∨20<l.length then -1 else F7 l (most-1) (deep-1)):=by show _=_;rw [a1k]
  obtain ⟨z,hz⟩:∃ z,z=n5 (.mk f l) most deep:=⟨_,rfl⟩
  rw [←hz] at HD ⊢
  obtain ⟨c1,c2⟩:=HX.out w1 (bW _)
  clear hz hw1 x1 hl ht ih
  simp only
  by_cases hbad:deep<0∨f < -1000∨1000<f∨20<n
  ·have HE:Hid (z = -1):=by show _=_;rw [HD.out,if_pos (by have:=HL.out.1;omega)]
   rw [HE.out]
   have HB0:Hid (Below w.heap.size w w1):=b1
   by_cases q1:deep<0
   ·go_enter Tryz.func24,Tryz.ntmps24
    go_wp2
    go_ret
    exact ⟨rfl,bA (bW _) _⟩
   ·by_cases q2:f < -1000
    ·go_enter Tryz.func24,Tryz.ntmps24
     go_wp2
     go_ret
     exact ⟨rfl,bA (bW _) _⟩
    ·by_cases q3:1000<f
     ·go_enter Tryz.func24,Tryz.ntmps24
      go_wp2
      go_ret
      exact ⟨rfl,bA (bW _) _⟩
     ·have q4:20<n:=by omega
      go_enter Tryz.func24,Tryz.ntmps24
      go_wp2
      go_ret
      exact ⟨rfl,bA (bW _) _⟩
  ·have HE:Hid (z=F7 l (most-1) (deep-1)):=by show _=_;rw [HD.out,if_neg (by have:=HL.out.1;omega)]
   have q1:¬ deep<0:=by omega
   have q2:¬ f < -1000:=by omega
   have q3:¬ 1000<f:=by omega
   have q4:¬ 20<n:=by omega
   clear hbad HD
   go_enter Tryz.func24,Tryz.ntmps24
   go_wp2_with fail
   rw [←HW.out]
   go_loopw [1,7] (fun u i wr=>∃ (k:Nat) (m:Int),u = .int .i64 m∧i = .int .i64 (k:Int)∧k≤n ∧ -1≤m∧m≤60∧Below w1.heap.size w1 wr∧F7 (l.drop k) m (deep-1)=z) (fun u i _=>n-(intOf i).toNat)
   case atStart=>exact ⟨0,most-1,rfl,rfl,by omega,by omega,by omega,bW _,by rw [HE.out];simp⟩
   case round =>
    obtain ⟨k,m,rfl,rfl,hk,hm3,hm4,hbr,hsm⟩:=hrel
    have HSM:=hid hsm
    obtain ⟨d1,d2⟩:=HX.out wr hbr
    clear hsm c1 c2
    by_cases hlt:k<n
    ·by_cases hmn:0≤m
     ·obtain ⟨b,off,s,a',n',c',rfl,hU,hlt',hs,hT,e1,e2⟩:=(HLs.out wr hbr).at hlt
      have HS:=hid hs
      have hbd:=a0o s m (deep-1) hmn
      have HR:Hid (F7 (l.drop (k+1)) (n5 s m (deep-1)) (deep-1)=z):=by
       show _=_
       rw [←HSM.out,a1g HS.out,L8,if_neg (by omega)]
      have HCall:Hid (Calls Tryz.prog 24 #[.agg #[.int .i64 s.f,.slice a' n' c'],.int .i64 m,.int .i64 (deep-1)] wr fun e w'=>e = .returned (.int .i64 (n5 s m (deep-1)))∧Below wr.heap.size wr w'):=HI.out s (List.mem_of_getElem? HS.out) U a' n' c' m (deep-1) wr hT hmn hm4 (by omega) (by omega)
      obtain ⟨y,hy⟩:∃ y,y=n5 s m (deep-1):=⟨_,rfl⟩
      rw [←hy] at HR HCall hbd
      clear hs hT hy
      go_wp2_with (go_at_call 24;refine HCall.out.mono ?_;rintro e w2 ⟨rfl,hb2⟩)
      go_roundw
      case rel=>exact ⟨k+1,y,rfl,by go_num,by omega,by omega,by omega,bN hbr hb2,HR.out⟩
      case measure=>simp [intOf];omega
     ·have HZ:Hid (z=m):=by show _=_;rw [←HSM.out,a2F _ _ (by omega)]
      go_wp2
      go_ret
      exact ⟨by rw [HZ.out];rfl,bN b1 hbr⟩
    ·have HZ:Hid (z=m):=by
      show _=_
      rw [←HSM.out,List.drop_eq_nil_of_le (by have:=HL.out.1;omega),Z7]
     go_wp2
     go_ret
     exact ⟨by rw [HZ.out];rfl,bN b1 hbr⟩
end Go.Proofs.YtglmoficcjphaaaGreat
namespace Go.Proofs.YtglmoficcjphaaaGreat
open Go.RowKit
set_option linter.unusedVariables false
set_option maxRecDepth 100000
def Tm.rng:Tm→Prop
 | ⟨f,l⟩=>(-9223372036854775808≤f∧f≤9223372036854775807)∧∀ t∈l,Tm.rng t
theorem Tm.rng_iff (t:Tm):t.rng↔(-9223372036854775808≤t.f∧t.f≤9223372036854775807)∧∀ s∈t.l,s.rng:=by cases t;rw [Tm.rng]
theorem a5p {U:Nat→Prop} {w:World}:∀ {l:List Tm} {xs:List Value},(∀ t∈l,∀ a n c,Tat U w t a n c→Rep (fun b _=>U b) w t.cv [.int .i64 t.f,.slice a n c])→Ecs U w l xs→Sq ((l.map Tm.cv).map fun c=>Rep (fun b _=>U b) w c) xs
 | [],xs,_,h=>Ecs.nil_iff.1 h
 | t::ts,xs,ht,h=>by
  obtain ⟨a,n,c,ys,e,h1,h2⟩:=Ecs.cons_iff.1 h
  exact ⟨[.int .i64 t.f,.slice a n c],ys,by rw [e];rfl,ht t (by simp) a n c h1,a5p (fun s hs=>ht s (List.mem_cons_of_mem _ hs)) h2⟩
theorem b4z {U:Nat→Prop} {w:World} {a:Option Addr} {xs:List Value} (h:Cu U w a xs):At (fun b _=>U b) w a xs:=by
 rcases h with h | ⟨b,off,h1,h2,h3,h4⟩
 ·exact .inl h
 ·exact .inr ⟨b,off,h1,fun i hi=>⟨h2,h4 i hi⟩⟩
theorem a9K {U:Nat→Prop} {w:World}:∀ {t:Tm} {a:Option Addr} {n c:Nat},Tat U w t a n c→Rep (fun b _=>U b) w t.cv [.int .i64 t.f,.slice a n c]:=by
 intro t
 induction t using Tm.ind with
 | h f l ih =>
  intro a n c h
  obtain ⟨_,h2,h3,h4,h5,xs,h6,h7⟩:=R1.1 h
  rw [Tm.cv_eq]
  refine F5.2 ⟨[.int .i64 f],[.slice a n c],rfl,b0o _ _,[.slice a n c],[],rfl,R4.2 ⟨a,n,c,rfl,by rw [List.length_map];exact h2,h3,h4,h5,xs,b4z h6,a5p (fun t ht a n c=>ih t ht) h7⟩,rfl⟩
theorem a7c {U:Nat→Prop} {w:World} {t:Tm} {a:Option Addr} {n c:Nat} (h:Tat U w t a n c):VRep (fun b _=>U b) w t.cw (.agg #[.int .i64 t.f,.slice a n c]):=by
 have:=a9K h
 rw [Tm.cv_eq] at this
 exact ⟨_,rfl,this⟩
theorem Tat.rng {U:Nat→Prop} {w:World}:∀ {t:Tm} {a:Option Addr} {n c:Nat},Tat U w t a n c→t.rng:=by
 intro t
 induction t using Tm.ind with
 | h f l ih =>
  intro a n c h
  obtain ⟨h1,h2,h3,h4,h5,xs,h6,h7⟩:=R1.1 h
  rw [Tm.rng_iff]
  refine ⟨h1,fun s hs=>?_⟩
  obtain ⟨i,hi,he⟩:=List.mem_iff_getElem.1 hs
  obtain ⟨s',a',n',c',e1,e2,_⟩:=h7.at (i:=i) hi
  have hi':i<l.length:=hi
  rw [List.getElem?_eq_getElem hi'] at e1
  have e1:=Option.some.inj e1
  have he:l[i]=s:=he
  rw [←he]
  exact ih _ (List.getElem_mem hi') (by rw [e1];exact e2)
theorem a5h {U:Nat→Nat→Prop} {w:World}:∀ {l:List Tm} {xs:List Value},(∀ t∈l,∀ ys,Rep U w t.cv ys→∃ a n c,ys=[.int .i64 t.f,.slice a n c]∧Tat (fun _=>True) w t a n c)→Sq ((l.map Tm.cv).map fun c=>Rep U w c) xs→Ecs (fun _=>True) w l xs
 | [],xs,_,h=>Ecs.nil_iff.2 h
 | t::ts,xs,ht,⟨ys,zs,e,h1,h2⟩=>by
  obtain ⟨a,n,c,e1,h3⟩:=ht t (by simp) ys h1
  exact Ecs.cons_iff.2 ⟨a,n,c,zs,by rw [e,e1];rfl,h3,a5h (fun s hs=>ht s (List.mem_cons_of_mem _ hs)) h2⟩
theorem a9v {U:Nat→Nat→Prop} {w:World}:∀ {t:Tm} {xs:List Value},t.rng→Rep U w t.cv xs→∃ a n c,xs=[.int .i64 t.f,.slice a n c]∧Tat (fun _=>True) w t a n c:=by
 intro t
 induction t using Tm.ind with
 | h f l ih =>
  intro xs hr h
  rw [Tm.rng_iff] at hr
  rw [Tm.cv_eq] at h
  obtain ⟨y1,y2,e1,h1,y3,y4,e2,h2,h3⟩:=F5.1 h
  obtain ⟨rfl,_⟩:=M1.1 h1
  obtain ⟨a,n,c,rfl,g2,g3,g4,g5,zs,g6,g7⟩:=R4.1 h2
  have h3:y4=[]:=h3
  subst h3
  refine ⟨a,n,c,by rw [e1,e2];rfl,R1.2 ⟨hr.1,by rw [List.length_map] at g2;exact g2,g3,g4,g5,zs,?_,a5h (fun t ht ys hy=>ih t ht (hr.2 t ht) hy) g7⟩⟩
  rcases g6 with g6 | ⟨b,off,g6,g8⟩
  ·exact .inl g6
  ·by_cases hz:zs=[]
   ·exact .inl hz
   ·refine .inr ⟨b,off,g6,trivial,?_,fun i hi=>(g8 i hi).2⟩
    have hpos:0<zs.length:=List.length_pos_iff.2 hz
    have:=(g8 0 hpos).2
    rw [List.getElem?_eq_getElem hpos] at this
    exact World.block_lt_of_cell? w _ this
theorem A5 {U:Nat→Nat→Prop} {w:World} {t:Tm} {v:Value} (hr:t.rng) (h:VRep U w t.cw v):∃ a n c,v = .agg #[.int .i64 t.f,.slice a n c]∧Tat (fun _=>True) w t a n c:=by
 obtain ⟨xs,h1,h2⟩:∃ xs:List Value,v = .agg xs.toArray∧Rep U w t.cw xs:=h
 rw [←Tm.cv_eq] at h2
 obtain ⟨a,n,c,h3,h4⟩:=a9v hr h2
 exact ⟨a,n,c,by rw [h1,h3],h4⟩
theorem b3H (W:World) {t s:Tm} (ht:t.rng) (hs:s.rng):AFun Tryz.prog W 63 [t.cw,s.cw] (.val (.b (B0 t s))):=by
 refine ⟨C1 Tryz.func63 rfl rfl,.inl rfl,rfl,?_⟩
 rintro U w vs hW ⟨u1,us1,rfl,h1,u2,us2,rfl,h2,h3⟩
 have h3:us2=[]:=h3
 subst h3
 obtain ⟨a,n,c,rfl,h4⟩:=A5 ht h1
 obtain ⟨a',n',c',rfl,h5⟩:=A5 hs h2
 refine (b3N t s a a' n c n' c' w h4 h5).mono ?_
 rintro e w' ⟨rfl,hb⟩
 exact ⟨_,rfl,l8.2 ⟨rfl,rfl⟩,hb⟩
theorem a0A (W:World) {t:Tm} (ht:t.rng) (hm:t.size≤4611686018427387904):AFun Tryz.prog W 46 [t.cw] (.val (.i (t.size:Int))):=by
 refine ⟨C1 Tryz.func46 rfl rfl,.inl rfl,rfl,?_⟩
 rintro U w vs hW ⟨u1,us1,rfl,h1,h3⟩
 have h3:us1=[]:=h3
 subst h3
 obtain ⟨a,n,c,rfl,h4⟩:=A5 ht h1
 refine (b4p h4 hm).mono ?_
 rintro e w' ⟨rfl,hb⟩
 exact ⟨_,rfl,l8.2 ⟨rfl,rfl⟩,hb⟩
theorem a1y (W:World) {t:Tm} (ht:t.rng) (hm:t.size≤90000000000):AFun Tryz.prog W 86 [t.cw] (.val t.strip.cw):=by
 refine ⟨C1 Tryz.func86 rfl rfl,.inl rfl,rfl,?_⟩
 rintro U w vs hW ⟨u1,us1,rfl,h1,h3⟩
 have h3:us1=[]:=h3
 subst h3
 obtain ⟨a,n,c,rfl,h4⟩:=A5 ht h1
 refine (b2u t a n c w h4 hm).mono ?_
 rintro e w' h
 obtain ⟨a',n',c',rfl,h5,hb⟩:=h.tat h4.wf
 refine ⟨_,rfl,?_,hb⟩
 have:=a7c h5
 rw [Tm.strip_f] at this
 exact this.mono fun b o h => .inr h
theorem a4N (W:World) (t:Tm) (most deep:Int) (ht:t.rng) (h0:0≤most) (h1:most≤60) (h2 : -1≤deep) (h3:deep≤20):AFun Tryz.prog W 24 [t.cw,.i most,.i deep] (.val (.i (n5 t most deep))):=by
 refine ⟨C1 Tryz.func24 rfl rfl,.inl rfl,rfl,?_⟩
 rintro U w vs hW ⟨u1,us1,rfl,g1,u2,us2,rfl,g2,u3,us3,rfl,g3,g4⟩
 have g4:us3=[]:=g4
 subst g4
 obtain ⟨a,n,c,rfl,h4⟩:=A5 ht g1
 obtain ⟨rfl,_⟩:=l8.1 g2
 obtain ⟨rfl,_⟩:=l8.1 g3
 refine (b1A t _ a n c most deep w h4 h0 h1 h2 h3).mono ?_
 rintro e w' ⟨rfl,hb⟩
 exact ⟨_,rfl,l8.2 ⟨rfl,rfl⟩,hb⟩
end Go.Proofs.YtglmoficcjphaaaGreat
namespace Go.Proofs.YtglmoficcjphaaaGreat
set_option linter.unusedVariables false
structure Bd where
 v:Int
 t:Tm
noncomputable abbrev Bd.cw (b:Bd):CV := .row [.i b.v,b.t.cw]
noncomputable def Bd.cv (b:Bd):CV:=b.cw
theorem Bd.size_all (l:List Bd):∀ c∈l.map Bd.cv,c.size=3:=by
 intro c hc
 obtain ⟨b,_,rfl⟩:=List.mem_map.1 hc
 rfl
theorem Bd.map_at {l:List Bd} {i:Nat} {b:Bd} (h:l[i]?=some b):(l.map Bd.cv)[i]?=some b.cw:=by rw [List.getElem?_map,h];rfl
def b0:List Bd→Int→Option Tm
 | [],_=>none
 | b::l,v=>if b.v=v then some b.t else b0 l v
theorem A6 {l:List Bd} {v:Int} (h:∀ b∈l,b.v≠v):b0 l v=none:=by
 induction l with
 | nil=>rfl
 | cons b l ih =>
  rw [b0,if_neg (h b (by simp)),ih (fun x hx=>h x (List.mem_cons_of_mem _ hx))]
theorem b3v {l:List Bd} {v:Int} {k:Nat} {b:Bd} (hb:l[k]?=some b) (hv:b.v=v) (h:∀ i c,i<k→l[i]?=some c→c.v≠v):b0 l v=some b.t:=by
 induction l generalizing k with
 | nil=>simp at hb
 | cons x l ih =>
  cases k with
  | zero=>simp at hb;subst hb;rw [b0,if_pos hv]
  | succ k =>
   rw [b0,if_neg (h 0 x (by omega) rfl)]
   exact ih (k:=k) (by simpa using hb) (fun i c hi hc=>h (i+1) c (by omega) (by simpa using hc))
def p5 (v:Int):Tm:=⟨-1-v,[]⟩
def b5 (l:List Bd) (v:Int):Tm:=(b0 l v).getD (p5 v)
def a9 (img:Int→Tm):Tm→Tm
 | ⟨f,l⟩=>if f<0 then (img (-1-f)).strip else ⟨f,l.map (a9 img)⟩
theorem i8 {img:Int→Tm} {t:Tm} (h:t.f<0):a9 img t=(img (-1-t.f)).strip:=by cases t;rw [a9,if_pos h]
theorem d8 {img:Int→Tm} {t:Tm} (h:¬ t.f<0):a9 img t=⟨t.f,t.l.map (a9 img)⟩:=by cases t;rw [a9,if_neg h]
end Go.Proofs.YtglmoficcjphaaaGreat
namespace Go.Proofs.YtglmoficcjphaaaGreat
open Go.RowKit
set_option linter.unusedVariables false
section
variable {P:Program} {w0:World} {U0:UX} {nt:Nat} {ops:Array Oper} {o:Oper} {S:Nat→Option AV} {gs:List Nat} {d:Nat}
theorem b9j {d':Nat} (hg:Go w0 U0 nt ops o gs S) (hd:o.dst=some d') (hn:Nat.blt d' nt=true) (h5:Nat.blt d' 100000=true):AOp P w0 U0 nt ops o gs [] S [(d',.tup [])]:=by
 intro s hs _ a w ⟨D,hv,h⟩ Q K hK
 rw [if_neg (by rw [hg s hs a w D hv h];simp),hd]
 exact hK _ _ ⟨D,hv,h.put (bL hn) (bL h5) (by unfold AVRep;exact ⟨[],rfl,rfl⟩)⟩
theorem zby {P:Program} {w0:World} {U0:UX} {nt:Nat} {ops:Array Oper} {o:Oper} {S:Nat→Option AV} {gs:List Nat} {d':Nat} (p:Go w0 U0 nt ops o gs S:=by exact gc) (q:o.dst=some d':=by exact rfl) (r:Nat.blt d' nt=true:=by exact rfl) (t:Nat.blt d' 100000=true:=by exact rfl):AOp P w0 U0 nt ops o gs [] S [(d',.tup [])]:=b9j p q r t
theorem T9 {j:Nat} {c:Bool} (hg:o.guard=some (j,c)) (hj:(ops[j]?).bind (·.dst)=some d) (h5:Nat.blt d 100000=true) (hS:S d=some (.tup [])):Go w0 U0 nt ops o [d] S:=fun s hs a w D hv h=>by
 obtain ⟨v,h1,h2⟩:=h.slot d _ ((hs d (by simp)).trans hS) (bL h5)
 obtain ⟨vs,h3,h4⟩:∃ vs:List Value,v = .tuple vs.toArray∧VReps (Us w0 U0 D) w [] vs:=h2
 simp [Region.wanted,hg,yielded,hj,h1,h3]
end
end Go.Proofs.YtglmoficcjphaaaGreat
namespace Go.Proofs.YtglmoficcjphaaaGreat
open Go.RowKit
set_option linter.unusedVariables false
set_option linter.unusedSimpArgs false
theorem a0q (b off j:Nat):(⟨b,off,none⟩:Addr).add j=⟨b,off+j,none⟩:=by unfold Addr.add;split<;>simp_all
section
variable {P:Program} {w0:World} {U0:UX} {nt:Nat} {ops:Array Oper} {o:Oper} {S:Nat→Option AV} {gs:List Nat} {d:Nat} {s:AS} {a:Act} {w:World} {D:Nat→Nat→Prop} {hv:Nat→Value}
theorem A7 {e:TypeId} {z:Nat} (hi:(P.info? e).map (·.size)=some z):(sizeOf e).run P w = .ok z w:=by
 cases hi':P.info? e with
 | none=>rw [hi'] at hi;simp at hi
 | some i=>rw [hi'] at hi;simp at hi;simp [sizeOf,typeInfo,hi',hi]
theorem SimG.mrow (h:SimG w0 U0 nt s a w D hv) {n e z:Nat} {l:List CV} (h1:look s n=some (.mrow e z l)) (hn:RN n):∃ xs,w.ownsRow 0 e z (hv n) l.length xs∧0<z∧(∀ c∈l,c.size=z)∧Sq (l.map fun c=>Rep (Us w0 U0 D) w c) xs:=by
 have:OC (Us w0 U0 D) w hv (a8 s) (.mrow e z l) (hv n):=h.obj n _ h1 (by unfold RN at hn;unfold k9;omega)
 exact this
theorem T7 {e z:Nat} {v:Value} {k:Nat} {xs:List Value} (h:w.ownsRow 0 e z v k xs) (hk:0<k):∃ g cap cur,v = .slice (some ⟨g,0,none⟩) k cap∧w.heap[g]?=some (.cells cur e (0,0))∧k≤cap∧cap≤maxLen∧cur.size=cap*z∧cur.toList.take (k*z)=xs∧o0 v=g∧hb v=some g:=by
 rcases h.2 with ⟨_,rfl⟩ | ⟨g,cap,cur,rfl,_,h3,h4,h5,h6,h7⟩
 ·omega
 ·exact ⟨g,cap,cur,rfl,h3,h4,h5,h6,h7,rfl,rfl⟩
theorem U1 {e z:Nat} {v:Value} {k:Nat} {xs:List Value} (h:w.ownsRow 0 e z v k xs):∃ ao cap,v = .slice ao k cap∧k≤cap∧cap≤maxLen:=by
 rcases h.2 with ⟨rfl,rfl⟩ | ⟨g,cap,cur,rfl,_,h3,h4,h5,h6,h7⟩
 ·exact ⟨none,0,rfl,Nat.le_refl _,by unfold maxLen;omega⟩
 ·exact ⟨_,cap,rfl,h4,h5⟩
section
variable (hg:Gd w0 U0 nt ops o gs S) (hd:o.dst=some d) (hn:Nat.blt d nt=true) (h5:Nat.blt d 100000=true)
include hg hd hn h5
theorem X2 {x:Operand} {t e:TypeId} {ts:Array TypeId} {n lo len z:Nat} (ho:o.op = .call { callee := .builtin .len,args := #[x],argTypes:=ts }) (ht:ts[0]?=some t) (hu:P.underlying t=some (.slice e)) (hx:ev S x=some (.sl n lo len z)):AOp P w0 U0 nt ops o (gs++rd x) [] S [(d,.val (.i len))]:=
 d9 hg hd hn h5 (fun k hk=>List.mem_append_left _ hk) fun s hs a w D hv hm=>by
  obtain ⟨_,ao,m,cap,ao',h1,h2,_⟩:RN n∧SlV (hv n) lo len z (a.eval x):=i9 hm (fun k hk=>hs k (List.mem_append_right _ hk)) hx
  refine ⟨.int .i64 len,?_,p7 rfl⟩
  generalize a.eval=ρ at h2 ⊢
  simp [execOp,ho,resolve,invoke,builtin,Builtin.len_,ht,h2,goInt,run_underlying hu,go_sem]
theorem aIm {x y:Operand} {ty e e':TypeId} {l:List CV} {i:Int} {k n lo len z:Nat} {kd:IntKind} {n' q' p'} (ho:o.op = .indexAddr ty x y) (hu:P.underlying ty=some (.slice e)) (hi:(P.info? e).map (·.size)=some z) (hx:ev S x=some (.sl n lo len z)) (hy:ev S y=some ⟨0,.sc (.int kd i),n',q',p'⟩) (hm':S n=some (.mrow e' z l)) (hk:i+(lo:Int)=(k:Int)∧lo≤k∧k<lo+len∧lo+len≤l.length):AOp P w0 U0 nt ops o (gs++(rd x++(rd y++[n]))) [] S [(d,.el n (k*z) [k])]:=
 d9 hg hd hn h5 (fun k hk=>List.mem_append_left _ hk) fun s hs a w D hv hm=>by
  obtain ⟨hij,hlo,hj,hl⟩:=hk
  obtain ⟨j,rfl⟩:∃ j,k=lo+j:=⟨k-lo,by omega⟩
  obtain ⟨hrn,ao,m,cap,ao',h1,h2,h3,h4,h6,_⟩:RN n∧SlV (hv n) lo len z (a.eval x):=i9 hm (fun k hk=>hs k (List.mem_append_right _ (List.mem_append_left _ hk))) hx
  have e2:=s9 hm (fun k hk=>hs k (List.mem_append_right _ (List.mem_append_right _ (List.mem_append_left _ hk)))) hy
  obtain ⟨xs,g1,_⟩:=hm.mrow ((hs n (by simp)).trans hm') hrn
  obtain ⟨g,cap',cur,f1,f2,f3,f4,f6,f7,f8,f9⟩:=T7 g1 (by omega)
  rw [f1] at h1
  injection h1 with h1 h7 h8
  subst h1;subst h7;subst h8
  have ha:ao'=some ⟨g,lo*z,none⟩:=h6 (by omega) g rfl
  subst ha
  have hij:i=(j:Int):=by omega
  have hj:j<len:=by omega
  subst hij
  have hsz:=A7 (P:=P) (w:=w) hi
  refine ⟨.pointer (some ⟨g,(lo+j)*z,none⟩),?_,?_⟩
  ·have hadd:(⟨g,lo*z,none⟩:Addr).add (j*z)=⟨g,(lo+j)*z,none⟩:=by rw [a0q,Nat.add_mul]
   generalize a.eval=ρ at h2 e2 ⊢
   simp [execOp,ho,Instr.indexAt,asIntOf,h2,e2,run_underlying hu,hj,hsz,hadd]
  ·exact ⟨hrn,by show _=Value.pointer (some ⟨o0 (hv n),_,none⟩);rw [f8]⟩
theorem K7 {x:Operand} {ty:TypeId} {fs:Array Field} {i:Nat} {f:Field} {n q p z} (ho:o.op = .fieldAddr ty x i) (hu:P.underlying ty=some (.struct fs)) (hf:fs[i]?=some f) (hz:(P.info? f.type).map (·.size)=some z) (hz0:Nat.beq z 0=false) (hx:ev S x=some (.el n q p)):AOp P w0 U0 nt ops o (gs++rd x) [] S [(d,.el n (q+f.offset) (p++[i]))]:=
 d9 hg hd hn h5 (fun k hk=>List.mem_append_left _ hk) fun s hs a w D hv hm=>by
  obtain ⟨hrn,h1⟩:RN n∧a.eval x = .pointer (some ⟨o0 (hv n),q,none⟩):=i9 hm (fun k hk=>hs k (List.mem_append_right _ hk)) hx
  have hsz:=A7 (P:=P) (w:=w) hz
  have hz1:z≠0:=fun e=>by rw [e] at hz0;cases hz0
  refine ⟨.pointer (some ⟨o0 (hv n),q+f.offset,none⟩),?_,hrn,rfl⟩
  have hadd:=a0q (o0 (hv n)) q f.offset
  generalize a.eval=ρ at h1 ⊢
  simp [execOp,ho,Instr.fieldAt,run_underlying hu,hf,Instr.sureAddr,h1,fieldPlace,hsz,hz1,hadd]
omit hg hd hn h5 in
theorem b6B {U:Nat→Nat→Prop} {e z k j m q:Nat} {v:Value} {l:List CV} {c c':CV} {p:List Nat} {xs:List Value} (h:w.ownsRow 0 e z v l.length xs) (hsq:Sq (l.map fun c=>Rep U w c) xs) (hz:∀ c∈l,c.size=z) (hc:l[j]?=some c) (hat:c.at p=some (m,c')) (hq:q=j*z+m) :
  ∃ g cap cur ys zs us,v = .slice (some ⟨g,0,none⟩) l.length cap∧o0 v=g∧hb v=some g∧w.heap[g]?=some (.cells cur e (0,0))∧l.length≤cap∧cap≤maxLen∧cur.size=cap*z∧cur.toList.take (l.length*z)=xs∧cur.toList=ys++zs++us∧ys.length=q∧Rep U w c' zs:=by
 have hjl:j<l.length:=by
  rcases Nat.lt_or_ge j l.length with h | h
  ·exact h
  ·rw [List.getElem?_eq_none h] at hc;cases hc
 obtain ⟨g,cap,cur,f1,f2,f3,f4,f6,f7,f8,f9⟩:=T7 h (by omega)
 obtain ⟨y1,z1,u1,e1,e2,e3⟩:=b8D hz hsq hc
 obtain ⟨y2,z2,u2,e4,e5,e6⟩:=a6v hat e3
 refine ⟨g,cap,cur,y1++y2,z2,u2++(u1++cur.toList.drop (l.length*z)),f1,f8,f9,f2,f3,f4,f6,f7,?_,by rw [List.length_append,e2,e5,hq],e6⟩
 conv=>lhs;rw [←List.take_append_drop (l.length*z) cur.toList,f7,e1,e4]
 simp
theorem b7w {x:Operand} {ty:TypeId} {ds:TypeDesc} {e z z' j m n q:Nat} {l:List CV} {c c':CV} {p:List Nat} (ho:o.op = .load ty x) (hu:P.underlying ty=some ds) (hi:(P.info? ty).map (·.size)=some z') (hx:ev S x=some (.el n q (j::p))) (hm':S n=some (.mrow e z l)) (hc:l[j]?=some c) (hat:c.at p=some (m,c')) (hq:q=j*z+m) (hk:R6 ds=Nat.beq c'.k 2) (hz:c'.size=z'):AOp P w0 U0 nt ops o (gs++(rd x++[n])) [] S [(d,.val c')]:=
 d9 hg hd hn h5 (fun k hk=>List.mem_append_left _ hk) fun s hs a w D hv hm=>by
  obtain ⟨hrn,h1⟩:RN n∧a.eval x = .pointer (some ⟨o0 (hv n),q,none⟩):=i9 hm (fun k hk=>hs k (List.mem_append_right _ (List.mem_append_left _ hk))) hx
  obtain ⟨xs,g1,g2,g3,g4⟩:=hm.mrow ((hs n (by simp)).trans hm') hrn
  obtain ⟨g,cap,cur,ys,zs,us,f1,f2,f3,f4,f6,f7,f8,f9,f10,f11,f12⟩:=b6B (k:=0) g1 g4 g3 hc hat hq
  rw [f2] at h1
  obtain ⟨v,h6,h7,h8⟩:=B2 hu hi hk hz f12 (b:=g) (off:=q) (fun i hi=>by rw [←f11];exact E3 (xs:=cur.toList) (by rw [Array.toArray_toList];exact f4) f10 i hi)
  refine ⟨v,?_,k8 h7⟩
  generalize a.eval=ρ at h1 ⊢
  simp [execOp,ho,Instr.loadAt,Instr.sureAddr,h1,h6]
theorem b7f {x y:Operand} {t e:TypeId} {z:Nat} {k:IntKind} {i:Int} {j n lo len:Nat} {n' q' p'} (ho:o.op = .slice t x (some y) none none) (hu:P.underlying t=some (.slice e)) (hi:(P.info? e).map (·.size)=some z) (hx:ev S x=some (.sl n lo len z)) (hy:ev S y=some ⟨0,.sc (.int k i),n',q',p'⟩) (hij:i=(j:Int)) (hj:j≤len):AOp P w0 U0 nt ops o (gs++(rd x++rd y)) [] S [(d,.sl n (lo+j) (len-j) z)]:=
 d9 hg hd hn h5 (fun k hk=>List.mem_append_left _ hk) fun s hs a w D hv hm=>by
  obtain ⟨hrn,ao,m,cap,ao',h1,h2,h3,h4,h6,h7⟩:RN n∧SlV (hv n) lo len z (a.eval x):=i9 hm (fun k hk=>hs k (List.mem_append_right _ (List.mem_append_left _ hk))) hx
  have e2:=s9 hm (fun k hk=>hs k (List.mem_append_right _ (List.mem_append_right _ hk))) hy
  have hsz:=A7 (P:=P) (w:=w) hi
  refine ⟨.slice (if cap-lo=j then ao' else ao'.map (·.add (j*z))) (len-j) (cap-lo-j),?_,hrn,ao,m,cap,_,h1,by rw [Nat.sub_sub];rfl,by show lo+j+(len-j)≤cap;omega,fun h8=>?_,fun h8=>?_,?_⟩
  ·have hb:=w9 (P:=P) (w:=w) (k:=k) (j:=j) (y:=len) (code := .sliceB) hj
   subst hij
   generalize a.eval=ρ at h2 e2 ⊢
   simp [execOp,ho,Instr.sliceAt,Instr.slice,run_underlying hu,h2,e2,Instr.sliceBounds,hb,hsz]
  ·have h8:lo+j=0:=h8
   have hj0:j=0:=by omega
   subst hj0
   rw [h4 (by omega)]
   split
   ·rfl
   ·cases ao with
    | none=>rfl
    | some ad=>simp [Addr.add]
  ·have h8:lo+j<cap:=h8
   intro g hg'
   rw [if_neg (by omega),h6 (by omega) g hg']
   show some ((⟨g,lo*z,none⟩:Addr).add (j*z))=some ⟨g,(lo+j)*z,none⟩
   rw [a0q,Nat.add_mul]
  ·split
   ·exact h7
   ·rw [Option.map_eq_none_iff];exact h7
theorem b6O {x y:Operand} {t e:TypeId} {z:Nat} {k:IntKind} {i:Int} {j n lo len:Nat} {n' q' p'} (ho:o.op = .slice t x none (some y) none) (hu:P.underlying t=some (.slice e)) (hi:(P.info? e).map (·.size)=some z) (hx:ev S x=some (.sl n lo len z)) (hy:ev S y=some ⟨0,.sc (.int k i),n',q',p'⟩) (hij:i=(j:Int)) (hj:j≤len):AOp P w0 U0 nt ops o (gs++(rd x++rd y)) [] S [(d,.sl n lo j z)]:=
 d9 hg hd hn h5 (fun k hk=>List.mem_append_left _ hk) fun s hs a w D hv hm=>by
  obtain ⟨hrn,ao,m,cap,ao',h1,h2,h3,h4,h6,h7⟩:RN n∧SlV (hv n) lo len z (a.eval x):=i9 hm (fun k hk=>hs k (List.mem_append_right _ (List.mem_append_left _ hk))) hx
  have e2:=s9 hm (fun k hk=>hs k (List.mem_append_right _ (List.mem_append_right _ hk))) hy
  have hsz:=A7 (P:=P) (w:=w) hi
  have hid:(if cap-lo=0 then ao' else ao'.map (·.add (0*z)))=ao':=by
   split
   ·rfl
   ·cases ao' with
    | none=>rfl
    | some ad=>simp [Addr.add]
  refine ⟨.slice ao' j (cap-lo),?_,hrn,ao,m,cap,ao',h1,rfl,by show lo+j≤cap;omega,h4,h6,h7⟩
  have hb:=w9 (P:=P) (w:=w) (k:=k) (j:=j) (y:=cap-lo) (code := .sliceAcap) (by omega)
  subst hij
  generalize a.eval=ρ at h2 e2 ⊢
  simp [execOp,ho,Instr.sliceAt,Instr.slice,run_underlying hu,h2,e2,Instr.sliceBounds,hb,hsz,hid]<;>simpa using hid
end
theorem zI {P:Program} {w0:World} {U0:UX} {nt:Nat} {ops:Array Oper} {o:Oper} {S:Nat→Option AV} {gs:List Nat} {d:Nat} {x:Operand} {y:Operand} {ty:TypeId} {e:TypeId} {e':TypeId} {l:List CV} {i:Int} {k:Nat} {n:Nat} {lo:Nat} {len:Nat} {z:Nat} {kd:IntKind} {n'} {q'} {p'} (p:Gd w0 U0 nt ops o gs S:=by exact gN rfl) (q:o.dst=some d:=by exact rfl) (r:Nat.blt d nt=true:=by exact rfl) (t:Nat.blt d 100000=true:=by exact rfl) (u:o.op = .indexAddr ty x y:=by exact rfl) (v:P.underlying ty=some (.slice e):=by exact rfl) (A:(P.info? e).map (·.size)=some z:=by exact rfl) (B:ev S x=some (.sl n lo len z):=by exact rfl) (C:ev S y=some ⟨0,.sc (.int kd i),n',q',p'⟩:=by exact rfl) (E:S n=some (.mrow e' z l):=by exact rfl) (F:i+(lo:Int)=(k:Int)∧lo≤k∧k<lo+len∧lo+len≤l.length:=by first | rfl | omega | (simp only [List.length_set,List.length_map,List.length_append,List.length_cons,List.length_nil]<;>omega) | (simp<;>omega)):AOp P w0 U0 nt ops o (gs++(rd x++(rd y++[n]))) [] S [(d,.el n (k*z) [k])]:=aIm p q r t u v A B C E F
theorem zJ {P:Program} {w0:World} {U0:UX} {nt:Nat} {ops:Array Oper} {o:Oper} {S:Nat→Option AV} {gs:List Nat} {d:Nat} {x:Operand} {ty:TypeId} {ds:TypeDesc} {e:Nat} {z:Nat} {z':Nat} {j:Nat} {m:Nat} {n:Nat} {q:Nat} {l:List CV} {c:CV} {c':CV} {p:List Nat} (r:Gd w0 U0 nt ops o gs S:=by exact gN rfl) (t:o.dst=some d:=by exact rfl) (u:Nat.blt d nt=true:=by exact rfl) (y:Nat.blt d 100000=true:=by exact rfl) (A:o.op = .load ty x:=by exact rfl) (B:P.underlying ty=some ds:=by exact rfl) (C:(P.info? ty).map (·.size)=some z':=by exact rfl) (E:ev S x=some (.el n q (j::p)):=by exact rfl) (F:S n=some (.mrow e z l):=by exact rfl) (G:l[j]?=some c) (H:c.at p=some (m,c'):=by exact rfl) (hq:q=j*z+m:=by first | rfl | omega | (simp only [List.length_set,List.length_map,List.length_append,List.length_cons,List.length_nil]<;>omega) | (simp<;>omega)) (hk:R6 ds=Nat.beq c'.k 2:=by exact rfl) (hz:c'.size=z':=by exact rfl):AOp P w0 U0 nt ops o (gs++(rd x++[n])) [] S [(d,.val c')]:=b7w r t u y A B C E F G H hq hk hz
theorem zV {P:Program} {w0:World} {U0:UX} {nt:Nat} {ops:Array Oper} {o:Oper} {S:Nat→Option AV} {gs:List Nat} {d:Nat} {x:Operand} {t:TypeId} {e:TypeId} {ts:Array TypeId} {n:Nat} {lo:Nat} {len:Nat} {z:Nat} (p:Gd w0 U0 nt ops o gs S:=by exact gN rfl) (q:o.dst=some d:=by exact rfl) (r:Nat.blt d nt=true:=by exact rfl) (u:Nat.blt d 100000=true:=by exact rfl) (v:o.op = .call { callee := .builtin .len,args := #[x],argTypes:=ts }:=by exact rfl) (y:ts[0]?=some t:=by exact rfl) (A:P.underlying t=some (.slice e):=by exact rfl) (B:ev S x=some (.sl n lo len z):=by exact rfl):AOp P w0 U0 nt ops o (gs++rd x) [] S [(d,.val (.i len))]:=X2 p q r u v y A B
theorem zW {P:Program} {w0:World} {U0:UX} {nt:Nat} {ops:Array Oper} {o:Oper} {S:Nat→Option AV} {gs:List Nat} {d:Nat} {x:Operand} {y:Operand} {t:TypeId} {e:TypeId} {z:Nat} {k:IntKind} {i:Int} {j:Nat} {n:Nat} {lo:Nat} {len:Nat} {n'} {q'} {p'} (p:Gd w0 U0 nt ops o gs S:=by exact gN rfl) (q:o.dst=some d:=by exact rfl) (r:Nat.blt d nt=true:=by exact rfl) (u:Nat.blt d 100000=true:=by exact rfl) (v:o.op = .slice t x (some y) none none:=by exact rfl) (A:P.underlying t=some (.slice e):=by exact rfl) (B:(P.info? e).map (·.size)=some z:=by exact rfl) (C:ev S x=some (.sl n lo len z):=by exact rfl) (E:ev S y=some ⟨0,.sc (.int k i),n',q',p'⟩:=by exact rfl) (F:i=(j:Int):=by first | rfl | omega | (simp only [List.length_set,List.length_map,List.length_append,List.length_cons,List.length_nil]<;>omega) | (simp<;>omega)) (G:j≤len:=by first | rfl | omega | (simp only [List.length_set,List.length_map,List.length_append,List.length_cons,List.length_nil]<;>omega) | (simp<;>omega)):AOp P w0 U0 nt ops o (gs++(rd x++rd y)) [] S [(d,.sl n (lo+j) (len-j) z)]:=b7f p q r u v A B C E F G
theorem zZ {P:Program} {w0:World} {U0:UX} {nt:Nat} {ops:Array Oper} {o:Oper} {S:Nat→Option AV} {gs:List Nat} {d:Nat} {x:Operand} {y:Operand} {t:TypeId} {e:TypeId} {z:Nat} {k:IntKind} {i:Int} {j:Nat} {n:Nat} {lo:Nat} {len:Nat} {n'} {q'} {p'} (p:Gd w0 U0 nt ops o gs S:=by exact gN rfl) (q:o.dst=some d:=by exact rfl) (r:Nat.blt d nt=true:=by exact rfl) (u:Nat.blt d 100000=true:=by exact rfl) (v:o.op = .slice t x none (some y) none:=by exact rfl) (A:P.underlying t=some (.slice e):=by exact rfl) (B:(P.info? e).map (·.size)=some z:=by exact rfl) (C:ev S x=some (.sl n lo len z):=by exact rfl) (E:ev S y=some ⟨0,.sc (.int k i),n',q',p'⟩:=by exact rfl) (F:i=(j:Int):=by first | rfl | omega | (simp only [List.length_set,List.length_map,List.length_append,List.length_cons,List.length_nil]<;>omega) | (simp<;>omega)) (G:j≤len:=by first | rfl | omega | (simp only [List.length_set,List.length_map,List.length_append,List.length_cons,List.length_nil]<;>omega) | (simp<;>omega)):AOp P w0 U0 nt ops o (gs++(rd x++rd y)) [] S [(d,.sl n lo j z)]:=b6O p q r u v A B C E F G
theorem z3 {P:Program} {w0:World} {U0:UX} {nt:Nat} {ops:Array Oper} {o:Oper} {S:Nat→Option AV} {gs:List Nat} {d:Nat} {x:Operand} {ty:TypeId} {fs:Array Field} {i:Nat} {f:Field} {n} {q} {p} {z} (r:Gd w0 U0 nt ops o gs S:=by exact gN rfl) (t:o.dst=some d:=by exact rfl) (u:Nat.blt d nt=true:=by exact rfl) (v:Nat.blt d 100000=true:=by exact rfl) (y:o.op = .fieldAddr ty x i:=by exact rfl) (A:P.underlying ty=some (.struct fs):=by exact rfl) (B:fs[i]?=some f:=by exact rfl) (C:(P.info? f.type).map (·.size)=some z:=by exact rfl) (E:Nat.beq z 0=false:=by exact rfl) (F:ev S x=some (.el n q p):=by exact rfl):AOp P w0 U0 nt ops o (gs++rd x) [] S [(d,.el n (q+f.offset) (p++[i]))]:=K7 r t u v y A B C E F
theorem Z1 {α:Type} {l:List α} {j:Nat} {c x:α} (h:x∈l.set j c):x∈l∨x=c:=by
 rcases List.mem_or_eq_of_mem_set h with h | h
 ·exact .inl h
 ·exact .inr h
theorem b4F (hg:Gd w0 U0 nt ops o gs S) (hd:o.dst=none) {x y:Operand} {ty:TypeId} {e z z' j m n q:Nat} {l:List CV} {c c' c2 v:CV} {p:List Nat} {m1 q1 p1} (ho:o.op = .store ty x y) (hi:(P.info? ty).map (·.size)=some z') (hx:ev S x=some (.el n q (j::p))) (hm':S n=some (.mrow e z l)) (hy:ev S y=some ⟨0,v,m1,q1,p1⟩) (hc:l[j]?=some c) (hat:c.at p=some (m,c')) (hup:c.upO p v=some c2) (hq:q=j*z+m) (hz:v.size=z') :
  AOp P w0 U0 nt ops o (gs++(rd x++(rd y++[n]))) [] S [(n,.mrow e z (l.set j c2))]:=by
 intro s hs hN a w ⟨D,hv,h⟩ Q K hK
 rw [if_pos (hg s (fun k hk=>hs k (List.mem_append_left _ hk)) a w D hv h)]
 have hm:=(hs n (by simp)).trans hm'
 obtain ⟨hrn,h1⟩:RN n∧a.eval x = .pointer (some ⟨o0 (hv n),q,none⟩):=i9 h (fun k hk=>hs k (List.mem_append_right _ (List.mem_append_left _ hk))) hx
 have h2:=A0 h (fun k hk=>hs k (List.mem_append_right _ (List.mem_append_right _ (List.mem_append_left _ hk)))) hy
 obtain ⟨xs,g1,g2,g3,g4⟩:=h.mrow hm hrn
 have hjl:j<l.length:=by
  rcases Nat.lt_or_ge j l.length with h | h
  ·exact h
  ·rw [List.getElem?_eq_none h] at hc;cases hc
 obtain ⟨g,cap,cur,f1,f2,f3,f4,f6,f7,f8,f9⟩:=T7 g1 (by omega)
 rw [f8] at h1
 have hl:l=l.take j++c::l.drop (j+1):=by
  rw [List.getElem?_eq_getElem hjl] at hc
  rw [←Option.some.inj hc,List.getElem_cons_drop,List.take_append_drop]
 have g4':=g4
 rw [hl,List.map_append] at g4'
 obtain ⟨y1,r1,e1,s1,z1,u1,e2,s2,s3⟩:=t9 g4'
 obtain ⟨u1',u2⟩:=a0J (U:=Us w0 U0 D) (w:=w) (xs:=z1) hat hup
 obtain ⟨y2,z2,u3,e3,e4,e5,e6⟩:=u2 s2
 have hy1:y1.length=j*z:=by rw [C5 (n:=CV.size) (fun c _ xs h=>h.len) s1,r5 (fun c hc=>g3 c (List.mem_of_mem_take hc)),List.length_take,Nat.min_eq_left (by omega)]
 have hvl:=h2.cells.len
 have hcur:cur.toList=(y1++y2)++z2++(u3++u1++cur.toList.drop (l.length*z)):=by
  conv=>lhs;rw [←List.take_append_drop (l.length*z) cur.toList,f7,e1,e2,e3]
  simp
 have hrun:=F8 (P:=P) (ys:=y1++y2) (zs:=z2) (us:=u3++u1++cur.toList.drop (l.length*z)) (q:=q) (z:=z') hi (by rw [←hcur,Array.toArray_toList];exact f2) (by rw [List.length_append,hy1,e4,hq]) (v:=a.eval y) rfl (by rw [hvl,e5]) (by rw [hvl,hz]) h2.cells.one
 have he:(execOp a.eval o).run P w = .ok .skip (w.setRow g (y1++y2++(a.eval y).cells.toList++(u3++u1++cur.toList.drop (l.length*z))).toArray):=by
  generalize a.eval=ρ at h1 hrun ⊢
  simp [execOp,ho,Instr.storeAt,Instr.sureAddr,h1,hrun]
 unfold Oper.wp
 rw [he,Oper.upon_skip,hd]
 have hok:k9 n:=by unfold RN at hrn;unfold k9;omega
 refine hK _ _ ⟨_,_,h.store (av := .mrow e z (l.set j c2)) hok hm (by simp) (by simp) rfl (fun g' hn o _=>hn o (by simp)) (by simp) f9 f2 fun w' hw hkp=>?_⟩
 have hnew:=(e6 _ h2.cells).keep hkp
 have hsz2:c2.size=z:=by
  have a1:=hnew.len
  have a2:=s2.len
  rw [e3,g3 c (List.mem_of_getElem? hc)] at a2
  simp only [List.length_append] at a1 a2
  omega
 refine ⟨y1++(y2++(a.eval y).cells.toList++u3)++u1,⟨?_,.inr ⟨g,cap,_,?_,Nat.zero_le _,hw,?_,f4,?_,?_⟩⟩,g2,fun x hx=>?_,?_⟩
 ·have a1:=g1.1
  rw [e1,e2,e3] at a1
  simp only [List.length_append] at a1 ⊢
  show _=(l.set j c2).length*z
  rw [List.length_set]
  omega
 ·show hv n = .slice _ (l.set j c2).length cap
  rw [List.length_set];exact f1
 ·show (l.set j c2).length≤cap
  rw [List.length_set];exact f3
 ·have:=congrArg List.length hcur
  rw [Array.length_toList,f6] at this
  simp only [List.size_toArray,List.length_append] at this ⊢
  show _=cap*z
  omega
 ·show List.take ((l.set j c2).length*z) _=_
  rw [List.length_set]
  have a1:=g1.1
  rw [e1,e2,e3] at a1
  simp only [List.length_append] at a1
  have e7:y1++y2++(a.eval y).cells.toList++(u3++u1++cur.toList.drop (l.length*z))=(y1++(y2++(a.eval y).cells.toList++u3)++u1)++cur.toList.drop (l.length*z):=by simp
  rw [e7,List.take_append_of_le_length (by simp only [List.length_append];omega),List.take_of_length_le (by simp only [List.length_append];omega)]
 ·rcases Z1 hx with hx | rfl
  ·exact g3 x hx
  ·exact hsz2
 ·show Sq ((l.set j c2).map fun c=>Rep (Us w0 U0 D) w' c) _
  have hs':l.set j c2=l.take j++c2::l.drop (j+1):=by
   conv=>lhs;rw [hl]
   rw [List.set_append_right _ _ (by simp;omega)]
   simp [Nat.min_eq_left (Nat.le_of_lt hjl)]
  rw [hs',List.map_append,List.append_assoc]
  exact B6 (Sq.keep hkp s1) ⟨_,u1,rfl,hnew,Sq.keep hkp s3⟩
theorem zN {P:Program} {w0:World} {U0:UX} {nt:Nat} {ops:Array Oper} {o:Oper} {S:Nat→Option AV} {gs:List Nat} {x:Operand} {y:Operand} {ty:TypeId} {e:Nat} {z:Nat} {z':Nat} {j:Nat} {m:Nat} {n:Nat} {q:Nat} {l:List CV} {c:CV} {c':CV} {c2:CV} {v:CV} {p:List Nat} {m1} {q1} {p1} (r:Gd w0 U0 nt ops o gs S:=by exact gN rfl) (t:o.dst=none:=by exact rfl) (u:o.op = .store ty x y:=by exact rfl) (A:(P.info? ty).map (·.size)=some z':=by exact rfl) (B:ev S x=some (.el n q (j::p)):=by exact rfl) (C:S n=some (.mrow e z l):=by exact rfl) (E:ev S y=some ⟨0,v,m1,q1,p1⟩:=by exact rfl) (F:l[j]?=some c) (G:c.at p=some (m,c'):=by exact rfl) (H:c.upO p v=some c2:=by exact rfl) (hq:q=j*z+m:=by first | rfl | omega | (simp only [List.length_set,List.length_map,List.length_append,List.length_cons,List.length_nil]<;>omega) | (simp<;>omega)) (hz:v.size=z':=by exact rfl):AOp P w0 U0 nt ops o (gs++(rd x++(rd y++[n]))) [] S [(n,.mrow e z (l.set j c2))]:=b4F r t u A B C E F G H hq hz
end
def AVReps (U:Nat→Nat→Prop) (w:World) (hv:Nat→Value) (lv:Nat→Prop):List AV→List Value→Prop
 | [],vs=>vs=[]
 | c::cs,vs=>∃ u us,vs=u::us∧AVRep U w hv lv c u∧AVReps U w hv lv cs us
theorem AVReps.len {U:Nat→Nat→Prop} {w:World} {hv:Nat→Value} {lv:Nat→Prop}:∀ {l:List AV} {vs:List Value},AVReps U w hv lv l vs→vs.length=l.length
 | [],_,h=>by have h:_=[]:=h;rw [h];rfl
 | c::cs,vs,⟨u,us,e,h1,h2⟩=>by rw [e,List.length_cons,List.length_cons,AVReps.len h2]
theorem AVReps.at {U:Nat→Nat→Prop} {w:World} {hv:Nat→Value} {lv:Nat→Prop}:∀ {l:List AV} {vs:List Value},AVReps U w hv lv l vs→∀ {i:Nat} {c:AV},l[i]?=some c→∃ v,vs[i]?=some v∧AVRep U w hv lv c v
 | [],_,_,i,c,hi=>by simp at hi
 | c'::cs,vs,⟨u,us,e,h1,h2⟩,0,c,hi=>by
  simp only [List.getElem?_cons_zero,Option.some.injEq] at hi
  exact ⟨u,by rw [e];rfl,hi▸h1⟩
 | c'::cs,vs,⟨u,us,e,h1,h2⟩,i+1,c,hi=>by
  obtain ⟨v,h3,h4⟩:=AVReps.at h2 (i:=i) (c:=c) (by simpa using hi)
  exact ⟨v,by rw [e];simpa using h3,h4⟩
theorem AVReps.imp {U V:Nat→Nat→Prop} {w w':World} {hv hv':Nat→Value} {lv lv':Nat→Prop}:∀ {l:List AV} {vs:List Value},(∀ c∈l,∀ v,AVRep U w hv lv c v→AVRep V w' hv' lv' c v)→AVReps U w hv lv l vs→AVReps V w' hv' lv' l vs
 | [],_,_,h=>h
 | c::cs,vs,hc,⟨u,us,e,h1,h2⟩=>⟨u,us,e,hc c (by simp) u h1,AVReps.imp (fun x hx=>hc x (List.mem_cons_of_mem _ hx)) h2⟩
def p6 (P:Program) (f:FuncId) (pre:AS) (args:List AV) (r:AV) (post:AS):Prop:=
 b3k P f∧∀ (U:UX) (w:World) (hv:Nat→Value) (a0:Act) (vs:List Value),(∀ k v,U.f k=some v→n4 (kO pre) k=true)→SimG w U 0 pre a0 w (fun _ _=>False) hv→AVReps (Us w U (fun _ _=>False)) w hv (a8 pre) args vs →
  Calls P f vs.toArray w fun e w'=>∃ v D' hv' a',e = .returned v∧SimG w U 0 post a' w' D' hv'∧AVRep (Us w U D') w' hv' (a8 post) r v
def a6d (S:Nat→Option AV):List Operand→Option (List AV)
 | []=>some []
 | x::xs=>match ev S x,a6d S xs with
  | some c,some cs=>some (c::cs)
  | _,_=>none
def SubS (S:Nat→Option AV):AS→Prop
 | []=>True
 | (k,av)::s=>S k=some av∧SubS S s
theorem SubS.look {S:Nat→Option AV}:∀ {s:AS},SubS S s→∀ {k av},look s k=some av→S k=some av
 | [],_,k,av,h=>by simp [Go.Proofs.YtglmoficcjphaaaGreat.look] at h
 | (k',av')::s,⟨h1,h2⟩,k,av,h=>by
  rw [f0] at h
  split at h
  ·rename_i e;subst e;cases h;exact h1
  ·exact SubS.look h2 h
def L9 (p:Nat×AV):Bool:=match Nat.ble 500000 p.1 with
 | true=>true
 | false=>Nat.ble 300000 p.1&&!Nat.beq p.2.t 6&&!Nat.beq p.2.t 7&&(Nat.blt p.1 450000||Nat.beq p.2.t 5||Nat.beq p.2.t 9||Nat.beq p.2.t 23)
def a4c (ks:List Nat) (av:AV):Bool:=match Nat.beq av.t 0||Nat.beq av.t 5 with
 | true=>Nat.ble av.n 1
 | false=>match Nat.beq av.t 2||Nat.beq av.t 11||Nat.beq av.t 12||Nat.beq av.t 15||Nat.beq av.t 19 with
  | true=>n4 ks (hk av)
  | false=>true
def I6 (ks:List Nat) (p:Nat×AV):Bool:=Nat.ble 200000 p.1&&!Nat.beq p.2.t 6&&a4c ks p.2&&(match Nat.ble 500000 p.1 with | true=>Nat.ble 350000 (fnm p.1)&&Nat.blt (fnm p.1) 400000&&n4 ks (100000+fnm p.1) | false=>true)
def L1 (pre post:List Nat):List Nat→List (Nat×List Nat)
 | []=>[]
 | k::ks=>match Nat.ble 500000 k,Nat.blt k 400000,Nat.blt k 450000,n4 pre k with
  | true,_,_,_=>L1 pre post ks
  | false,true,_,_=>(k,pre++post)::L1 pre post ks
  | false,false,true,true=>L1 pre post ks
  | false,false,true,false=>(k,pre++post)::L1 pre post ks
  | false,false,false,true=>(k-100000+1000000,pre++post)::L1 pre post ks
  | false,false,false,false=>(k-100000,pre++post)::L1 pre post ks
theorem a9Y {a b:Nat} (h:b<a):Nat.ble a b=false:=by
 cases e:Nat.ble a b with
 | false=>rfl
 | true=>have:=Nat.le_of_ble_eq_true e;omega
theorem a4o {a b:Nat} (h:b≤a):Nat.blt a b=false:=by
 cases e:Nat.blt a b with
 | false=>rfl
 | true=>have:=bL e;omega
theorem a5S {a b:Nat} (h:a<b):Nat.blt a b=true:=by simp [Nat.blt_eq,h]
theorem a1E {pre post:List Nat} {x:Nat} {ks:List Nat} {q:Nat×List Nat} (h:q∈L1 pre post ks):q∈L1 pre post (x::ks):=by
 unfold L1
 split
 ·exact h
 ·exact List.mem_cons_of_mem _ h
 ·exact h
 ·exact List.mem_cons_of_mem _ h
 ·exact List.mem_cons_of_mem _ h
 ·exact List.mem_cons_of_mem _ h
theorem a7G {pre post:List Nat}:∀ {ks:List Nat} {k:Nat},k∈ks→k<450000→(k<400000∨n4 pre k=false)→(k,pre++post)∈L1 pre post ks
 | x::ks,k,h,hk,hp=>by
  rcases List.mem_cons.1 h with rfl | h
  ·unfold L1
   rw [a9Y (by omega:k<500000)]
   by_cases h4:k<400000
   ·rw [a5S h4];simp
   ·rw [a4o (by omega:400000≤k),a5S hk]
    rcases hp with hp | hp
    ·omega
    ·rw [hp];simp
  ·exact a1E (a7G h hk hp)
theorem a7H {pre post:List Nat}:∀ {ks:List Nat} {k:Nat},k∈ks→450000≤k→k<500000→n4 pre k=false→(k-100000,pre++post)∈L1 pre post ks
 | x::ks,k,h,hk,hk2,hp=>by
  rcases List.mem_cons.1 h with rfl | h
  ·unfold L1
   rw [a9Y (by omega:k<500000),a4o (by omega:400000≤k),a4o hk,hp]
   simp
  ·exact a1E (a7H h hk hk2 hp)
theorem a5s {pre post:List Nat}:∀ {ks:List Nat} {k:Nat},k∈ks→450000≤k→k<500000→n4 pre k=true→(k-100000+1000000,pre++post)∈L1 pre post ks
 | x::ks,k,h,hk,hk2,hp=>by
  rcases List.mem_cons.1 h with rfl | h
  ·unfold L1
   rw [a9Y (by omega:k<500000),a4o (by omega:400000≤k),a4o hk,hp]
   simp
  ·exact a1E (a5s h hk hk2 hp)
theorem j8 {s:AS} {k:Nat} {av:AV} (h:look s k=some av):k∈kO s:=List.mem_map.2 ⟨_,C9 h,rfl⟩
theorem W9 {s:AS} {k:Nat} (h:k∈kO s):∃ av,look s k=some av:=by
 induction s with
 | nil=>simp [kO] at h
 | cons p s ih =>
  obtain ⟨d,x⟩:=p
  by_cases e:d=k
  ·exact ⟨x,by rw [f0,if_pos e]⟩
  ·rw [lN e]
   refine ih ?_
   simp only [kO,List.map_cons,List.mem_cons] at h ⊢
   rcases h with h | h
   ·exact absurd h.symm e
   ·exact h
theorem i0 {e s:AS} {k:Nat}:look (e++s) k=(look e k).or (look s k):=by
 induction e with
 | nil=>rfl
 | cons p e ih =>
  obtain ⟨d,x⟩:=p
  by_cases h:d=k
  ·subst h;rw [List.cons_append,lS,lS];rfl
  ·rw [List.cons_append,lN h,lN h,ih]
theorem b7X {s:AS} {k:Nat} (h:n4 (kO s) k=false):look s k=none:=by
 cases e:look s k with
 | none=>rfl
 | some av=>rw [s7 (j8 e)] at h;cases h
theorem K6 {q:Nat×AV→Bool} {s:AS} (h:s.all q=true) {k:Nat} {av:AV} (h1:look s k=some av):q (k,av)=true:=by
 rw [List.all_eq_true] at h
 exact h _ (C9 h1)
section
variable {P:Program} {w0:World} {U0:UX} {nt:Nat} {ops:Array Oper} {o:Oper} {S:Nat→Option AV} {gs:List Nat} {d:Nat} {s:AS} {a:Act} {w:World} {D:Nat→Nat→Prop} {hv:Nat→Value}
theorem a0N (h:SimG w0 U0 nt s a w D hv):∀ {xs:List Operand} {cs:List AV},(∀ k∈rdl xs,look s k=S k)→a6d S xs=some cs→AVReps (Us w0 U0 D) w hv (a8 s) cs (xs.map a.eval)
 | [],cs,_,he=>by simp [a6d] at he;subst he;rfl
 | x::xs,cs,hs,he=>by
  unfold a6d at he
  split at he
  ·rename_i c cs' h1 h2
   cases he
   exact ⟨a.eval x,xs.map a.eval,rfl,i9 h (fun k hk=>hs k (List.mem_append_left _ hk)) h1,a0N h (fun k hk=>hs k (List.mem_append_right _ hk)) h2⟩
  ·cases he
theorem SimG.lend (h:SimG w0 U0 nt s a w D hv) {pre:AS} (hp:Sub s pre) (hl:pre.all L9=true):∃ V:UX,(∀ k v,V.f k=some v→n4 (kO pre) k=true)∧SimG w V 0 pre ⟨#[],[]⟩ w (fun _ _=>False) hv∧(∀ b,V.x b↔∃ k av,look pre k=some av∧k9 k∧hb (hv k)=some b)∧(∀ k,n4 (kO pre) k=true→400000≤k→k<500000→V.f k=some (hv k))∧(∀ b o,V.m b o↔Us w0 U0 D b o)∧∀ b o u,Us w0 U0 D b o→w.cell? ⟨b,o,none⟩=some u→Us w V (fun _ _=>False) b o∧w.cell? ⟨b,o,none⟩=some u:=by
 classical
 have hlk:∀ {k av},look pre k=some av→k9 k→300000≤k∧av.t≠6∧av.t≠7∧True:=fun {k av} h1 h2=>by
  have h3:=K6 hl h1
  unfold k9 at h2
  unfold L9 at h3
  have h4:Nat.ble 500000 k=false:=by
   cases e:Nat.ble 500000 k with
   | false=>rfl
   | true=>have:=Nat.le_of_ble_eq_true e;omega
  simp only [h4,Bool.and_eq_true,Bool.or_eq_true,Bool.not_eq_true'] at h3
  obtain ⟨⟨⟨h5,h6⟩,h7⟩,h8⟩:=h3
  refine ⟨Nat.le_of_ble_eq_true h5,(fun e=>by rw [e] at h6;cases h6),(fun e=>by rw [e] at h7;cases h7),trivial⟩
 let isB:Nat→Prop:=fun k=>400000≤k∧k<500000∧n4 (kO pre) k=true
 let V:UX:=⟨Us w0 U0 D,fun b=>∃ k av,look pre k=some av∧k9 k∧hb (hv k)=some b,fun k=>if isB k then some (hv k) else none,fun k v (h1:(if isB k then some (hv k) else none)=some v)=>by
  split at h1
  ·rename_i h2;exact ⟨h2.1,h2.2.1⟩
  ·cases h1⟩
 have hkeep:∀ b o u,Us w0 U0 D b o→w.cell? ⟨b,o,none⟩=some u→Us w V (fun _ _=>False) b o∧w.cell? ⟨b,o,none⟩=some u:=fun b o u hu hc=>by
  refine ⟨.inl ⟨World.block_lt_of_cell? w _ hc,hu,?_⟩,hc⟩
  rintro ⟨k,av,h1,h2,h3⟩
  obtain ⟨g1,g2,g3,_⟩:=hlk h1 h2
  obtain ⟨f1,f2,f3⟩:=h.blk k av b (hp _ _ h1) h2 g3 h3
  exact a3b hu f1 (f3 o fun e=>absurd e g2) rfl
 have hln:∀ n,a8 pre n→a8 s n:=fun n h1=>h1.imp id fun ⟨e,he⟩=>⟨e,hp _ _ he.1,he.2⟩
 refine ⟨V,fun n g h1=>?_,⟨BelowX.refl _ _,rfl,rfl,fun d av h1 h2=>?_,fun n o av h1 h2 h3 h4=>?_,fun n o o' av av' h1 h2=>h.fdis n o o' av av' (hp _ _ h1) (hp _ _ h2),fun k av h1 h2=>?_,fun k av g h1 h2 h3 h4=>?_,fun k k' av av' g h1 h2=>h.disj k k' av av' g (hp _ _ h1) (hp _ _ h2),fun n g h1=>?_,fun b o hd=>hd.elim⟩,fun b=>Iff.rfl,fun k h1 h2 h3=>?_,fun b o=>Iff.rfl,hkeep⟩
 ·have h1:(if isB n then some (hv n) else none)=some g:=h1
  split at h1
  ·rename_i h2;exact h2.2.2
  ·cases h1
 ·have h3:=K6 hl h1
  unfold L9 at h3
  have h4:Nat.ble 500000 d=false:=by
   cases e:Nat.ble 500000 d with
   | false=>rfl
   | true=>have:=Nat.le_of_ble_eq_true e;omega
  simp only [h4,Bool.and_eq_true] at h3
  have:=Nat.le_of_ble_eq_true h3.1.1.1
  omega
 ·obtain ⟨v,h6,h7⟩:=h.fld n o av (hp _ _ h1) h2 (hp _ _ h3) h4
  exact ⟨v,h6.move hkeep (fun _=>hln _) fun _=>rfl,h7⟩
 ·exact (h.obj k av (hp _ _ h1) h2).move hkeep (fun _ h3=>⟨hln _ h3,rfl⟩) fun _ _=>rfl
 ·obtain ⟨g1,g2,g3,_⟩:=hlk h1 h2
  obtain ⟨f1,f2,f3⟩:=h.blk k av g (hp _ _ h1) h2 h3 h4
  exact ⟨.inr ⟨by rw [a2H g1];exact g2,k,av,h1,h2,h4⟩,f2,fun _ _ h=>h⟩
 ·have h1:(if isB n then some (hv n) else none)=some g:=h1
  split at h1
  ·cases h1;rfl
  ·cases h1
 ·show (if isB k then some (hv k) else none)=some (hv k)
  rw [if_pos ⟨h2,h3,h1⟩]
theorem SimG.back (h:SimG w0 U0 nt s a w D hv) {pre post:AS} (hp:Sub s pre) (hl:pre.all L9=true) (hq:post.all (I6 (kO post))=true) (hks:(kO pre).all (n4 (kO post))=true) (hN:∀ q∈L1 (kO pre) (kO post) (kO post),NoRefE s q) (hnb:∀ k v,U0.f k=some v→n4 (kO post) k=true→n4 (kO pre) k=true)
  {V:UX} (hVx:∀ b,V.x b↔∃ k av,look pre k=some av∧k9 k∧hb (hv k)=some b) (hVf:∀ k,n4 (kO pre) k=true→400000≤k→k<500000→V.f k=some (hv k)) (hVm:∀ b o,V.m b o↔Us w0 U0 D b o) (hpS:SimG w V 0 pre ⟨#[],[]⟩ w (fun _ _=>False) hv)
  {w':World} {D':Nat→Nat→Prop} {hv':Nat→Value} {a':Act} (h':SimG w V 0 post a' w' D' hv') :
  ∃ D'' hv'',SimG w0 U0 nt (post++s) a w' D'' hv''∧(∀ r v,a4c (kO post) r=true→AVRep (Us w V D') w' hv' (a8 post) r v→AVRep (Us w0 U0 D'') w' hv'' (a8 (post++s)) r v)∧∀ b o,D b o→D'' b o:=by
 classical
 have hlk:∀ {k av},look pre k=some av→k9 k→300000≤k∧av.t≠6∧av.t≠7∧True:=fun {k av} h1 h2=>by
  have h3:=K6 hl h1
  unfold k9 at h2
  unfold L9 at h3
  have h4:Nat.ble 500000 k=false:=by
   cases e:Nat.ble 500000 k with
   | false=>rfl
   | true=>have:=Nat.le_of_ble_eq_true e;omega
  simp only [h4,Bool.and_eq_true,Bool.or_eq_true,Bool.not_eq_true'] at h3
  obtain ⟨⟨⟨h5,h6⟩,h7⟩,h8⟩:=h3
  refine ⟨Nat.le_of_ble_eq_true h5,(fun e=>by rw [e] at h6;cases h6),(fun e=>by rw [e] at h7;cases h7),trivial⟩
 have hqk:∀ {k av},look post k=some av→200000≤k∧av.t≠6∧a4c (kO post) av=true:=fun {k av} h1=>by
  have h3:=K6 hq h1
  unfold I6 at h3
  simp only [Bool.and_eq_true,Bool.not_eq_true'] at h3
  exact ⟨Nat.le_of_ble_eq_true h3.1.1.1,(fun e=>by rw [e] at h3;exact absurd h3.1.1.2 (by decide)),h3.1.2⟩
 have hqf:∀ {n o av},look post (b9 n o)=some av→o<100→350000≤n∧n<400000∧n4 (kO post) (100000+n)=true:=fun {n o av} h1 h2=>by
  have h3:=K6 hq h1
  unfold I6 at h3
  have h4:Nat.ble 500000 (b9 n o)=true:=Nat.ble_eq_true_of_le (by unfold b9;omega)
  simp only [h4,M6 h2,Bool.and_eq_true] at h3
  exact ⟨Nat.le_of_ble_eq_true h3.2.1.1,bL h3.2.1.2,h3.2.2⟩
 have hsub:∀ {k},n4 (kO pre) k=true→n4 (kO post) k=true:=fun {k} h1=>by
  rw [List.all_eq_true] at hks
  exact hks k (x8 h1)
 obtain ⟨D2,hD2⟩:∃ D2:Nat→Nat→Prop,D2=fun b o=>D b o∨(w.heap.size≤b∧D' b o):=⟨_,rfl⟩
 obtain ⟨hv2,hhv⟩:∃ hv2:Nat→Value,hv2=fun k=>if n4 (kO post) k=true then hv' k else hv k:=⟨_,rfl⟩
 have hvy:∀ {k},n4 (kO post) k=true→hv2 k=hv' k:=fun {k} h1=>by rw [hhv];simp only [h1,if_true]
 have hvn:∀ {k},n4 (kO post) k=false→hv2 k=hv k:=fun {k} h1=>by rw [hhv];simp [h1]
 obtain ⟨s2,hs2⟩:∃ s2,s2=post++s:=⟨_,rfl⟩
 have hly:∀ {k av},look post k=some av→look s2 k=some av:=fun {k av} h1=>by rw [hs2,i0,h1];rfl
 have hlc:∀ {k av},look s2 k=some av→look post k=some av∨(n4 (kO post) k=false∧look s k=some av):=fun {k av} h1=>by
  cases e:n4 (kO post) k with
  | true =>
   obtain ⟨av',h2⟩:=W9 (x8 e)
   rw [hly h2] at h1
   cases h1
   exact .inl h2
  | false =>
   rw [hs2,i0,b7X e] at h1
   exact .inr ⟨rfl,h1⟩
 have hlive:∀ n e,r9 s2 n e→n4 (kO post) n=false∧r9 s n e:=fun n e ⟨h1,h2⟩=>by
  rcases hlc h1 with h3 | ⟨h3,h4⟩
  ·exact absurd rfl (hqk h3).2.1
  ·exact ⟨h3,h4,h2⟩
 have hln:∀ n,a8 s2 n→a8 s n:=fun n h1=>h1.imp id fun ⟨e,he⟩=>⟨e,(hlive n e he).2⟩
 have hbw:=h'.below
 have hold:∀ b,b<w.heap.size→¬ V.x b→w'.heap[b]?=w.heap[b]?:=hbw.block
 have hk1:∀ b o u,Us w0 U0 D b o→w.cell? ⟨b,o,none⟩=some u→Us w0 U0 D2 b o∧w'.cell? ⟨b,o,none⟩=some u:=fun b o u hu hc=>by
  refine ⟨hu.imp id fun h1=>⟨h1.1,by rw [hD2];exact .inl h1.2⟩,?_⟩
  have hnx:¬ V.x b:=fun hx=>by
   obtain ⟨k,av,h1,h2,h3⟩:=(hVx b).1 hx
   obtain ⟨g1,g2,g3,_⟩:=hlk h1 h2
   obtain ⟨f1,f2,f3⟩:=h.blk k av b (hp _ _ h1) h2 g3 h3
   exact a3b hu f1 (f3 o fun e=>absurd e g2) rfl
  rw [World.cell?_of_block (w:=w) (hold b (World.block_lt_of_cell? w _ hc) hnx)]
  exact hc
 have hk2:∀ b o u,Us w V D' b o→w'.cell? ⟨b,o,none⟩=some u→Us w0 U0 D2 b o∧w'.cell? ⟨b,o,none⟩=some u:=fun b o u hu hc=>by
  refine ⟨?_,hc⟩
  rcases hu with ⟨h1,h2,h3⟩ | ⟨h1,h2⟩
  ·exact ((hVm b o).1 h2).imp id fun h4=>⟨h4.1,by rw [hD2];exact .inl h4.2⟩
  ·exact .inr ⟨Nat.le_trans h.below.size h1,by rw [hD2];exact .inr ⟨h1,h2⟩⟩
 have hbx:∀ k,400000≤k→k<500000→n4 (kO pre) k=true→hv' k=hv k:=fun k h2 h3 h1=>h'.fix k _ (hVf k h1 h2 h3)
 have hrow:∀ {k av n},look s k=some av→n4 (kO post) k=false→RN n→n4 (kO post) n=true→(n<400000∨n4 (kO pre) n=false)→av.n≠n:=fun {k av n} h1 h2 h3 h4 h6=>by
  have h5:=hN _ (a7G (pre:=kO pre) (post:=kO post) (x8 h4) h3.2 h6)
  refine (h5 k av h1 ?_).1
  cases e:n4 (kO pre++kO post) k with
  | false=>rfl
  | true =>
   rcases List.mem_append.1 (x8 e) with e | e
   ·rw [hsub (s7 e)] at h2;cases h2
   ·rw [s7 e] at h2;cases h2
 have hbox:∀ {k av n},look s k=some av→n4 (kO post) k=false→BN n→350000≤n→n4 (kO post) (100000+n)=true→n4 (kO pre) (100000+n)=false→av.n≠n∧fnm k≠n∧fnm k+1000000≠n:=fun {k av n} h1 h2 h3 h6 h4 h5=>by
  unfold BN at h3
  have h7:=hN _ (a7H (pre:=kO pre) (post:=kO post) (x8 h4) (by omega) (by omega) h5)
  rw [show 100000+n-100000=n by omega] at h7
  refine h7 k av h1 ?_
  cases e:n4 (kO pre++kO post) k with
  | false=>rfl
  | true =>
   rcases List.mem_append.1 (x8 e) with e | e
   ·rw [hsub (s7 e)] at h2;cases h2
   ·rw [s7 e] at h2;cases h2
 have hfno:∀ {n o av},look s (b9 n o)=some av→n4 (kO post) (b9 n o)=false→o<100→350000≤n→n<400000→n4 (kO post) (100000+n)=true→False:=fun {n o av} h1 h2 h3 h4 h5 h6=>by
  cases e:n4 (kO pre) (100000+n) with
  | false =>
   have:=(hbox h1 h2 (.inr ⟨h4,h5⟩) h4 h6 e).2.1
   rw [M6 h3] at this
   exact this rfl
  | true =>
   have h7:=hN _ (a5s (pre:=kO pre) (post:=kO post) (x8 h6) (by omega) (by omega) e)
   have h8:=(h7 (b9 n o) av h1 (by
    cases e:n4 (kO pre++kO post) (b9 n o) with
    | false=>rfl
    | true =>
     rcases List.mem_append.1 (x8 e) with e | e
     ·rw [hsub (s7 e)] at h2;cases h2
     ·rw [s7 e] at h2;cases h2)).2.2
   rw [M6 h3] at h8
   apply h8
   show n+1000000=100000+n-100000+1000000
   omega
 have hm1:∀ {k av v},look s k=some av→n4 (kO post) k=false→AVRep (Us w0 U0 D) w hv (a8 s) av v→AVRep (Us w0 U0 D2) w' hv2 (a8 s2) av v:=fun {k av v} h1 h2 h3 =>
  h3.move hk1 (fun _=>hln _) fun hR=>by
   cases e:n4 (kO post) (hk av) with
   | false=>exact hvn e
   | true =>
    rcases hR with ⟨r1,r2,r3⟩ | ⟨r1,r2⟩ | ⟨r1,r2⟩
    ·rw [H9.2 (by omega)] at e
     rcases r2 with r4 | ⟨_,r4⟩
     ·exact absurd r4 r3
     ·exact absurd rfl (hrow h1 h2 ⟨r4.2.1,Nat.lt_trans r4.2.2 (by omega)⟩ e (.inl r4.2.2))
    ·rw [H9.1 r1] at e ⊢
     rw [hvy e]
     cases e2:n4 (kO pre) (100000+av.n) with
     | true =>
      obtain ⟨av',h7⟩:=W9 (x8 e)
      have:=(hqk h7).1
      unfold BN at r2
      exact hbx _ (by omega) (by omega) e2
     | false =>
      have h6:350000≤av.n:=by
       obtain ⟨av',h7⟩:=W9 (x8 e)
       have:=(hqk h7).1
       unfold BN at r2
       omega
      exact absurd rfl (hbox h1 h2 r2 h6 e e2).1
    ·rw [H9.2 (by omega)] at e ⊢
     cases e2:n4 (kO pre) av.n with
     | false=>exact absurd rfl (hrow h1 h2 r2 e (.inr e2))
     | true =>
      by_cases h4:av.n<400000
      ·exact absurd rfl (hrow h1 h2 r2 e (.inl h4))
      ·have:=r2.2
       rw [hvy e]
       exact hbx _ (by omega) (by omega) e2
 have hm2:∀ {av v},a4c (kO post) av=true→AVRep (Us w V D') w' hv' (a8 post) av v→AVRep (Us w0 U0 D2) w' hv2 (a8 s2) av v:=fun {av v} h1 h2=>by
  unfold a4c at h1
  refine h2.move hk2 (fun h3 h4=>?_) fun hR=>?_
  ·rw [h3] at h1
   have h1:Nat.ble av.n 1=true:=h1
   have:=Nat.le_of_ble_eq_true h1
   rcases D4 h4 with h5 | h5
   ·exact .inl h5
   ·unfold RN at h5;omega
  ·rcases hR with ⟨r1,r2,r3⟩ | ⟨r1,r2⟩ | ⟨r1,r2⟩
   ·rw [r1] at h1
    have h1:Nat.ble av.n 1=true:=h1
    have:=Nat.le_of_ble_eq_true h1
    rcases D4 r2 with h5 | h5
    ·exact absurd h5 r3
    ·unfold RN at h5;omega
   ·rw [r1] at h1
    have h1:n4 (kO post) (hk av)=true:=h1
    exact hvy h1
   ·rcases r1 with r1 | r1 | r1 | r1<;>(rw [r1] at h1;have h1:n4 (kO post) (hk av)=true:=h1;exact hvy h1)
 refine ⟨D2,hv2,?_,fun r v h1 h2=>by rw [←hs2];exact hm2 h1 h2,fun b o hd=>by rw [hD2];exact .inl hd⟩
 rw [←hs2]
 have hnotx:∀ {k av g},look s k=some av→n4 (kO post) k=false→k9 k→av.t≠7→hb (hv k)=some g→¬ V.x g:=fun {k av g} h1 h2 h3 h4 h5 hx=>by
  obtain ⟨k',av',f1,f2,f3⟩:=(hVx g).1 hx
  refine h.disj k k' av av' g h1 (hp _ _ f1) h3 f2 h4 (hlk f1 f2).2.2.1 (fun e=>?_) h5 f3
  rw [e,hsub (s7 (j8 f1))] at h2
  cases h2
 have hlent:∀ {g},V.x g→∃ k av,look s k=some av∧k9 k∧av.t≠7∧av.t≠6∧n4 (kO post) k=true∧hb (hv k)=some g:=fun {g} hx=>by
  obtain ⟨k',av',f1,f2,f3⟩:=(hVx g).1 hx
  obtain ⟨g1,g2,g3,_⟩:=hlk f1 f2
  exact ⟨k',av',hp _ _ f1,f2,g3,g2,hsub (s7 (j8 f1)),f3⟩
 refine ⟨⟨hbw.os.trans h.below.os,hbw.tape.trans h.below.tape,hbw.output.trans h.below.output,Nat.le_trans h.below.size hbw.size,fun b hb hx=>?_⟩,h.dfr,h.size,fun d av h1 h2=>?_,fun n o av h1 h2 h3 h4=>?_,fun n o o' av av' h1 h2 h3 h4 h5=>?_,fun k av h1 h2=>?_,fun k av g h1 h2 h3 h4=>?_,fun k k' av av' g h1 h2 h3 h4 h5 h6 hne=>?_,fun n g h1=>?_,fun b o hd=>?_⟩
 ·rw [hold b (Nat.lt_of_lt_of_le hb h.below.size) fun hv=>?_]
  ·exact h.below.block b hb hx
  ·obtain ⟨k,av,f1,f2,f3,f4,f5,f6⟩:=hlent hv
   rcases (h.blk k av b f1 f2 f3 f6).1 with f7 | f7
   ·omega
   ·exact hx f7.2
 ·rcases hlc h1 with h3 | ⟨h3,h4⟩
  ·have:=(hqk h3).1;omega
  ·obtain ⟨v,f1,f2⟩:=h.slot d av h4 h2
   exact ⟨v,f1,hm1 h4 h3 f2⟩
 ·have hob:=hlc h3
  rcases hlc h1 with h5 | ⟨h5,h6⟩
  ·rcases hob with h7 | ⟨h7,h8⟩
   ·obtain ⟨v,f1,f2,f3⟩:=h'.fld n o av h5 h2 h7 h4
    refine ⟨v,hm2 (hqk h5).2.2 f1,f2,?_⟩
    rw [hvy (s7 (j8 h7))]
    exact f3
   ·rw [(hqf h5 h2).2.2] at h7;cases h7
  ·rcases hob with h7 | ⟨h7,h8⟩
   ·have h8:=(hqk h7).1
    have h4':=h4
    unfold BN at h4'
    exact (hfno h6 h5 h2 (by omega) (by omega) (s7 (j8 h7))).elim
   ·obtain ⟨v,f1,f2,f3⟩:=h.fld n o av h6 h2 h8 h4
    refine ⟨v,hm1 h6 h5 f1,f2,fun i hi=>?_⟩
    rw [hvn h7]
    have f4:=f3 i hi
    obtain ⟨g2,ys,ty2,e1,e2,e3⟩:=h.obj9 h8 h4
    rw [e2] at f4 ⊢
    rw [World.cell?_of_block (w:=w) (hold g2 (Array.getElem?_eq_some_iff.1 e3).1 (hnotx h8 h7 (F4 h4) (by simp) (by rw [e1];rfl)))]
    exact f4
 ·rcases hlc h1 with f1 | ⟨f1,f2⟩
  ·rcases hlc h2 with f3 | ⟨f3,f4⟩
   ·exact h'.fdis n o o' av av' f1 f3 h3 h4 h5
   ·obtain ⟨g1,g2,g3⟩:=hqf f1 h3
    exact (hfno f4 f3 h4 g1 g2 g3).elim
  ·rcases hlc h2 with f3 | ⟨f3,f4⟩
   ·obtain ⟨g1,g2,g3⟩:=hqf f3 h4
    exact (hfno f2 f1 h3 g1 g2 g3).elim
   ·exact h.fdis n o o' av av' f2 f4 h3 h4 h5
 ·rcases hlc h1 with h3 | ⟨h3,h4⟩
  ·rw [hvy (s7 (j8 h3))]
   refine (h'.obj k av h3 h2).move hk2 (fun h5 h6=>?_) fun _ _=>rfl
   have h7:=(hqk h3).2.2
   unfold a4c at h7
   rw [h5] at h7
   have h7:Nat.ble av.n 1=true:=h7
   have:=Nat.le_of_ble_eq_true h7
   rcases D4 h6 with h8 | h8
   ·exact ⟨.inl h8,by rw [h8];rfl⟩
   ·unfold RN at h8;omega
  ·rw [hvn h3]
   by_cases h7:av.t=7
   ·exact a4v h7
   ·refine (h.obj k av h4 h2).move hk1 (fun h5 h6=>⟨hln _ h6,?_⟩) fun g hg=>hold g (h.blk k av g h4 h2 h7 hg).2.1 (hnotx h4 h3 h2 h7 hg)
    unfold G9
    by_cases h8:av.n=1
    ·rw [if_pos h8,if_pos h8]
    ·rw [if_neg h8,if_neg h8]
     rcases h6 with h6 | ⟨e,he⟩
     ·exact absurd h6 h8
     ·rw [hvn (hlive _ _ he).1]
 ·rcases hlc h1 with h5 | ⟨h5,h6⟩
  ·rw [hvy (s7 (j8 h5))] at h4 ⊢
   obtain ⟨f1,f2,f3⟩:=h'.blk k av g h5 h2 h3 h4
   have ht6:=(hqk h5).2.1
   refine ⟨?_,f2,fun o _ hd=>?_⟩
   ·rcases f1 with f1 | ⟨f1,f4⟩
    ·exact .inl (Nat.le_trans h.below.size f1)
    ·obtain ⟨k1,av1,e1,e2,e3,e4,e5,e6⟩:=hlent f4
     rcases (h.blk k1 av1 g e1 e2 e3 e6).1 with e7 | e7
     ·exact .inl e7
     ·exact .inr ⟨f1,e7.2⟩
   ·rw [hD2] at hd
    rcases hd with hd | hd
    ·rcases f1 with f1 | ⟨f1,f4⟩
     ·have:=h.dlt _ _ hd;omega
     ·obtain ⟨k1,av1,e1,e2,e3,e4,e5,e6⟩:=hlent f4
      exact (h.blk k1 av1 g e1 e2 e3 e6).2.2 o (fun e=>absurd e e4) hd
    ·exact f3 o (fun e=>absurd e ht6) hd.2
  ·rw [hvn h5] at h4 ⊢
   obtain ⟨f1,f2,f3⟩:=h.blk k av g h6 h2 h3 h4
   refine ⟨f1,Nat.lt_of_lt_of_le f2 hbw.size,fun o ho hd=>?_⟩
   rw [hD2] at hd
   rcases hd with hd | hd
   ·exact f3 o ho hd
   ·omega
 ·have hmix:∀ {k k' av av'},look post k=some av→k9 k→av.t≠7→look s k'=some av'→n4 (kO post) k'=false→k9 k'→av'.t≠7→hb (hv' k)=some g→hb (hv k')≠some g:=fun {k k' av av'} e1 e2 e3 e4 e5 e6 e7 e8 e9=>by
   rcases (h'.blk k av g e1 e2 e3 e8).1 with f1 | f1
   ·have:=(h.blk k' av' g e4 e6 e7 e9).2.1;omega
   ·exact hnotx e4 e5 e6 e7 e9 f1.2
  rcases hlc h1 with e1 | ⟨e1,e2⟩
  ·rw [hvy (s7 (j8 e1))]
   rcases hlc h2 with e3 | ⟨e3,e4⟩
   ·rw [hvy (s7 (j8 e3))]
    exact h'.disj k k' av av' g e1 e3 h3 h4 h5 h6 hne
   ·rw [hvn e3]
    exact hmix e1 h3 h5 e4 e3 h4 h6
  ·rw [hvn e1]
   rcases hlc h2 with e3 | ⟨e3,e4⟩
   ·rw [hvy (s7 (j8 e3))]
    exact fun f1 f2=>hmix e3 h4 h6 e2 e1 h3 h5 f2 f1
   ·rw [hvn e3]
    exact h.disj k k' av av' g e2 e4 h3 h4 h5 h6 hne
 ·cases e:n4 (kO post) n with
  | false=>rw [hvn e];exact h.fix n g h1
  | true =>
   rw [hvy e]
   have h2:=U0.hf n g h1
   rw [hbx n h2.1 h2.2 (hnb n g h1 e)]
   exact h.fix n g h1
 ·rw [hD2] at hd
  rcases hd with hd | hd
  ·exact Nat.lt_of_lt_of_le (h.dlt b o hd) hbw.size
  ·exact h'.dlt b o hd.2
def nbB (pre post:List Nat):Bool:=post.all fun k=>match Nat.ble 400000 k&&Nat.blt k 500000 with | true=>n4 pre k | false=>true
theorem c9 {pre post:List Nat} (h:nbB pre post=true):∀ k v,U0.f k=some v→n4 post k=true→n4 pre k=true:=fun k v h1 h2=>by
 have h3:=U0.hf k v h1
 unfold nbB at h
 rw [List.all_eq_true] at h
 have h4:=h _ (x8 h2)
 rw [Nat.ble_eq_true_of_le h3.1,a5S h3.2] at h4
 exact h4
theorem b0X {f:FuncId} {xs:Array Operand} {ts:Array TypeId} {avs:List AV} {r:AV} {pre post:AS} (hg:Gd w0 U0 nt ops o gs S) (hd:o.dst=some d) (hn:Nat.blt d nt=true) (h5:Nat.blt d 100000=true)
  (ho:o.op = .call { callee := .value (.func f),args:=xs,argTypes:=ts }) (hx:a6d S xs.toList=some avs) (hc:p6 P f pre avs r post) (hp:SubS S pre) (hl:pre.all L9=true) (hq:post.all (I6 (kO post))=true) (hks:(kO pre).all (n4 (kO post))=true) (hr:a4c (kO post) r=true) (hnb:∀ k v,U0.f k=some v→n4 (kO post) k=true→n4 (kO pre) k=true) :
  AOp P w0 U0 nt ops o (gs++(rdl xs.toList++kO pre)) (L1 (kO pre) (kO post) (kO post)) S ((d,r)::post):=by
 intro s hs hN a w ⟨D,hv,h⟩ Q K hK
 rw [if_pos (hg s (fun k hk=>hs k (List.mem_append_left _ hk)) a w D hv h)]
 have hargs:=a0N h (fun k hk=>hs k (List.mem_append_right _ (List.mem_append_left _ hk))) hx
 have hsub:Sub s pre:=fun k av h1=>(hs k (List.mem_append_right _ (List.mem_append_right _ (j8 h1)))).trans (hp.look h1)
 obtain ⟨V,v1,v2,v3,v4,v5,v6⟩:=h.lend hsub hl
 obtain ⟨h1,h2⟩:=hc
 have hcall:=h2 V w hv ⟨#[],[]⟩ _ v1 v2 (hargs.imp fun c _ v hcv=>hcv.move v6 (fun _ h3=>h3.imp id fun ⟨e,he⟩=>⟨e,hsub _ _ he.1,he.2⟩) fun _=>rfl)
 have he:(execOp a.eval o).run P w = .ok (.enter f (xs.toList.map a.eval).toArray) w:=by
  have hf:a.eval (.func f) = .func (.func f) #[] #[]:=rfl
  have hen:=h1 (xs.map a.eval) w
  have harr:(xs.toList.map a.eval).toArray=xs.map a.eval:=by apply Array.ext';simp
  rw [harr]
  generalize a.eval=ρ at hf hen ⊢
  simp [execOp,ho,resolve,invoke,Deferred.ofValue,hf,hen]
 unfold Oper.wp
 rw [he,Oper.upon_enter]
 refine hcall.mono ?_
 rintro e w' ⟨v,D',hv',a',rfl,h6,h7⟩
 rw [hd]
 obtain ⟨D2,hv2,h8,h9⟩:=h.back hsub hl hq hks hN hnb v3 v4 v5 v2 h6
 exact hK _ _ ⟨D2,hv2,h8.put (bL hn) (bL h5) (h9.1 r v hr h7)⟩
theorem z0 {P:Program} {w0:World} {U0:UX} {nt:Nat} {ops:Array Oper} {o:Oper} {S:Nat→Option AV} {gs:List Nat} {d:Nat} {f:FuncId} {xs:Array Operand} {ts:Array TypeId} {avs:List AV} {r:AV} {pre:AS} {post:AS} (p:Gd w0 U0 nt ops o gs S:=by exact gN rfl) (q:o.dst=some d:=by exact rfl) (t:Nat.blt d nt=true:=by exact rfl) (u:Nat.blt d 100000=true:=by exact rfl) (x:o.op = .call { callee := .value (.func f),args:=xs,argTypes:=ts }:=by exact rfl) (y:a6d S xs.toList=some avs:=by exact rfl) (z:p6 P f pre avs r post) (A:SubS S pre:=by repeat (first | exact trivial | refine ⟨rfl,?_⟩)) (B:pre.all L9=true:=by first | rfl | kernel_rfl) (C:post.all (I6 (kO post))=true:=by first | rfl | kernel_rfl) (E:(kO pre).all (n4 (kO post))=true:=by first | rfl | kernel_rfl) (F:a4c (kO post) r=true:=by first | rfl | kernel_rfl) (G:∀ k v,U0.f k=some v→n4 (kO post) k=true→n4 (kO pre) k=true):AOp P w0 U0 nt ops o (gs++(rdl xs.toList++kO pre)) (L1 (kO pre) (kO post) (kO post)) S ((d,r)::post):=b0X p q t u x y z A B C E F G
def J6:List AV→Nat→AS
 | [],_=>[]
 | c::cs,i=>(i,c)::J6 cs (i+1)
theorem B7:∀ {cs:List AV} {i k:Nat} {av:AV},look (J6 cs i) k=some av→i≤k∧cs[k-i]?=some av
 | [],_,_,_,h=>by simp [J6,look] at h
 | c::cs,i,k,av,h=>by
  rw [J6,f0] at h
  split at h
  ·rename_i e;subst e;cases h;exact ⟨Nat.le_refl _,by simp⟩
  ·rename_i e
   obtain ⟨h1,h2⟩:=B7 h
   refine ⟨by omega,?_⟩
   rw [show k-i=(k-(i+1))+1 by omega]
   simpa using h2
noncomputable def b8I (P:Program) (s:AS) (rs:List ResultVar):Option AV:=match rs with
 | [.tmp t]=>match Nat.blt t 100000,look s t with
  | true,some ⟨0,c,_,_,_⟩=>some (.val c)
  | true,some av=>some av
  | _,_=>none
 | rs=>match a7Y P s rs with | some cs=>some (J2 cs) | none=>none
theorem a0F (h:SimG w0 U0 nt s a w D hv) {fn:Func} {r:AV} (hr:b8I P s fn.results.toList=some r):∃ v,(results fn a.tmps).run P w = .ok v w∧AVRep (Us w0 U0 D) w hv (a8 s) r v:=by
 unfold b8I at hr
 split at hr
 ·rename_i t ht
  have hrs:fn.results = #[.tmp t]:=by apply Array.ext';simpa using ht
  have hres:∀ v,a.tmps[t]?=some v→(results fn a.tmps).run P w = .ok v w:=fun v hv=>by
   rw [a2K,hrs]
   simp [b5y,Array.getD_eq_getD_getElem?,hv]
  split at hr
  ·rename_i c n q p h1 h2
   cases hr
   obtain ⟨v,h3,h4⟩:=h.slot t _ h2 (bL h1)
   exact ⟨v,hres v h3,k8 h4.1⟩
  ·rename_i av h1 h2
   cases hr
   obtain ⟨v,h3,h4⟩:=h.slot t _ h2 (bL h1)
   exact ⟨v,hres v h3,h4⟩
  ·cases hr
 ·split at hr
  ·rename_i cs h1
   cases hr
   obtain ⟨v,h2,h3⟩:=a6t h h1
   refine ⟨v,h2,O5 ?_ ?_ h3⟩
   ·unfold J2;split
    ·exact .inl rfl
    ·exact .inr rfl
   ·unfold J2;split<;>rfl
  ·cases hr
def b9Y (P:Program) (w0:World) (U0:UX) (nt:Nat) (fn:Func) (s:AS) (r:AV) (post:AS):Prop:=∃ s',Wk w0 U0 nt s s'∧b8I P s' fn.results.toList=some r∧SubL s' post
theorem j9 {f : FuncId} {fn : Func} {c : Code} {pre post : AS} {args : List AV} {r : AV} (hf : P.funcs[f]? = some fn) (hn : fn.ntmps = nt) (hname : (fn.name == "runtime.NumGoroutine") = false) (hb : fn.body = some c) (hl : Nat.ble args.length nt = true) (hnt : Nat.blt nt 100000 = true) (hpre : (kO pre).all (Nat.ble 100000) = true) (hpost : (kO post).all (Nat.ble 100000) = true)
  (h:∀ (w:World) (U:UX),(∀ k v,U.f k=some v→n4 (kO pre) k=true)→AWp P w U nt c (fun e s'=>(e = .normal∨e = .ret)∧b9Y P w U nt fn s' r post) (J6 args 0++pre)):p6 P f pre args r post:=by
 refine ⟨C1 hf hname (by rw [hb];rfl),fun U w hv a0 vs hU hpS hargs=>?_⟩
 have hlen:=hargs.len
 refine calls_of_wp hf hb ?_
 have hle:=Nat.le_of_ble_eq_true hl
 have hnt:=bL hnt
 have hlow:∀ {k av},look pre k=some av→100000≤k:=fun {k av} h1=>by
  rw [List.all_eq_true] at hpre
  exact Nat.le_of_ble_eq_true (hpre k (j8 h1))
 have hlk:∀ {k},100000≤k→look (J6 args 0++pre) k=look pre k:=fun {k} h1=>by
  rw [i0]
  cases h2:look (J6 args 0) k with
  | none=>rfl
  | some av =>
   obtain ⟨_,h3⟩:=B7 h2
   rw [Nat.sub_zero,List.getElem?_eq_none (by omega)] at h3
   cases h3
 have hlive:a8 (J6 args 0++pre)=a8 pre:=by
  funext n
  unfold a8 r9
  apply propext
  constructor
  ·rintro (h1 | ⟨e,h1,h2,h3⟩)
   ·exact .inl h1
   ·rw [hlk (by omega)] at h1;exact .inr ⟨e,h1,h2,h3⟩
  ·rintro (h1 | ⟨e,h1,h2,h3⟩)
   ·exact .inl h1
   ·exact .inr ⟨e,by rw [hlk (by omega)];exact h1,h2,h3⟩
 have hs:Sim w U nt (J6 args 0++pre) { tmps:=vs.toArray++Array.replicate (fn.ntmps-vs.toArray.size) undef,defers:=[] } w:=by
  refine ⟨fun _ _=>False,hv,hpS.below,rfl,by simp [hn];omega,fun d av h1 h2=>?_,fun n o av h1 h2 h3 h4=>?_,fun n o o' av av' h1 h2=>?_,fun k av h1 h2=>?_,fun k av g h1 h2=>?_,fun k k' av av' g h1 h2 h3 h4=>?_,hpS.fix,fun b o hd=>hd.elim⟩
  ·rw [i0] at h1
   cases h3:look (J6 args 0) d with
   | none =>
    rw [h3] at h1
    have:=hlow h1
    omega
   | some av' =>
    rw [h3] at h1
    cases h1
    obtain ⟨_,h4⟩:=B7 h3
    rw [Nat.sub_zero] at h4
    obtain ⟨v,h6,h7⟩:=hargs.at h4
    have hdl:d<vs.length:=by
     rcases Nat.lt_or_ge d vs.length with h | h
     ·exact h
     ·rw [List.getElem?_eq_none h] at h6;cases h6
    rw [hlive]
    refine ⟨v,?_,h7⟩
    rw [Array.getElem?_append_left (by simpa using hdl)]
    simpa using h6
  ·rw [hlk (by unfold b9;omega)] at h1
   rw [hlk (by omega)] at h3
   rw [hlive]
   exact hpS.fld n o av h1 h2 h3 h4
  ·rw [hlk (by unfold b9;omega)] at h1 h2
   exact hpS.fdis n o o' av av' h1 h2
  ·rw [hlk h2.1] at h1;rw [hlive];exact hpS.obj k av h1 h2
  ·rw [hlk h2.1] at h1;exact hpS.blk k av g h1 h2
  ·rw [hlk h3.1] at h1;rw [hlk h4.1] at h2;exact hpS.disj k k' av av' g h1 h2 h3 h4
 refine wp_mono ((h w U hU ⟨none,[]⟩ _ w hs).wp rfl (fun e a w ⟨s,_,h⟩=>h.df)) ?_
 rintro e a' w' ⟨s',⟨h1,s2,g1,g2,g3⟩,h3⟩
 obtain ⟨D',hv',h4⟩:=g1 a' w' h3
 obtain ⟨v,h5,h6⟩:=a0F h4 g2
 have hS:=h4.sub g3.sub
 have hlow2:∀ {k av},look post k=some av→100000≤k:=fun {k av} h1=>by
  rw [List.all_eq_true] at hpost
  exact Nat.le_of_ble_eq_true (hpost k (j8 h1))
 have hS0:SimG w U 0 post ⟨#[],[]⟩ w' D' hv':=⟨hS.below,rfl,rfl,fun d av h7 h8=>by have:=hlow2 h7;omega,hS.fld,hS.fdis,hS.obj,hS.blk,hS.disj,hS.fix,hS.dlt⟩
 rcases h1 with rfl | rfl
 ·exact ⟨h4.dfr,v,h5,v,D',hv',_,rfl,hS0,h6.move (fun _ _ _ h1 h2=>⟨h1,h2⟩) (fun _ h7=>h7.imp id fun ⟨e,he⟩=>⟨e,g3.sub _ _ he.1,he.2⟩) fun _=>rfl⟩
 ·exact ⟨h4.dfr,v,h5,v,D',hv',_,rfl,hS0,h6.move (fun _ _ _ h1 h2=>⟨h1,h2⟩) (fun _ h7=>h7.imp id fun ⟨e,he⟩=>⟨e,g3.sub _ _ he.1,he.2⟩) fun _=>rfl⟩
end
end Go.Proofs.YtglmoficcjphaaaGreat
