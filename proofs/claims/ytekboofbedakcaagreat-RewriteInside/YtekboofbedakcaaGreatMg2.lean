/-
 AbTok AbFn AbLit TmMath AbTm TmMem TmSmall TmCmp FrRange TmIter TmCount TmApp TmClone TmConcat TmPlaces TmVars TmOf TmFine AbBr SbMath AbOff AbObj
-/
import Derived.Test.YtekboofbedakcaaGreatMg1
import Derived.Test.YtekboofbedakcaaGreatChecked
import Derived.Deep.QuietTactic
import Derived.BigQuiet
import Derived.Deep.RegionHeld3
import Derived.RangeFuncNested
import Derived.RangeFuncBound
import Derived.RangeFuncCalls
import Derived.RangeFuncLeaves
import Derived.RangeFuncBox
import Derived.Shelf.Abstract
import Derived.Shelf.RegionOpen
import Derived.WalkKit
import Derived.OwnWalkIn
import Derived.TacticsInMore
import Derived.LoopNIn
import Derived.LoopIn
import Derived.RangeFuncWrites
import Derived.Maps.AppendAt
import Derived.Lib.AppendZeros
import Derived.Maps.OwnIn
import Derived.Maps.OwnSet
import Derived.Maps.Views
import Derived.Deep.RegionLaw
namespace Go.Proofs.YtekboofbedakcaaGreat
open Go.RowKit
set_option linter.unusedVariables false
set_option linter.unusedSimpArgs false
section
variable {P:Program} {w0:World} {U0:UX} {nt:Nat} {s:AS}
theorem Q3 {a b:Nat} (h:a≠b):Nat.beq a b=false:=by
 cases e:Nat.beq a b with
 | false=>rfl
 | true=>exact absurd (Nat.eq_of_beq_eq_true e) h
theorem rnB {n:Nat} (h:(Nat.ble 200000 n&&Nat.blt n 400000)=true):200000≤n∧n<400000:=by
 rw [Bool.and_eq_true] at h
 exact ⟨Nat.le_of_ble_eq_true h.1,bL h.2⟩
theorem b2B {hv:Nat→Value}:J5 hv 1 = .slice none 0 0:=rfl
theorem E4 (kk n e z:Nat) {av:AV} (hk:look s kk=some av) (h1:av.n=1) (ht0:(Nat.beq av.t 0||Nat.beq av.t 5)=true) (hkk:Nat.blt kk 200000=true) (hn:(Nat.ble 200000 n&&Nat.blt n 400000)=true) (hz:Nat.blt 0 z=true) (hr:D1 s [(n,[])]=true):Wk w0 U0 nt s ((n,.tok e z)::(kk,{ av with n:=n })::s):=by
 rintro a w ⟨D,hv,h⟩
 obtain ⟨hn,hnx⟩:=rnB hn
 have hkk:=bL hkk
 have hz:=bL hz
 have hr:=(y9 hr (n,[]) (by simp)).nr
 have ht2:av.t=0∨av.t=5:=by
  rw [Bool.or_eq_true] at ht0
  exact ht0.imp Nat.eq_of_beq_eq_true Nat.eq_of_beq_eq_true
 obtain ⟨hv1,hhv⟩:∃ hv1:Nat→Value,hv1=fun x=>if x=n then .slice none 0 0 else hv x:=⟨_,rfl⟩
 have hG:SimG w0 U0 nt ((n,.tok e z)::s) a w D hv1:=by
  rw [hhv]
  exact h.newrow (X:=fun _=>False) (v' := .slice none 0 0) ⟨hn,hnx⟩ hr (by simp) (BelowX.refl _ _) (fun b hb=>hb.elim) (fun g hg=>by cases hg) (fun b o hd => .inl hd) h.dlt (fun b o u h1 h2=>⟨h1,h2⟩) (fun hv lv=>by unfold OC;exact ⟨0,[],World.ownsRow_nil _ _ _ _,hz⟩)
 have hvn:hv1 n = .slice none 0 0:=by rw [hhv];simp
 obtain ⟨t,ht⟩:∃ t,t=(n,AV.tok e z)::(kk,{ av with n:=n })::s:=⟨_,rfl⟩
 obtain ⟨t0,ht1⟩:∃ t0,t0=(n,AV.tok e z)::s:=⟨_,rfl⟩
 rw [←ht]
 rw [←ht1] at hG
 have hlk:∀ k,k≠kk→look t k=look t0 k:=fun k h2=>by
  rw [ht,ht1]
  by_cases e:n=k
  ·subst e;rw [lS,lS]
  ·rw [lN e,lN e,lN (Ne.symm h2)]
 have hlt:look t kk=some { av with n:=n }:=by rw [ht,lN (by omega),lS]
 have hlt0:look t0 kk=some av:=by rw [ht1,lN (by omega)];exact hk
 have hl:∀ m f,y6 t m f↔y6 t0 m f:=fun m f=>by
  unfold y6
  by_cases e:m=kk
  ·constructor<;>rintro ⟨_,h3,_⟩<;>omega
  ·rw [hlk m e]
 have hl2:b6 t=b6 t0:=by funext m;simp only [b6,hl]
 have hlv:b6 t0 n := .inr ⟨(e,z),by rw [ht1];exact ⟨lS _ _ _,hn,hnx⟩⟩
 have htk:∀ us,Tk hv1 (b6 t0) av us→Tk hv1 (b6 t0) { av with n:=n } us:=fun us h2 _=>by
  obtain ⟨m,c,g1,g2⟩:=h2 (.inl h1)
  refine ⟨m,c,g1,?_⟩
  rw [g2,h1,b2B]
  unfold J5
  simp only
  rw [if_neg (by omega),hvn]
 refine ⟨D,hv1,hG.below,hG.dfr,hG.size,fun d av' h2 h3=>?_,fun m o av' h2 h3 h4 h6=>?_,fun m o o' av1 av2 h2 h3=>?_,fun k av' h2 h3=>?_,fun k av' g h2 h3 h4 h6=>?_,fun k k' av1 av2 g h2 h3 h4 h6 h7 h8 hne=>?_,hG.fix,hG.dlt⟩
 ·rw [hl2]
  by_cases e:d=kk
  ·subst e
   rw [hlt] at h2
   cases h2
   obtain ⟨v,g4,g5⟩:=hG.slot d av hlt0 h3
   refine ⟨v,g4,?_⟩
   unfold AVRep at g5 ⊢
   simp only
   rcases ht2 with ht2 | ht2
   ·rw [if_pos ht2] at g5 ⊢
    exact ⟨g5.1,htk _ g5.2⟩
   ·rw [if_neg (by omega),if_neg (by omega),if_neg (by omega),if_neg (by omega),if_neg (by omega),if_neg (by omega),if_neg (by omega),if_neg (by omega),if_neg (by omega),if_neg (by omega)]
    first | trivial | exact a5Z (by simp only;omega)
  ·rw [hlk d e] at h2
   exact hG.slot d av' h2 h3
 ·rw [hl2]
  rw [hlk _ (by unfold c8;omega)] at h2
  have hne:100000+m≠kk:=fun e=>by
   rw [e,hlt] at h4
   injection h4 with h4
   rcases ht2 with ht2 | ht2<;>(have:=congrArg AV.t h4;simp only at this;omega)
  rw [hlk _ hne] at h4
  exact hG.fld m o av' h2 h3 h4 h6
 ·rw [hlk _ (by unfold c8;omega)] at h2 h3
  exact hG.fdis m o o' av1 av2 h2 h3
 ·rw [hl2]
  by_cases e:k=kk
  ·subst e
   rw [hlt] at h2
   cases h2
   have g5:=hG.obj k av hlt0 h3
   unfold OC at g5 ⊢
   simp only
   rcases ht2 with ht2 | ht2
   ·rw [if_neg (by omega),if_neg (by omega),if_neg (by omega),if_neg (by omega),if_neg (by omega)]
    first | trivial | exact a5Z (by simp only;omega)
   ·rw [if_pos ht2] at g5 ⊢
    obtain ⟨g,xs,ty,e1,e2,e3,e4⟩:=g5
    exact ⟨g,xs,ty,e1,e2,e3,htk _ e4⟩
  ·rw [hlk k e] at h2
   exact hG.obj k av' h2 h3
 ·by_cases e:k=kk
  ·subst e
   rw [hlt] at h2
   cases h2
   have:=hG.blk k av g hlt0 h3 h4 h6
   exact this
  ·rw [hlk k e] at h2
   exact hG.blk k av' g h2 h3 h4 h6
 ·have conv:∀ q (aq:AV),look t q=some aq→aq.t≠7→∃ aq',look t0 q=some aq'∧aq'.t≠7:=fun q aq f1 f2=>by
   by_cases e:q=kk
   ·subst e
    rw [hlt] at f1
    cases f1
    exact ⟨av,hlt0,f2⟩
   ·rw [hlk q e] at f1;exact ⟨aq,f1,f2⟩
  obtain ⟨a1,b1,c1⟩:=conv k av1 h2 h7
  obtain ⟨a2,b2,c2⟩:=conv k' av2 h3 h8
  exact hG.disj k k' a1 a2 g b1 b2 h4 h6 c1 c2 hne
def U9 (k:Nat):AS→AS
 | []=>[]
 | (d,av)::s=>(d,match Nat.beq d k with | true=>(match Nat.beq av.t 0||Nat.beq av.t 5 with | false=>av | true=>⟨av.t,av.c,0,av.o,av.p⟩) | false=>av)::U9 k s
theorem a3g (k:Nat):∀ {s:AS} {d:Nat} {av:AV},look (U9 k s) d=some av→∃ av0,look s d=some av0∧(av=av0∨((av0.t=0∨av0.t=5)∧av=⟨av0.t,av0.c,0,av0.o,av0.p⟩))
 | [],_,_,h=>by simp [U9,look] at h
 | (e,x)::s,d,av,h=>by
  rw [U9,r7] at h
  split at h
  ·rename_i hed
   subst hed
   refine ⟨x,lS _ _ _,?_⟩
   cases hk:Nat.beq e k with
   | false=>rw [hk] at h;cases h;exact .inl rfl
   | true =>
    rw [hk] at h
    cases ht:Nat.beq x.t 0||Nat.beq x.t 5 with
    | false=>rw [ht] at h;cases h;exact .inl rfl
    | true =>
     rw [ht] at h
     cases h
     rw [Bool.or_eq_true] at ht
     exact .inr ⟨ht.imp Nat.eq_of_beq_eq_true Nat.eq_of_beq_eq_true,rfl⟩
  ·rename_i hed
   rw [lN hed]
   exact a3g k h
theorem b3C (k:Nat) (hk:Nat.blt k 200000=true):Wk w0 U0 nt s (U9 k s):=by
 rintro a w ⟨D,hv,h⟩
 obtain ⟨t,ht⟩:∃ t,t=U9 k s:=⟨_,rfl⟩
 rw [←ht]
 have hlk:∀ {d av},look t d=some av→∃ av0,look s d=some av0∧(av=av0∨((av0.t=0∨av0.t=5)∧av=⟨av0.t,av0.c,0,av0.o,av0.p⟩)):=fun {d av} h1=>by rw [ht] at h1;exact a3g k h1
 have hsm:∀ {d av},look t d=some av→av.t≠0→av.t≠5→look s d=some av:=fun {d av} h1 h2 h3=>by
  obtain ⟨av0,g1,g2⟩:=hlk h1
  rcases g2 with rfl | ⟨g3,rfl⟩
  ·exact g1
  ·simp only at h2 h3;omega
 have hl:∀ n e,y6 t n e→y6 s n e:=fun n e ⟨h1,h2⟩=>⟨hsm h1 (by simp) (by simp),h2⟩
 have hln:∀ n,b6 t n→b6 s n:=fun n h1=>h1.imp id fun ⟨e,he⟩=>⟨e,hl _ _ he⟩
 have K3:∀ b o v,Us w0 U0 D b o→w.cell? ⟨b,o,none⟩=some v→Us w0 U0 D b o∧w.cell? ⟨b,o,none⟩=some v:=fun _ _ _ h1 h2=>⟨h1,h2⟩
 have hav:∀ {av0 av v},(av=av0∨((av0.t=0∨av0.t=5)∧av=⟨av0.t,av0.c,0,av0.o,av0.p⟩))→AVRep (Us w0 U0 D) w hv (b6 s) av0 v→AVRep (Us w0 U0 D) w hv (b6 t) av v:=fun {av0 av v} h1 h2=>by
  rcases h1 with rfl | ⟨h3,rfl⟩
  ·exact h2.move K3 (fun _=>hln _) fun _=>rfl
  ·unfold AVRep at h2 ⊢
   simp only
   rcases h3 with h3 | h3
   ·rw [if_pos h3] at h2 ⊢
    exact ⟨h2.1,fun he=>absurd he y0⟩
   ·rw [if_neg (by omega),if_neg (by omega),if_neg (by omega),if_neg (by omega),if_neg (by omega),if_neg (by omega),if_neg (by omega),if_neg (by omega),if_neg (by omega),if_neg (by omega)]
    first | trivial | exact a5Z (by simp only;omega)
 have hsz:∀ {av0 av:AV},(av=av0∨((av0.t=0∨av0.t=5)∧av=⟨av0.t,av0.c,0,av0.o,av0.p⟩))→av.sz=av0.sz∧av.t=av0.t:=fun {av0 av} h1=>by
  rcases h1 with rfl | ⟨h3,rfl⟩
  ·exact ⟨rfl,rfl⟩
  ·exact ⟨rfl,rfl⟩
 refine ⟨D,hv,h.below,h.dfr,h.size,fun d av h1 h2=>?_,fun m o av h1 h2 h3 h4=>?_,fun m o o' av av' h1 h2=>?_,fun q av h1 h2=>?_,fun q av g h1 h2 h3 h4=>?_,fun q q' av av' g h1 h2 h3 h4 h5 h6=>?_,h.fix,h.dlt⟩
 ·obtain ⟨av0,g1,g2⟩:=hlk h1
  obtain ⟨v,g3,g4⟩:=h.slot d av0 g1 h2
  exact ⟨v,g3,hav g2 g4⟩
 ·obtain ⟨av0,g1,g2⟩:=hlk h1
  obtain ⟨v,g3,g4,g5⟩:=h.fld m o av0 g1 h2 (hsm h3 (by simp) (by simp)) h4
  exact ⟨v,hav g2 g3,by rw [(hsz g2).1];exact g4,g5⟩
 ·obtain ⟨av0,g1,g2⟩:=hlk h1
  obtain ⟨av1,g3,g4⟩:=hlk h2
  rw [(hsz g2).1]
  exact h.fdis m o o' av0 av1 g1 g3
 ·obtain ⟨av0,g1,g2⟩:=hlk h1
  have g5:=h.obj q av0 g1 h2
  rcases g2 with rfl | ⟨h3,rfl⟩
  ·exact g5.move K3 (fun _ he=>⟨hln _ he,rfl⟩) fun _ _=>rfl
  ·unfold OC at g5 ⊢
   simp only
   rcases h3 with h3 | h3
   ·rw [if_neg (by omega),if_neg (by omega),if_neg (by omega),if_neg (by omega),if_neg (by omega)]
    first | trivial | exact a5Z (by simp only;omega)
   ·rw [if_pos h3] at g5 ⊢
    obtain ⟨g,xs,ty,e1,e2,e3,e4⟩:=g5
    exact ⟨g,xs,ty,e1,e2,e3,fun he=>absurd he y0⟩
 ·obtain ⟨av0,g1,g2⟩:=hlk h1
  have e:=(hsz g2).2
  obtain ⟨f1,f2,f3⟩:=h.blk q av0 g g1 h2 (by rw [←e];exact h3) h4
  refine ⟨by rw [a9g e];exact f1,f2,?_⟩
  rcases g2 with rfl | ⟨h3,rfl⟩
  ·exact f3
  ·exact f3
 ·obtain ⟨av0,g1,g2⟩:=hlk h1
  obtain ⟨av1,g3,g4⟩:=hlk h2
  exact h.disj q q' av0 av1 g g1 g3 h3 h4 (by rw [←(hsz g2).2];exact h5) (by rw [←(hsz g4).2];exact h6)
def j9 (n n':Nat) (av:AV):AV:=⟨av.t,av.c,match Nat.beq av.t 2,Nat.beq av.n n with | false,true=>n' | _,_=>av.n,av.o,av.p⟩
def ren (n n':Nat):AS→AS
 | []=>[]
 | (k,av)::s=>(match Nat.beq k n with | true=>n' | false=>k,j9 n n' av)::ren n n' s
def T3 (s:AS) (n:Nat):Bool:=s.all fun p=>!Nat.beq p.1 n
theorem a3D {n n':Nat}:∀ {s:AS},T3 s n'=true→∀ {k:Nat} {av:AV},look (ren n n' s) k=some av→∃ k0 av0,look s k0=some av0∧av=j9 n n' av0∧((k0=n∧k=n')∨(k0≠n∧k0≠n'∧k=k0))
 | [],_,k,av,h=>by simp [ren,look] at h
 | (d,x)::s,hno,k,av,h=>by
  unfold T3 at hno
  rw [List.all_cons,Bool.and_eq_true] at hno
  have hdn:d≠n':=fun e=>by have:=hno.1;rw [e] at this;simp at this
  obtain ⟨kd,hkd⟩:∃ kd,kd=(match Nat.beq d n with | true=>n' | false=>d):=⟨_,rfl⟩
  rw [ren,←hkd,r7] at h
  split at h
  ·rename_i e
   rw [hkd] at e
   cases h
   by_cases hd:d=n
   ·subst hd
    refine ⟨d,x,lS _ _ _,rfl,.inl ⟨rfl,?_⟩⟩
    rw [←e,Nat.beq_refl]
   ·refine ⟨d,x,lS _ _ _,rfl,.inr ⟨hd,hdn,?_⟩⟩
    rw [←e,Q3 hd]
  ·rename_i e
   rw [hkd] at e
   obtain ⟨k0,av0,h1,h2,h3⟩:=a3D (s:=s) hno.2 h
   refine ⟨k0,av0,?_,h2,h3⟩
   rw [lN]
   ·exact h1
   ·rintro rfl
    apply e
    rcases h3 with ⟨h4,h5⟩ | ⟨h4,h5,h6⟩
    ·rw [h4,Nat.beq_refl,h5]
    ·rw [Q3 h4,h6]
theorem a4Q {n n':Nat} {av:AV} (hn:n≠0) (hn':n'≠0) (h:j9 n n' av = .obj):av = .obj:=by
 obtain ⟨t,c,n0,o,p⟩:=av
 unfold j9 at h
 injection h with e1 e2 e3 e4 e5
 simp only at e1 e2 e3 e4 e5
 subst e1;subst e2;subst e4;subst e5
 by_cases e:n0=n
 ·subst e;rw [Nat.beq_refl] at e3;exact absurd e3 hn'
 ·rw [Q3 e] at e3;rw [show n0=0 from e3]
theorem a1m {n n' e z:Nat} {av:AV} (hn:n≠0) (hn':n'≠0) (h:j9 n n' av = .tok e z):av = .tok e z:=by
 obtain ⟨t,c,n0,o,p⟩:=av
 unfold j9 at h
 injection h with e1 e2 e3 e4 e5
 simp only at e1 e2 e3 e4 e5
 subst e1;subst e2;subst e4;subst e5
 by_cases e:n0=n
 ·subst e;rw [Nat.beq_refl] at e3;exact absurd e3 hn'
 ·rw [Q3 e] at e3;rw [show n0=0 from e3]
def rOk (s:AS) (n n':Nat):Bool:=match look s n with | some av=>Nat.beq av.t 6||Nat.blt n 300000||Nat.ble 300000 n' | none=>true
theorem rnF {n:Nat} (h:(Nat.ble 200000 n&&Nat.blt n 450000)=true):200000≤n∧n<450000:=by
 rw [Bool.and_eq_true] at h
 exact ⟨Nat.le_of_ble_eq_true h.1,bL h.2⟩
theorem v9 (n n':Nat) (hn:(Nat.ble 200000 n&&Nat.blt n 400000)=true) (hn':(Nat.ble 200000 n'&&Nat.blt n' 400000)=true) (hr:D1 s [(n',[])]=true) (hk':(T3 s n'&&rOk s n n')=true):Wk w0 U0 nt s (ren n n' s):=by
 rintro a w ⟨D,hv,h⟩
 have hn:=rnB hn
 have hn':=rnB hn'
 rw [Bool.and_eq_true] at hk'
 obtain ⟨hk,hrok⟩:=hk'
 have hr:=(y9 hr (n',[]) (by simp)).nr
 obtain ⟨t,ht⟩:∃ t,t=ren n n' s:=⟨_,rfl⟩
 rw [←ht]
 have hlk:∀ {k av},look t k=some av→∃ k0 av0,look s k0=some av0∧av=j9 n n' av0∧((k0=n∧k=n')∨(k0≠n∧k0≠n'∧k=k0)):=fun {k av} h1=>by rw [ht] at h1;exact a3D hk h1
 have hlow:∀ {k av},look t k=some av→(k<200000∨400000≤k)→∃ av0,look s k=some av0∧av=j9 n n' av0:=fun {k av} h1 h2=>by
  obtain ⟨k0,av0,g1,g2,g3⟩:=hlk h1
  rcases g3 with ⟨g4,g5⟩ | ⟨g4,g5,g6⟩
  ·omega
  ·rw [g6];exact ⟨av0,g1,g2⟩
 have hlive:∀ {m f},y6 t m f→∃ m0,y6 s m0 f∧((m0=n∧m=n')∨(m0≠n∧m0≠n'∧m=m0)):=fun {m f} h1=>by
  obtain ⟨k0,av0,g1,g2,g3⟩:=hlk h1.1
  refine ⟨k0,⟨?_,?_⟩,g3⟩
  ·rw [g1,a1m (by omega) (by omega) g2.symm]
  ·have:=h1.2
   rcases g3 with ⟨g4,g5⟩ | ⟨g4,g5,g6⟩<;>omega
 obtain ⟨hv1,hhv⟩:∃ hv1:Nat→Value,hv1=fun x=>if x=n' then hv n else hv x:=⟨_,rfl⟩
 have hvn:∀ k,k≠n'→hv1 k=hv k:=fun k hk=>by rw [hhv];simp only [if_neg hk]
 have hvd:hv1 n'=hv n:=by rw [hhv];simp
 have K3:∀ b o v,Us w0 U0 D b o→w.cell? ⟨b,o,none⟩=some v→Us w0 U0 D b o∧w.cell? ⟨b,o,none⟩=some v:=fun _ _ _ h1 h2=>⟨h1,h2⟩
 have hnm:∀ {k av0},look s k=some av0→(av0.t≠2∧av0.n=n∧(j9 n n' av0).n=n')∨((av0.t=2∨av0.n≠n)∧(j9 n n' av0).n=av0.n):=fun {k av0} h1=>by
  unfold j9
  by_cases e:av0.n=n
  ·by_cases e2:av0.t=2
   ·right;exact ⟨.inl e2,by simp only [e2,Nat.beq_refl]⟩
   ·left;exact ⟨e2,e,by simp only [e,Nat.beq_refl,Q3 e2]⟩
  ·right;refine ⟨.inr e,?_⟩;simp only [Q3 e];cases Nat.beq av0.t 2<;>rfl
 have hlv:∀ {k av0},look s k=some av0→b6 t (j9 n n' av0).n→av0.t≠2→b6 s av0.n∧J5 hv1 (j9 n n' av0).n=J5 hv av0.n:=fun {k av0} h1 h2 h3=>by
  have hne:=(hr k av0 h1).1
  rcases hnm h1 with ⟨g1,g2,g3⟩ | ⟨g1,g3⟩
  ·rw [g3] at h2 ⊢
   rw [g2]
   refine ⟨?_,?_⟩
   ·rcases h2 with h2 | ⟨f,hf⟩
    ·omega
    ·obtain ⟨m0,f1,f2⟩:=hlive hf
     rcases f2 with ⟨f3,_⟩ | ⟨f3,f4,f5⟩
     ·exact .inr ⟨f,f3▸f1⟩
     ·omega
   ·unfold J5
    rw [if_neg (by omega),if_neg (by omega),hvd]
  ·rw [g3] at h2 ⊢
   refine ⟨?_,?_⟩
   ·rcases h2 with h2 | ⟨f,hf⟩
    ·exact .inl h2
    ·obtain ⟨m0,f1,f2⟩:=hlive hf
     rcases f2 with ⟨_,f4⟩ | ⟨_,_,f5⟩
     ·exact absurd f4 hne
     ·rw [f5];exact .inr ⟨f,f1⟩
   ·unfold J5
    rw [hvn _ hne]
 have hav:∀ {k av0 v},look s k=some av0→AVRep (Us w0 U0 D) w hv (b6 s) av0 v→AVRep (Us w0 U0 D) w hv1 (b6 t) (j9 n n' av0) v:=fun {k av0 v} h1 h2=>by
  have hne:=(hr k av0 h1).1
  unfold AVRep at h2 ⊢
  rw [show (j9 n n' av0).t=av0.t from rfl,show (j9 n n' av0).c=av0.c from rfl,show (j9 n n' av0).o=av0.o from rfl]
  have ez:zOf (j9 n n' av0)=zOf av0∧zSl (j9 n n' av0)=zSl av0:=⟨rfl,rfl⟩
  rw [ez.1,ez.2]
  by_cases t0:av0.t=0
  ·rw [if_pos t0] at h2 ⊢
   refine ⟨h2.1,fun he=>?_⟩
   obtain ⟨f1,f2⟩:=hlv h1 he (by omega)
   obtain ⟨m,c,f3,f4⟩:=h2.2 f1
   exact ⟨m,c,f3,by rw [f4,f2]⟩
  rw [if_neg t0] at h2 ⊢
  by_cases t2:av0.t=2
  ·rw [if_pos t2] at h2 ⊢
   have e:(j9 n n' av0).n=av0.n:=by
    rcases hnm h1 with ⟨g1,_⟩ | ⟨_,g⟩
    ·exact absurd t2 g1
    ·exact g
   have hb:=h2.1
   unfold BN at hb
   rw [e,hvn _ (by omega)]
   exact h2
  rw [if_neg t2] at h2 ⊢
  by_cases t3:av0.t=3
  ·rw [if_pos t3] at h2 ⊢;exact h2
  rw [if_neg t3] at h2 ⊢
  by_cases t4:av0.t=4
  ·rw [if_pos t4] at h2 ⊢;exact h2
  rw [if_neg t4] at h2 ⊢
  have hR:RN av0.n→RN (j9 n n' av0).n∧hv1 (j9 n n' av0).n=hv av0.n:=fun h3=>by
   rcases hnm h1 with ⟨g1,g2,g3⟩ | ⟨g1,g3⟩
   ·rw [g3,g2];exact ⟨RW.rn hn',hvd⟩
   ·rw [g3];exact ⟨h3,hvn _ hne⟩
  by_cases t11:av0.t=11
  ·rw [if_pos t11] at h2 ⊢;obtain ⟨f1,f2⟩:=hR h2.1;rw [f2];exact ⟨f1,h2.2⟩
  rw [if_neg t11] at h2 ⊢
  by_cases t12:av0.t=12
  ·rw [if_pos t12] at h2 ⊢;obtain ⟨f1,f2⟩:=hR h2.1;rw [f2];exact ⟨f1,h2.2⟩
  rw [if_neg t12] at h2 ⊢
  by_cases t15:av0.t=15
  ·rw [if_pos t15] at h2 ⊢;obtain ⟨f1,f2⟩:=hR h2.1;rw [f2];exact ⟨f1,h2.2⟩
  rw [if_neg t15] at h2 ⊢
  by_cases t16:av0.t=16
  ·rw [if_pos t16] at h2 ⊢;exact h2
  rw [if_neg t16] at h2 ⊢
  by_cases t18:av0.t=18
  ·rw [if_pos t18] at h2 ⊢;exact h2
  rw [if_neg t18] at h2 ⊢
  by_cases t19:av0.t=19
  ·rw [if_pos t19] at h2 ⊢;obtain ⟨f1,f2⟩:=hR h2.1;rw [f2];exact ⟨f1,h2.2⟩
  rw [if_neg t19]
  trivial
 have hkey:∀ {k k0},((k0=n∧k=n')∨(k0≠n∧k0≠n'∧k=k0))→hv1 k=hv k0∧(n7 k→n7 k0):=fun {k k0} h1=>by
  unfold n7
  rcases h1 with ⟨rfl,rfl⟩ | ⟨h2,h3,rfl⟩
  ·exact ⟨hvd,fun _=>by omega⟩
  ·exact ⟨hvn _ h3,fun h=>h⟩
 refine ⟨D,hv1,h.below,h.dfr,h.size,fun d av h1 h2=>?_,fun m o av h1 h2 h3 h4=>?_,fun m o o' av av' h1 h2=>?_,fun k av h1 h2=>?_,fun k av g h1 h2 h3 h4=>?_,fun k k' av av' g h1 h2 h3 h4 h5 h6 hne=>?_,fun m g h1=>?_,h.dlt⟩
 ·obtain ⟨av0,g1,rfl⟩:=hlow h1 (by omega)
  obtain ⟨v,g4,g5⟩:=h.slot d av0 g1 h2
  exact ⟨v,g4,hav g1 g5⟩
 ·obtain ⟨av0,g1,rfl⟩:=hlow h1 (by unfold c8;omega)
  obtain ⟨k0,av1,f1,f2,f3⟩:=hlk h3
  have f2:=a4Q (by omega) (by omega) f2.symm
  subst f2
  rcases f3 with ⟨f4,f5⟩ | ⟨f4,f5,f6⟩
  ·unfold BN at h4;omega
  ·rw [←f6] at f1
   obtain ⟨v,g4,g5,g6⟩:=h.fld m o av0 g1 h2 f1 h4
   exact ⟨v,hav g1 g4,g5,by rw [hvn _ (by omega)];exact g6⟩
 ·obtain ⟨av0,g1,rfl⟩:=hlow h1 (by unfold c8;omega)
  obtain ⟨av1,g2,rfl⟩:=hlow h2 (by unfold c8;omega)
  exact h.fdis m o o' av0 av1 g1 g2
 ·obtain ⟨k0,av0,g1,rfl,g3⟩:=hlk h1
  obtain ⟨e1,e2⟩:=hkey g3
  rw [e1]
  have g5:=h.obj k0 av0 g1 (e2 h2)
  unfold OC at g5 ⊢
  rw [show (j9 n n' av0).t=av0.t from rfl,show (j9 n n' av0).c=av0.c from rfl,show (j9 n n' av0).o=av0.o from rfl]
  have ez:zOf (j9 n n' av0)=zOf av0:=rfl
  rw [ez]
  by_cases t5:av0.t=5
  ·rw [if_pos t5] at g5 ⊢
   obtain ⟨g,xs,ty,f1,f2,f3,f4⟩:=g5
   refine ⟨g,xs,ty,f1,f2,f3,fun he=>?_⟩
   obtain ⟨f5,f6⟩:=hlv g1 he (by omega)
   obtain ⟨m,c,f7,f8⟩:=f4 f5
   exact ⟨m,c,f7,by rw [f8,f6]⟩
  ·rw [if_neg t5] at g5 ⊢
   exact g5
 ·obtain ⟨k0,av0,g1,rfl,g3⟩:=hlk h1
  obtain ⟨e1,e2⟩:=hkey g3
  rw [e1] at h4 ⊢
  obtain ⟨f1,f2,f3⟩:=h.blk k0 av0 g g1 (e2 h2) h3 h4
  refine ⟨?_,f2,f3⟩
  rcases g3 with ⟨rfl,rfl⟩ | ⟨_,_,rfl⟩
  ·unfold rOk at hrok
   rw [g1] at hrok
   simp only [Bool.or_eq_true] at hrok
   have e3:(j9 k0 k av0).t=av0.t:=rfl
   rcases hrok with (h6 | h6) | h6
   ·rw [M0 (Nat.eq_of_beq_eq_true h6)] at f1
    rw [M0 (e3.trans (Nat.eq_of_beq_eq_true h6))];exact f1
   ·rw [a0F (bL h6)] at f1
    rcases f1 with f1 | f1
    ·exact .inl f1
    ·exact absurd rfl f1.1
   ·have h7:=Nat.le_of_ble_eq_true h6
    rw [a2A h7]
    rcases f1 with f1 | f1
    ·exact .inl f1
    ·refine .inr ⟨?_,f1.2⟩
     intro e4
     exact f1.1 (M0 e4)
  ·exact f1
 ·obtain ⟨k0,av0,g1,rfl,g3⟩:=hlk h1
  obtain ⟨k1,av1,g4,rfl,g6⟩:=hlk h2
  obtain ⟨e1,e2⟩:=hkey g3
  obtain ⟨e3,e4⟩:=hkey g6
  rw [e1,e3]
  refine h.disj k0 k1 av0 av1 g g1 g4 (e2 h3) (e4 h4) h5 h6 fun e=>hne ?_
  rcases g3 with ⟨f1,f2⟩ | ⟨f1,f2,f3⟩<;>rcases g6 with ⟨f4,f5⟩ | ⟨f4,f5,f6⟩<;>omega
 ·have:=U0.hf m g h1
  rw [hvn _ (by omega)]
  exact h.fix m g h1
def b4f (s:AS) (n:Nat):Bool:=match look s n with | some av=>!Nat.beq av.t 6 | none=>true
theorem a0L (n n':Nat) (hn:(Nat.ble 200000 n&&Nat.blt n 450000)=true) (hn':(Nat.ble 200000 n'&&Nat.blt n' 450000)=true) (hf:U0.f n'=none) (hnt:b4f s n=true) (hr:D1 s [(n',[])]=true) (hk':(T3 s n'&&rOk s n n')=true):Wk w0 U0 nt s (ren n n' s):=by
 rintro a w ⟨D,hv,h⟩
 have hn:=rnF hn
 have hn':=rnF hn'
 rw [Bool.and_eq_true] at hk'
 obtain ⟨hk,hrok⟩:=hk'
 have hr:=(y9 hr (n',[]) (by simp)).nr
 obtain ⟨t,ht⟩:∃ t,t=ren n n' s:=⟨_,rfl⟩
 rw [←ht]
 have hlk:∀ {k av},look t k=some av→∃ k0 av0,look s k0=some av0∧av=j9 n n' av0∧((k0=n∧k=n')∨(k0≠n∧k0≠n'∧k=k0)):=fun {k av} h1=>by rw [ht] at h1;exact a3D hk h1
 have hlow:∀ {k av},look t k=some av→(k<200000∨450000≤k)→∃ av0,look s k=some av0∧av=j9 n n' av0:=fun {k av} h1 h2=>by
  obtain ⟨k0,av0,g1,g2,g3⟩:=hlk h1
  rcases g3 with ⟨g4,g5⟩ | ⟨g4,g5,g6⟩
  ·omega
  ·rw [g6];exact ⟨av0,g1,g2⟩
 have hlive:∀ {m f},y6 t m f→∃ m0,y6 s m0 f∧((m0=n∧m=n')∨(m0≠n∧m0≠n'∧m=m0)):=fun {m f} h1=>by
  obtain ⟨k0,av0,g1,g2,g3⟩:=hlk h1.1
  refine ⟨k0,⟨?_,?_⟩,g3⟩
  ·rw [g1,a1m (by omega) (by omega) g2.symm]
  ·have:=h1.2
   rcases g3 with ⟨g4,g5⟩ | ⟨g4,g5,g6⟩
   ·exfalso
    have g7:=a1m (by omega) (by omega) g2.symm
    rw [g4,g7] at g1
    unfold b4f at hnt
    rw [g1] at hnt
    cases hnt
   ·omega
 obtain ⟨hv1,hhv⟩:∃ hv1:Nat→Value,hv1=fun x=>if x=n' then hv n else hv x:=⟨_,rfl⟩
 have hvn:∀ k,k≠n'→hv1 k=hv k:=fun k hk=>by rw [hhv];simp only [if_neg hk]
 have hvd:hv1 n'=hv n:=by rw [hhv];simp
 have K3:∀ b o v,Us w0 U0 D b o→w.cell? ⟨b,o,none⟩=some v→Us w0 U0 D b o∧w.cell? ⟨b,o,none⟩=some v:=fun _ _ _ h1 h2=>⟨h1,h2⟩
 have hnm:∀ {k av0},look s k=some av0→(av0.t≠2∧av0.n=n∧(j9 n n' av0).n=n')∨((av0.t=2∨av0.n≠n)∧(j9 n n' av0).n=av0.n):=fun {k av0} h1=>by
  unfold j9
  by_cases e:av0.n=n
  ·by_cases e2:av0.t=2
   ·right;exact ⟨.inl e2,by simp only [e2,Nat.beq_refl]⟩
   ·left;exact ⟨e2,e,by simp only [e,Nat.beq_refl,Q3 e2]⟩
  ·right;refine ⟨.inr e,?_⟩;simp only [Q3 e];cases Nat.beq av0.t 2<;>rfl
 have hlv:∀ {k av0},look s k=some av0→b6 t (j9 n n' av0).n→av0.t≠2→b6 s av0.n∧J5 hv1 (j9 n n' av0).n=J5 hv av0.n:=fun {k av0} h1 h2 h3=>by
  have hne:=(hr k av0 h1).1
  rcases hnm h1 with ⟨g1,g2,g3⟩ | ⟨g1,g3⟩
  ·rw [g3] at h2 ⊢
   rw [g2]
   refine ⟨?_,?_⟩
   ·rcases h2 with h2 | ⟨f,hf⟩
    ·omega
    ·obtain ⟨m0,f1,f2⟩:=hlive hf
     rcases f2 with ⟨f3,_⟩ | ⟨f3,f4,f5⟩
     ·exact .inr ⟨f,f3▸f1⟩
     ·omega
   ·unfold J5
    rw [if_neg (by omega),if_neg (by omega),hvd]
  ·rw [g3] at h2 ⊢
   refine ⟨?_,?_⟩
   ·rcases h2 with h2 | ⟨f,hf⟩
    ·exact .inl h2
    ·obtain ⟨m0,f1,f2⟩:=hlive hf
     rcases f2 with ⟨_,f4⟩ | ⟨_,_,f5⟩
     ·exact absurd f4 hne
     ·rw [f5];exact .inr ⟨f,f1⟩
   ·unfold J5
    rw [hvn _ hne]
 have hav:∀ {k av0 v},look s k=some av0→AVRep (Us w0 U0 D) w hv (b6 s) av0 v→AVRep (Us w0 U0 D) w hv1 (b6 t) (j9 n n' av0) v:=fun {k av0 v} h1 h2=>by
  have hne:=(hr k av0 h1).1
  unfold AVRep at h2 ⊢
  rw [show (j9 n n' av0).t=av0.t from rfl,show (j9 n n' av0).c=av0.c from rfl,show (j9 n n' av0).o=av0.o from rfl]
  have ez:zOf (j9 n n' av0)=zOf av0∧zSl (j9 n n' av0)=zSl av0:=⟨rfl,rfl⟩
  rw [ez.1,ez.2]
  by_cases t0:av0.t=0
  ·rw [if_pos t0] at h2 ⊢
   refine ⟨h2.1,fun he=>?_⟩
   obtain ⟨f1,f2⟩:=hlv h1 he (by omega)
   obtain ⟨m,c,f3,f4⟩:=h2.2 f1
   exact ⟨m,c,f3,by rw [f4,f2]⟩
  rw [if_neg t0] at h2 ⊢
  by_cases t2:av0.t=2
  ·rw [if_pos t2] at h2 ⊢
   have e:(j9 n n' av0).n=av0.n:=by
    rcases hnm h1 with ⟨g1,_⟩ | ⟨_,g⟩
    ·exact absurd t2 g1
    ·exact g
   have hb:=h2.1
   unfold BN at hb
   rw [e,hvn _ (by omega)]
   exact h2
  rw [if_neg t2] at h2 ⊢
  by_cases t3:av0.t=3
  ·rw [if_pos t3] at h2 ⊢;exact h2
  rw [if_neg t3] at h2 ⊢
  by_cases t4:av0.t=4
  ·rw [if_pos t4] at h2 ⊢;exact h2
  rw [if_neg t4] at h2 ⊢
  have hR:RN av0.n→RN (j9 n n' av0).n∧hv1 (j9 n n' av0).n=hv av0.n:=fun h3=>by
   rcases hnm h1 with ⟨g1,g2,g3⟩ | ⟨g1,g3⟩
   ·rw [g3,g2];exact ⟨hn',hvd⟩
   ·rw [g3];exact ⟨h3,hvn _ hne⟩
  by_cases t11:av0.t=11
  ·rw [if_pos t11] at h2 ⊢;obtain ⟨f1,f2⟩:=hR h2.1;rw [f2];exact ⟨f1,h2.2⟩
  rw [if_neg t11] at h2 ⊢
  by_cases t12:av0.t=12
  ·rw [if_pos t12] at h2 ⊢;obtain ⟨f1,f2⟩:=hR h2.1;rw [f2];exact ⟨f1,h2.2⟩
  rw [if_neg t12] at h2 ⊢
  by_cases t15:av0.t=15
  ·rw [if_pos t15] at h2 ⊢;obtain ⟨f1,f2⟩:=hR h2.1;rw [f2];exact ⟨f1,h2.2⟩
  rw [if_neg t15] at h2 ⊢
  by_cases t16:av0.t=16
  ·rw [if_pos t16] at h2 ⊢;exact h2
  rw [if_neg t16] at h2 ⊢
  by_cases t18:av0.t=18
  ·rw [if_pos t18] at h2 ⊢;exact h2
  rw [if_neg t18] at h2 ⊢
  by_cases t19:av0.t=19
  ·rw [if_pos t19] at h2 ⊢;obtain ⟨f1,f2⟩:=hR h2.1;rw [f2];exact ⟨f1,h2.2⟩
  rw [if_neg t19]
  trivial
 have hkey:∀ {k k0},((k0=n∧k=n')∨(k0≠n∧k0≠n'∧k=k0))→hv1 k=hv k0∧(n7 k→n7 k0):=fun {k k0} h1=>by
  unfold n7
  rcases h1 with ⟨rfl,rfl⟩ | ⟨h2,h3,rfl⟩
  ·exact ⟨hvd,fun _=>by omega⟩
  ·exact ⟨hvn _ h3,fun h=>h⟩
 refine ⟨D,hv1,h.below,h.dfr,h.size,fun d av h1 h2=>?_,fun m o av h1 h2 h3 h4=>?_,fun m o o' av av' h1 h2=>?_,fun k av h1 h2=>?_,fun k av g h1 h2 h3 h4=>?_,fun k k' av av' g h1 h2 h3 h4 h5 h6 hne=>?_,fun m g h1=>?_,h.dlt⟩
 ·obtain ⟨av0,g1,rfl⟩:=hlow h1 (by omega)
  obtain ⟨v,g4,g5⟩:=h.slot d av0 g1 h2
  exact ⟨v,g4,hav g1 g5⟩
 ·obtain ⟨av0,g1,rfl⟩:=hlow h1 (by unfold c8;omega)
  obtain ⟨k0,av1,f1,f2,f3⟩:=hlk h3
  have f2:=a4Q (by omega) (by omega) f2.symm
  subst f2
  rcases f3 with ⟨f4,f5⟩ | ⟨f4,f5,f6⟩
  ·unfold BN at h4;omega
  ·rw [←f6] at f1
   obtain ⟨v,g4,g5,g6⟩:=h.fld m o av0 g1 h2 f1 h4
   exact ⟨v,hav g1 g4,g5,by rw [hvn _ (by omega)];exact g6⟩
 ·obtain ⟨av0,g1,rfl⟩:=hlow h1 (by unfold c8;omega)
  obtain ⟨av1,g2,rfl⟩:=hlow h2 (by unfold c8;omega)
  exact h.fdis m o o' av0 av1 g1 g2
 ·obtain ⟨k0,av0,g1,rfl,g3⟩:=hlk h1
  obtain ⟨e1,e2⟩:=hkey g3
  rw [e1]
  have g5:=h.obj k0 av0 g1 (e2 h2)
  unfold OC at g5 ⊢
  rw [show (j9 n n' av0).t=av0.t from rfl,show (j9 n n' av0).c=av0.c from rfl,show (j9 n n' av0).o=av0.o from rfl]
  have ez:zOf (j9 n n' av0)=zOf av0:=rfl
  rw [ez]
  by_cases t5:av0.t=5
  ·rw [if_pos t5] at g5 ⊢
   obtain ⟨g,xs,ty,f1,f2,f3,f4⟩:=g5
   refine ⟨g,xs,ty,f1,f2,f3,fun he=>?_⟩
   obtain ⟨f5,f6⟩:=hlv g1 he (by omega)
   obtain ⟨m,c,f7,f8⟩:=f4 f5
   exact ⟨m,c,f7,by rw [f8,f6]⟩
  ·rw [if_neg t5] at g5 ⊢
   exact g5
 ·obtain ⟨k0,av0,g1,rfl,g3⟩:=hlk h1
  obtain ⟨e1,e2⟩:=hkey g3
  rw [e1] at h4 ⊢
  obtain ⟨f1,f2,f3⟩:=h.blk k0 av0 g g1 (e2 h2) h3 h4
  refine ⟨?_,f2,f3⟩
  rcases g3 with ⟨rfl,rfl⟩ | ⟨_,_,rfl⟩
  ·unfold rOk at hrok
   rw [g1] at hrok
   simp only [Bool.or_eq_true] at hrok
   have e3:(j9 k0 k av0).t=av0.t:=rfl
   rcases hrok with (h6 | h6) | h6
   ·rw [M0 (Nat.eq_of_beq_eq_true h6)] at f1
    rw [M0 (e3.trans (Nat.eq_of_beq_eq_true h6))];exact f1
   ·rw [a0F (bL h6)] at f1
    rcases f1 with f1 | f1
    ·exact .inl f1
    ·exact absurd rfl f1.1
   ·have h7:=Nat.le_of_ble_eq_true h6
    rw [a2A h7]
    rcases f1 with f1 | f1
    ·exact .inl f1
    ·refine .inr ⟨?_,f1.2⟩
     intro e4
     exact f1.1 (M0 e4)
  ·exact f1
 ·obtain ⟨k0,av0,g1,rfl,g3⟩:=hlk h1
  obtain ⟨k1,av1,g4,rfl,g6⟩:=hlk h2
  obtain ⟨e1,e2⟩:=hkey g3
  obtain ⟨e3,e4⟩:=hkey g6
  rw [e1,e3]
  refine h.disj k0 k1 av0 av1 g g1 g4 (e2 h3) (e4 h4) h5 h6 fun e=>hne ?_
  rcases g3 with ⟨f1,f2⟩ | ⟨f1,f2,f3⟩<;>rcases g6 with ⟨f4,f5⟩ | ⟨f4,f5,f6⟩<;>omega
 ·have hm:m≠n':=fun e=>by rw [e,hf] at h1;cases h1
  rw [hvn _ hm]
  exact h.fix m g h1
end
section
variable {P:Program} {w0:World} {U0:UX} {nt:Nat} {ops:Array Oper} {o:Oper} {S:Nat→Option AV} {gs:List Nat} {d:Nat} {s:AS} {a:Act} {w:World} {D:Nat→Nat→Prop} {hv:Nat→Value}
theorem a3C {U:Nat→Nat→Prop} {c:CV} {u:Value}:VRep U w (.ptr c) u↔∃ b off ys,u = .pointer (some ⟨b,off,none⟩)∧Rep U w c ys∧∀ i,i<ys.length→U b (off+i)∧w.cell? ⟨b,off+i,none⟩=ys[i]?:=by
 rw [show VRep U w (.ptr c) u=Rep U w (.ptr c) [u] from rfl,b5l];simp
theorem P9 {U:Nat→Nat→Prop} {f n:Nat} {l:List CV} {u:Value}:VRep U w (.fn f n l) u↔∃ (ys zs:List Value),u = .func (.func f) ys.toArray zs.toArray∧ys.length=n∧Sq (l.map fun c=>Rep U w c) (ys++zs)∧∀ c∈l,c.k≠2:=by
 rw [show VRep U w (.fn f n l) u=if 10+n=2 then ∃ xs:List Value,u = .agg xs.toArray∧Rep U w (.fn f n l) xs else Rep U w (.fn f n l) [u] from rfl,if_neg (by omega),b7A];simp
theorem N7 {U:Nat→Nat→Prop}:∀ {l:List CV} {xs:List Value},(∀ c∈l,c.k≠2)→Sq (l.map fun c=>Rep U w c) xs→VReps U w l xs
 | [],xs,_,h=>h
 | c::cs,xs,hk,⟨ys,zs,e,h1,h2⟩=>by
  have hc:=hk c (by simp)
  have hlen:=h1.len
  have h1c:c.size=1:=by cases c with | mk k v l=>rw [CV.size_mk,if_neg hc]
  rw [h1c] at hlen
  match ys,hlen with
  | [u],_=>exact ⟨u,zs,e,by unfold VRep;rw [if_neg hc];exact h1,N7 (fun x hx=>hk x (List.mem_cons_of_mem _ hx)) h2⟩
theorem a7e {U:Nat→Nat→Prop}:∀ {l:List CV} {xs:List Value},(∀ c∈l,c.k≠2)→VReps U w l xs→Sq (l.map fun c=>Rep U w c) xs
 | [],xs,_,h=>h
 | c::cs,xs,hk,⟨u,us,e,h1,h2⟩=>by
  refine ⟨[u],us,e,?_,a7e (fun x hx=>hk x (List.mem_cons_of_mem _ hx)) h2⟩
  unfold VRep at h1
  rw [if_neg (hk c (by simp))] at h1
  exact h1
theorem VReps.append {U:Nat→Nat→Prop}:∀ {l m:List CV} {xs ys:List Value},VReps U w l xs→VReps U w m ys→VReps U w (l++m) (xs++ys)
 | [],m,xs,ys,h,h2=>by have h:xs=[]:=h;rw [h];exact h2
 | c::cs,m,xs,ys,⟨u,us,e,h1,h3⟩,h2=>⟨u,us++ys,by rw [e];rfl,h1,VReps.append h3 h2⟩
theorem VReps.split {U:Nat→Nat→Prop}:∀ {l:List CV} {xs ys:List Value},VReps U w l (xs++ys)→VReps U w (l.take xs.length) xs∧VReps U w (l.drop xs.length) ys
 | l,[],ys,h=>⟨rfl,h⟩
 | [],x::xs,ys,h=>by have h:x::xs++ys=[]:=h;simp at h
 | c::cs,x::xs,ys,⟨u,us,e,h1,h3⟩=>by
  injection e with e1 e2
  subst e1;subst e2
  obtain ⟨h4,h5⟩:=VReps.split h3
  exact ⟨⟨x,xs,rfl,h1,h4⟩,h5⟩
def a3R:List CV→Bool
 | []=>true
 | c::cs=>match Nat.beq c.k 2 with | true=>false | false=>a3R cs
theorem R4:∀ {l:List CV},a3R l=true→∀ c∈l,c.k≠2
 | [],_,c,hc=>by simp at hc
 | x::l,h,c,hc=>by
  unfold a3R at h
  split at h
  ·cases h
  ·rename_i hb
   rcases List.mem_cons.1 hc with rfl | hc
   ·exact fun e=>by rw [e] at hb;cases hb
   ·exact R4 h c hc
def AFunV (P:Program) (W:World) (fc:CV) (args:List CV) (r:AV):Prop:=∃ f n l,fc = .fn f n l∧AFun P W f (l.take n++(args++l.drop n)) r
theorem AFunV.up {W w:World} {fc:CV} {args:List CV} {r:AV} {U:UX} (h:AFunV P W fc args r) (hW:Hw W w U):AFunV P w fc args r:=by
 obtain ⟨f,n,l,h1,h2⟩:=h
 exact ⟨f,n,l,h1,h2.up hW⟩
theorem a9U {x:Operand} {xs:Array Operand} {ts:Array TypeId} {fc:CV} {cs:List CV} {r:AV} {n q p} (hg:Gd w0 U0 nt ops o gs S) (hd:o.dst=some d) (hn:Nat.blt d nt=true) (h5:Nat.blt d 100000=true)
  (ho:o.op = .call { callee := .value x,args:=xs,argTypes:=ts }) (hf:ev S x=some ⟨0,fc,n,q,p⟩) (hx:P7 S xs.toList=some cs) (hc:AFunV P w0 fc cs r):AOp P w0 U0 nt ops o (gs++(rd x++rdl xs.toList)) [] S [(d,r)]:=by
 intro s hs _ a w ⟨D,hv,h⟩ Q K hK
 rw [if_pos (hg s (fun k hk=>hs k (List.mem_append_left _ hk)) a w D hv h)]
 have hargs:=A8 h (fun k hk=>hs k (List.mem_append_right _ (List.mem_append_right _ hk))) hx
 have hfv:=C2 h (fun k hk=>hs k (List.mem_append_right _ (List.mem_append_left _ hk))) hf
 obtain ⟨f,m,l,rfl,h1,h2,h3,h4⟩:=hc
 obtain ⟨ys,zs,e1,e2,e3,e4⟩:=P9.1 hfv
 obtain ⟨s1,s2⟩:=VReps.split (N7 e4 e3)
 rw [e2] at s1 s2
 have hcall:=h4 _ w _ trivial (s1.append (hargs.append s2))
 have he:(execOp a.eval o).run P w = .ok (.enter f (ys++(xs.toList.map a.eval++zs)).toArray) w:=by
  have hen:=h1 (ys.toArray++(xs.map a.eval++zs.toArray)) w
  have harr:(ys++(xs.toList.map a.eval++zs)).toArray=ys.toArray++(xs.map a.eval++zs.toArray):=by apply Array.ext';simp
  rw [harr]
  generalize a.eval=ρ at e1 hen ⊢
  simp [execOp,ho,resolve,invoke,Deferred.ofValue,e1,hen]
 unfold Oper.wp
 rw [he,Oper.upon_enter]
 refine hcall.mono ?_
 rintro e w' ⟨v,rfl,h6,h7⟩
 rw [hd]
 refine hK _ _ ⟨Dn D w w',hv,(h.growN h7).put (bL hn) (bL h5) (J6 h2 h3 (S4 rfl h7.size h.below.size h6))⟩
theorem zH {P:Program} {w0:World} {U0:UX} {nt:Nat} {ops:Array Oper} {o:Oper} {S:Nat→Option AV} {gs:List Nat} {d:Nat} {x:Operand} {xs:Array Operand} {ts:Array TypeId} {fc:CV} {cs:List CV} {r:AV} {n} {q} {p} (t:Gd w0 U0 nt ops o gs S:=by exact gN rfl) (u:o.dst=some d:=by exact rfl) (y:Nat.blt d nt=true:=by exact rfl) (z:Nat.blt d 100000=true:=by exact rfl) (A:o.op = .call { callee := .value x,args:=xs,argTypes:=ts }:=by exact rfl) (B:ev S x=some ⟨0,fc,n,q,p⟩:=by exact rfl) (C:P7 S xs.toList=some cs:=by exact rfl) (E:AFunV P w0 fc cs r):AOp P w0 U0 nt ops o (gs++(rd x++rdl xs.toList)) [] S [(d,r)]:=a9U t u y z A B C E
section
variable (hg:Gd w0 U0 nt ops o gs S) (hd:o.dst=some d) (hn:Nat.blt d nt=true) (h5:Nat.blt d 100000=true)
include hg hd hn h5
theorem b3E {f:Nat} {xs ys:Array Operand} {cs:List CV} (ho:o.op = .makeFunc (.func f) xs ys) (hx:P7 S (xs.toList++ys.toList)=some cs) (hk:a3R cs=true):AOp P w0 U0 nt ops o (gs++rdl (xs.toList++ys.toList)) [] S [(d,.val (.fn f xs.size cs))]:=
 d7 hg hd hn h5 (fun k hk=>List.mem_append_left _ hk) fun s hs a w D hv hm=>by
  have hargs:=A8 hm (fun k hk=>hs k (List.mem_append_right _ hk)) hx
  rw [List.map_append] at hargs
  refine ⟨.func (.func f) (xs.toList.map a.eval).toArray (ys.toList.map a.eval).toArray,?_,i7 (P9.2 ⟨_,_,rfl,by simp,a7e (R4 hk) hargs,R4 hk⟩)⟩
  have e1:(xs.toList.map a.eval).toArray=xs.map a.eval:=by apply Array.ext';simp
  have e2:(ys.toList.map a.eval).toArray=ys.map a.eval:=by apply Array.ext';simp
  rw [e1,e2]
  generalize a.eval=ρ
  simp [execOp,ho,Instr.makeFunc]
theorem s5 {x:Operand} {ty:TypeId} {ds:TypeDesc} {z:Nat} {c:CV} {n q p} (ho:o.op = .load ty x) (hu:P.underlying ty=some ds) (hi:(P.info? ty).map (·.size)=some z) (hx:ev S x=some ⟨0,.ptr c,n,q,p⟩) (hk:K1 ds=Nat.beq c.k 2) (hz:c.size=z):AOp P w0 U0 nt ops o (gs++rd x) [] S [(d,.val c)]:=
 d7 hg hd hn h5 (fun k hk=>List.mem_append_left _ hk) fun s hs a w D hv hm=>by
  have h0:=C2 hm (fun k hk=>hs k (List.mem_append_right _ hk)) hx
  obtain ⟨b,off,xs,h1,h2,h3⟩:∃ b off xs,a.eval x = .pointer (some ⟨b,off,none⟩)∧Rep (Us w0 U0 D) w c xs∧∀ i,i<xs.length→Us w0 U0 D b (off+i)∧w.cell? ⟨b,off+i,none⟩=xs[i]?:=a3C.1 h0
  obtain ⟨v,h4,h6,_⟩:=q8 hu hi hk hz h2 (fun i hi=>(h3 i hi).2)
  refine ⟨v,?_,i7 h6⟩
  generalize a.eval=ρ at h1 ⊢
  simp [execOp,ho,Instr.loadAt,Instr.sureAddr,h1,h4]
theorem b8s {x y:Operand} {ts:Array TypeId} {k:IntKind} {i j:Int} {n q p n' q' p'} (ho:o.op = .call { callee := .builtin .max,args := #[x,y],argTypes:=ts }) (hx:ev S x=some ⟨0,.sc (.int k i),n,q,p⟩) (hy:ev S y=some ⟨0,.sc (.int k j),n',q',p'⟩):AOp P w0 U0 nt ops o (gs++(rd x++rd y)) [] S [(d,.val (.sc (.int k (max i j))))]:=
 d7 hg hd hn h5 (fun k hk=>List.mem_append_left _ hk) fun s hs a w D hv hm=>by
  have e1:=s6 hm (fun k hk=>hs k (List.mem_append_right _ (List.mem_append_left _ hk))) hx
  have e2:=s6 hm (fun k hk=>hs k (List.mem_append_right _ (List.mem_append_right _ hk))) hy
  refine ⟨.int k (max i j),?_,m7 rfl⟩
  have e3:(if j>i then j else i)=max i j:=by split<;>omega
  generalize a.eval=ρ at e1 e2 ⊢
  simp [execOp,ho,resolve,invoke,builtin,Builtin.max_,Builtin.max2,e1,e2]
  exact e3
omit hg hd hn h5 in
theorem b0m {U:Nat→Nat→Prop} {l:List CV} {ao:Option Addr} {m cap z lo hi:Nat} (hz:∀ c∈l,c.size=z) (h:VRep U w (.lst l) (.slice ao m cap)) (h1:lo≤hi) (h2:hi≤l.length):VRep U w (.lst ((l.drop lo).take (hi-lo))) (.slice (if cap=lo then ao else ao.map (·.add (lo*z))) (hi-lo) (cap-lo)):=by
 obtain ⟨ao',m',cap',e,e2,e3,e4,e5,ys,e6,e7⟩:=d8.1 h
 injection e with e8 e9 e10
 subst e8;subst e9;subst e10
 have hsplit:l=l.take lo++((l.drop lo).take (hi-lo)++(l.drop lo).drop (hi-lo)):=by rw [List.take_append_drop,List.take_append_drop]
 have e7':=e7
 rw [hsplit,List.map_append,List.map_append] at e7'
 obtain ⟨y1,y2,f1,f2,f3⟩:=G7 e7'
 obtain ⟨z1,z2,f4,f5,f6⟩:=G7 f3
 have hy1:y1.length=lo*z:=by rw [F7 (n:=CV.size) (fun c _ xs h=>h.len) f2,w8 (fun c hc=>hz c (List.mem_of_mem_take hc)),List.length_take,Nat.min_eq_left (by omega)]
 refine d8.2 ⟨_,hi-lo,cap-lo,rfl,by simp;omega,by omega,by omega,?_,z1,?_,f5⟩
 ·intro hn
  split at hn
  ·have:=e5 hn;omega
  ·cases ao with
   | none=>have:=e5 rfl;omega
   | some a=>cases hn
 ·rcases e6 with e6 | ⟨b,off,rfl,hc⟩
  ·left
   have:=congrArg List.length f1
   rw [e6,f4] at this
   simp at this
   exact List.eq_nil_of_length_eq_zero (by omega)
  ·by_cases hz1:z1=[]
   ·exact .inl hz1
   ·right
    have hne:cap≠lo:=fun e=>by
     have:(l.drop lo).take (hi-lo)=[]:=by
      rw [show hi-lo=0 by omega];rfl
     rw [this] at f5
     exact hz1 f5
    refine ⟨b,off+lo*z,?_,fun i hi'=>?_⟩
    ·rw [if_neg hne]
     simp [Addr.add]
    ·have:=hc (y1.length+i) (by rw [f1,f4];simp;omega)
     rw [f1,f4,List.getElem?_append_right (by omega),show y1.length+i-y1.length=i by omega,List.getElem?_append_left hi'] at this
     rw [Nat.add_assoc,←hy1]
     exact this
omit hg hd hn h5 in
theorem T1 {k:IntKind} {j y:Nat} {code:BoundsCode} (h:j≤y):(Instr.sliceBound (.int k (j:Int)) y code).run P w = .ok j w:=by
 have:(0:Int)≤(j:Int)∧(j:Int)≤(y:Int):=⟨by omega,by omega⟩
 simp [Instr.sliceBound,asIntOf,h]
theorem b6U {x y:Operand} {t e:TypeId} {z:Nat} {l:List CV} {k:IntKind} {i:Int} {lo:Nat} {n q p n' q' p'} (ho:o.op = .slice t x (some y) none none) (hu:P.underlying t=some (.slice e)) (hi:(P.info? e).map (·.size)=some z) (hx:ev S x=some ⟨0,.lst l,n,q,p⟩) (hy:ev S y=some ⟨0,.sc (.int k i),n',q',p'⟩) (hij:i=(lo:Int)) (hlo:lo≤l.length) (hz:∀ c∈l,c.size=z):AOp P w0 U0 nt ops o (gs++(rd x++rd y)) [] S [(d,.val (.lst (l.drop lo)))]:=
 d7 hg hd hn h5 (fun k hk=>List.mem_append_left _ hk) fun s hs a w D hv hm=>by
  have hv:=C2 hm (fun k hk=>hs k (List.mem_append_right _ (List.mem_append_left _ hk))) hx
  have e2:=s6 hm (fun k hk=>hs k (List.mem_append_right _ (List.mem_append_right _ hk))) hy
  obtain ⟨ao,m,cap,h1,h2,h3,_⟩:=d8.1 hv
  rw [h1] at hv
  have hcut:=b0m hz hv (lo:=lo) (hi:=l.length) hlo (Nat.le_refl _)
  rw [List.take_of_length_le (by simp)] at hcut
  have hsz:(sizeOf e).run P w = .ok z w:=by
   cases hi':P.info? e with
   | none=>rw [hi'] at hi;simp at hi
   | some i=>rw [hi'] at hi;simp at hi;simp [sizeOf,typeInfo,hi',hi]
  subst hij
  refine ⟨_,?_,i7 hcut⟩
  have hb:=T1 (P:=P) (w:=w) (k:=k) (j:=lo) (y:=l.length) (code := .sliceB) hlo
  subst h2
  generalize a.eval=ρ at h1 e2 ⊢
  simp [execOp,ho,Instr.sliceAt,Instr.slice,run_underlying hu,h1,e2,Instr.sliceBounds,hb,hsz]
theorem b6M {x y:Operand} {t e:TypeId} {z:Nat} {l:List CV} {k:IntKind} {i:Int} {hi':Nat} {n q p n' q' p'} (ho:o.op = .slice t x none (some y) none) (hu:P.underlying t=some (.slice e)) (hi:(P.info? e).map (·.size)=some z) (hx:ev S x=some ⟨0,.lst l,n,q,p⟩) (hy:ev S y=some ⟨0,.sc (.int k i),n',q',p'⟩) (hij:i=(hi':Int)) (hhi:hi'≤l.length) (hz:∀ c∈l,c.size=z):AOp P w0 U0 nt ops o (gs++(rd x++rd y)) [] S [(d,.val (.lst (l.take hi')))]:=
 d7 hg hd hn h5 (fun k hk=>List.mem_append_left _ hk) fun s hs a w D hv hm=>by
  have hv:=C2 hm (fun k hk=>hs k (List.mem_append_right _ (List.mem_append_left _ hk))) hx
  have e2:=s6 hm (fun k hk=>hs k (List.mem_append_right _ (List.mem_append_right _ hk))) hy
  obtain ⟨ao,m,cap,h1,h2,h3,_⟩:=d8.1 hv
  rw [h1] at hv
  have hcut:=b0m hz hv (lo:=0) (hi:=hi') (Nat.zero_le _) hhi
  rw [List.drop_zero,Nat.sub_zero,Nat.sub_zero] at hcut
  have hsz:(sizeOf e).run P w = .ok z w:=by
   cases hi':P.info? e with
   | none=>rw [hi'] at hi;simp at hi
   | some i=>rw [hi'] at hi;simp at hi;simp [sizeOf,typeInfo,hi',hi]
  subst hij
  refine ⟨_,?_,i7 hcut⟩
  have hb:=T1 (P:=P) (w:=w) (k:=k) (j:=hi') (y:=cap) (code := .sliceAcap) (by omega)
  generalize a.eval=ρ at h1 e2 ⊢
  simp [execOp,ho,Instr.sliceAt,Instr.slice,run_underlying hu,h1,e2,Instr.sliceBounds,hb,hsz]
end
theorem zG {P:Program} {w0:World} {U0:UX} {nt:Nat} {ops:Array Oper} {o:Oper} {S:Nat→Option AV} {gs:List Nat} {d:Nat} {f:Nat} {xs:Array Operand} {ys:Array Operand} {cs:List CV} (p:Gd w0 U0 nt ops o gs S:=by exact gN rfl) (q:o.dst=some d:=by exact rfl) (r:Nat.blt d nt=true:=by exact rfl) (t:Nat.blt d 100000=true:=by exact rfl) (u:o.op = .makeFunc (.func f) xs ys:=by exact rfl) (v:P7 S (xs.toList++ys.toList)=some cs:=by exact rfl) (x:a3R cs=true:=by exact rfl):AOp P w0 U0 nt ops o (gs++rdl (xs.toList++ys.toList)) [] S [(d,.val (.fn f xs.size cs))]:=b3E p q r t u v x
theorem zY {P:Program} {w0:World} {U0:UX} {nt:Nat} {ops:Array Oper} {o:Oper} {S:Nat→Option AV} {gs:List Nat} {d:Nat} {x:Operand} {ty:TypeId} {ds:TypeDesc} {z:Nat} {c:CV} {n} {q} {p} (r:Gd w0 U0 nt ops o gs S:=by exact gN rfl) (t:o.dst=some d:=by exact rfl) (u:Nat.blt d nt=true:=by exact rfl) (y:Nat.blt d 100000=true:=by exact rfl) (A:o.op = .load ty x:=by exact rfl) (B:P.underlying ty=some ds:=by exact rfl) (C:(P.info? ty).map (·.size)=some z:=by exact rfl) (E:ev S x=some ⟨0,.ptr c,n,q,p⟩:=by exact rfl) (F:K1 ds=Nat.beq c.k 2:=by exact rfl) (G:c.size=z:=by exact rfl):AOp P w0 U0 nt ops o (gs++rd x) [] S [(d,.val c)]:=s5 r t u y A B C E F G
theorem zbj {P:Program} {w0:World} {U0:UX} {nt:Nat} {ops:Array Oper} {o:Oper} {S:Nat→Option AV} {gs:List Nat} {d:Nat} {x:Operand} {y:Operand} {t:TypeId} {e:TypeId} {z:Nat} {l:List CV} {k:IntKind} {i:Int} {lo:Nat} {n} {q} {p} {n'} {q'} {p'} (r:Gd w0 U0 nt ops o gs S:=by exact gN rfl) (u:o.dst=some d:=by exact rfl) (v:Nat.blt d nt=true:=by exact rfl) (A:Nat.blt d 100000=true:=by exact rfl) (B:o.op = .slice t x (some y) none none:=by exact rfl) (C:P.underlying t=some (.slice e):=by exact rfl) (E:(P.info? e).map (·.size)=some z:=by exact rfl) (F:ev S x=some ⟨0,.lst l,n,q,p⟩:=by exact rfl) (G:ev S y=some ⟨0,.sc (.int k i),n',q',p'⟩:=by exact rfl) (H:i=(lo:Int):=by exact rfl) (hlo:lo≤l.length:=by omega) (hz:∀ c∈l,c.size=z:=by first | assumption | exact sZ rfl | exact Tm.size_all _ | exact Bd.size_all _ | exact b8 _ | exact bys_size _ | exact Lt.size_all _):AOp P w0 U0 nt ops o (gs++(rd x++rd y)) [] S [(d,.val (.lst (l.drop lo)))]:=b6U r u v A B C E F G H hlo hz
theorem zbk {P:Program} {w0:World} {U0:UX} {nt:Nat} {ops:Array Oper} {o:Oper} {S:Nat→Option AV} {gs:List Nat} {d:Nat} {x:Operand} {y:Operand} {t:TypeId} {e:TypeId} {z:Nat} {l:List CV} {k:IntKind} {i:Int} {hi':Nat} {n} {q} {p} {n'} {q'} {p'} (r:Gd w0 U0 nt ops o gs S:=by exact gN rfl) (u:o.dst=some d:=by exact rfl) (v:Nat.blt d nt=true:=by exact rfl) (A:Nat.blt d 100000=true:=by exact rfl) (B:o.op = .slice t x none (some y) none:=by exact rfl) (C:P.underlying t=some (.slice e):=by exact rfl) (E:(P.info? e).map (·.size)=some z:=by exact rfl) (F:ev S x=some ⟨0,.lst l,n,q,p⟩:=by exact rfl) (G:ev S y=some ⟨0,.sc (.int k i),n',q',p'⟩:=by exact rfl) (H:i=(hi':Int):=by exact rfl) (hhi:hi'≤l.length:=by omega) (hz:∀ c∈l,c.size=z:=by first | assumption | exact sZ rfl | exact Tm.size_all _ | exact Bd.size_all _ | exact b8 _ | exact bys_size _ | exact Lt.size_all _):AOp P w0 U0 nt ops o (gs++(rd x++rd y)) [] S [(d,.val (.lst (l.take hi')))]:=b6M r u v A B C E F G H hhi hz
theorem zbp {P:Program} {w0:World} {U0:UX} {nt:Nat} {ops:Array Oper} {o:Oper} {S:Nat→Option AV} {gs:List Nat} {d:Nat} {x:Operand} {y:Operand} {ts:Array TypeId} {k:IntKind} {i:Int} {j:Int} {n} {q} {p} {n'} {q'} {p'} (r:Gd w0 U0 nt ops o gs S:=by exact gN rfl) (t:o.dst=some d:=by exact rfl) (u:Nat.blt d nt=true:=by exact rfl) (v:Nat.blt d 100000=true:=by exact rfl) (z:o.op = .call { callee := .builtin .max,args := #[x,y],argTypes:=ts }:=by exact rfl) (A:ev S x=some ⟨0,.sc (.int k i),n,q,p⟩:=by exact rfl) (B:ev S y=some ⟨0,.sc (.int k j),n',q',p'⟩:=by exact rfl):AOp P w0 U0 nt ops o (gs++(rd x++rd y)) [] S [(d,.val (.sc (.int k (max i j))))]:=b8s r t u v z A B
theorem SimG.moreD (h:SimG w0 U0 nt s a w D hv) {g:Nat} (hg:g<w.heap.size) (hno:∀ k av,look s k=some av→n7 k→av.t≠7→hb (hv k)≠some g):SimG w0 U0 nt s a w (fun b o=>D b o∨b=g) hv:=by
 have hkeep:∀ b o v,Us w0 U0 D b o→w.cell? ⟨b,o,none⟩=some v→Us w0 U0 (fun b o=>D b o∨b=g) b o∧w.cell? ⟨b,o,none⟩=some v:=fun b o v hu hc=>⟨hu.imp id fun h=>⟨h.1,.inl h.2⟩,hc⟩
 refine ⟨h.below,h.dfr,h.size,fun d av h1 h2=>?_,fun m o av h1 h2 h3 h4=>?_,h.fdis,fun k av h1 h2=>?_,fun k av g' h1 h2 h3 h4=>?_,h.disj,h.fix,fun b o hd=>?_⟩
 ·obtain ⟨v,h3,h4⟩:=h.slot d av h1 h2
  exact ⟨v,h3,h4.keep hkeep⟩
 ·obtain ⟨v,h5,h6⟩:=h.fld m o av h1 h2 h3 h4
  exact ⟨v,h5.keep hkeep,h6⟩
 ·exact (h.obj k av h1 h2).move hkeep (fun _ h3=>⟨h3,rfl⟩) fun _ _=>rfl
 ·obtain ⟨f1,f2,f3⟩:=h.blk k av g' h1 h2 h3 h4
  refine ⟨f1,f2,fun o ho hd=>?_⟩
  rcases hd with hd | hd
  ·exact f3 o ho hd
  ·exact hno k av h1 h2 h3 (by rw [h4,hd])
 ·rcases hd with hd | hd
  ·exact h.dlt b o hd
  ·rw [hd];exact hg
theorem SimG.know (h:SimG w0 U0 nt s a w D hv) {d:Nat} {av:AV} {v:Value} (h5:d<100000) (hv1:a.tmps[d]?=some v) (hav:AVRep (Us w0 U0 D) w hv (b6 s) av v):SimG w0 U0 nt ((d,av)::s) a w D hv:=by
 have hlt:d<nt:=by
  rw [←h.size]
  rcases Nat.lt_or_ge d a.tmps.size with h1 | h1
  ·exact h1
  ·rw [Array.getElem?_eq_none h1] at hv1;cases hv1
 have:=h.put hlt h5 hav
 have e:a.put (some d) v=a:=by
  have:a.tmps.setIfInBounds d v=a.tmps:=by
   apply Array.ext_getElem?
   intro i
   rw [Array.getElem?_setIfInBounds]
   split
   ·rename_i e
    subst e
    rw [if_pos (by rw [h.size];exact hlt),hv1]
   ·rfl
  show { a with tmps:=a.tmps.setIfInBounds d v }=a
  rw [this]
 rw [e] at this
 exact this
theorem E0 (n:Nat) {c:CV} {k q p v l q1} (hb:look s (100000+n)=some ⟨5,c,k,q,p⟩) (hs:look s n=some ⟨2,⟨q1,v,l⟩,n,0,[]⟩) (hn5:Nat.blt n 100000=true) {s':AS} (hsub:SubL s s') (hk:T3 s' (100000+n)=true) (hk2:T3 s' n=true) (hr:D1 s' [(n,[])]=true):Wk w0 U0 nt s ((n,.val (.ptr c))::s'):=by
 rintro a w ⟨D,hv,h⟩
 have hn:=bL hn5
 obtain ⟨g,xs,ty,g0,g1,g2,g5⟩:=h.box hb (by omega)
 obtain ⟨v',g6,g7⟩:=h.slot n _ hs hn
 have g7:v' = .pointer (some ⟨o8 (hv (100000+n)),0,none⟩):=g7.2
 have hgb:Go.Proofs.YtekboofbedakcaaGreat.hb (hv (100000+n))=some g:=by rw [g0];rfl
 have hgb2:o8 (hv (100000+n))=g:=by rw [g0];rfl
 rw [hgb2] at g7
 have hsub:=hsub.sub
 obtain ⟨f1,f2,f3⟩:=h.blk (100000+n) _ g hb ⟨by omega,by omega⟩ (by simp) hgb
 have nokey:∀ {t:AS} {m:Nat},T3 t m=true→∀ av,look t m≠some av:=fun {t m} h1 av h2=>by
  have h3:=C7 h2
  unfold T3 at h1
  rw [List.all_eq_true] at h1
  have:=h1 _ h3
  simp at this
 have hnob:∀ av,look s' (100000+n)≠some av:=nokey hk
 have h2:=(h.sub hsub).moreD (g:=g) f2 fun k av h3 h4 h5 h6=>h.disj (100000+n) k _ av g hb (hsub _ _ h3) ⟨by omega,by omega⟩ h4 (by simp) h5 (fun e=>hnob av (e▸h3)) hgb h6
 rcases f1 with f1 | f1
 ·refine ⟨_,hv,h2.know hn g6 (i7 ?_)⟩
  rw [g7]
  refine a3C.2 ⟨g,0,xs,rfl,g2.keep fun b o v hu hc=>⟨hu.imp id fun h=>⟨h.1,.inl h.2⟩,hc⟩,fun i hi=>⟨.inr ⟨f1,.inr rfl⟩,?_⟩⟩
  have:=H0 (ys:=[]) (us:=[]) g1 (by simp) i hi
  simpa using this
 ·exact absurd (a0F (by omega) _) f1.1
end
section
variable {P:Program} {w0:World} {U0:UX} {nt:Nat} {ops:Array Oper} {o:Oper} {S:Nat→Option AV} {gs:List Nat} {d:Nat} {s:AS} {a:Act} {w:World} {D:Nat→Nat→Prop} {hv:Nat→Value}
theorem a1F (w:World) (o:Obj):w.grownBy (w.alloc o) none:=⟨rfl,rfl,rfl,by simp,fun k hk _=>Below.heap_alloc _ _ _ hk⟩
theorem SimG.lit (h:SimG w0 U0 nt s a w D hv) (hd:d<nt) (h5:d<100000) {n e z len:Nat} (hn:RW n) (hr:a0n s n) (hz:0<z) (hlen:len≤maxLen) {r:Array Value} (hrs:r.size=len*z) {cs:List CV} (hcl:cs.length=len) (hsq:Sq (cs.map fun c=>Rep (Us w0 U0 D) w c) r.toList) :
  Sim w0 U0 nt ((d,.own (.lst cs) n)::(n,.tok e z)::s) (a.put (some d) (.slice (some ⟨w.heap.size,0,none⟩) len len)) (w.alloc (.cells r e)):=by
 have hb:Below w.heap.size w (w.alloc (.cells r e)):=(Below.refl _ _).alloc (Nat.le_refl _) _
 have ho:(w.alloc (.cells r e)).ownsRow 0 e z (.slice (some ⟨w.heap.size,0,none⟩) len len) (0+len) ([]++r.toList):=by
  refine ⟨by simp [hrs],.inr ⟨w.heap.size,len,r,by simp,Nat.zero_le _,D9 _ _,by simp,hlen,hrs,?_⟩⟩
  rw [Nat.zero_add,List.nil_append,List.take_of_length_le (by simp [hrs])]
 obtain ⟨s1,s2⟩:=h.app (v := .slice none 0 0) hn hr (World.ownsRow_nil _ _ e z) hz (fun g hg=>by cases hg) ho (a1F w _) (.inr ⟨a1F w _,fun g hg=>by cases hg;exact Nat.le_refl _⟩)
 refine ⟨_,_,s1.put hd h5 ⟨?_,fun _=>?_⟩⟩
 ·refine d8.2 ⟨_,len,len,rfl,hcl.symm,Nat.le_refl _,hlen,(fun h=>by cases h),r.toList,?_,hsq.keep s2⟩
  have:=At.new (U:=Us w0 U0 (Da D (.slice (some ⟨w.heap.size,0,none⟩) len len) ((0+len)*z))) w r.toList e (fun i hi => .inr ⟨h.below.size,.inr ⟨rfl,by rw [Nat.zero_add,←hrs];simpa using hi⟩⟩)
  rw [Array.toArray_toList] at this
  exact this
 ·refine ⟨0,.lst cs,rfl,?_⟩
  unfold J5
  rw [if_neg (by show n≠1;unfold RW at hn;omega)]
  simp [Value.cells]
theorem b1t (hg:Gd w0 U0 nt ops o gs S) (hd:o.dst=some d) (hn:Nat.blt d nt=true) (h5:Nat.blt d 100000=true) {t e:TypeId} {len:Nat} {parts:Array (Nat×Operand)} {ie:TypeInfo} {z:Value} {cs:List CV} {sz:Nat} (ho:o.op = .buildSlice t len parts) (hu:P.underlying t=some (.slice e)) (hi:P.info? e=some ie) (hsz0:ie.size=sz) (hz:ie.zero=some z) (hdn:a4j parts.toList 0=true) (hx:P7 S (parts.toList.map (·.2))=some cs) (hl:Nat.beq cs.length len=true) (hsz:a4f cs sz=true) (hp:Nat.blt 0 (len*sz)=true) (h24:Nat.ble (len*sz) 16777216=true) :
  AOp P w0 U0 nt ops o (gs++rdl (parts.toList.map (·.2))) [(300000+d,[])] S [(d,.own (.lst cs) (300000+d)),(300000+d,.tok e sz)]:=by
 subst hsz0
 intro s hs hN a w ⟨D,hv,h⟩ Q K hK
 rw [if_pos (hg s (fun k hk=>hs k (List.mem_append_left _ hk)) a w D hv h)]
 have hv:=A8 h (fun k hk=>hs k (List.mem_append_right _ hk)) hx
 rw [List.map_map] at hv
 have hlen:cs.length=len:=Nat.eq_of_beq_eq_true hl
 have hvl:=hv.len
 have hpos:=bL hp
 have hs0:0<ie.size:=Nat.pos_of_ne_zero fun e=>by rw [e] at hpos;simp at hpos
 have hsizes:=Z1 hv (sZ hsz)
 obtain ⟨vs,hvs⟩:∃ vs,vs=parts.toList.map (a.eval∘(·.2)):=⟨_,rfl⟩
 rw [←hvs] at hv hvl hsizes
 obtain ⟨r,hf,hrs,hrk⟩:=Great.fill_dense hs0 vs 0 ((Array.range (len*ie.size)).map (z.cells[·% z.cells.size]!)) hsizes (by simp;rw [hvl,hlen];exact Nat.le_refl _)
 have hr:r.toList=(vs.map fun v=>v.cells.toList).flatten:=by
  apply List.ext_getElem?
  intro k
  rw [J0 hs0 _ (by intro v hv';rw [List.mem_map] at hv';obtain ⟨u,hu,rfl⟩:=hv';simpa using hsizes u hu)]
  have:=hrk k
  rw [←Array.getElem?_toList] at this
  simp only [Nat.zero_mul,Nat.zero_le,true_and,Nat.zero_add] at this
  rw [this]
  by_cases hk:k<vs.length*ie.size
  ·rw [if_pos hk]
   simp only [Nat.sub_zero,List.getElem?_map]
   cases vs[k / ie.size]?<;>simp
  ·rw [if_neg hk,Array.getElem?_eq_none (by simp;rw [←hlen,←hvl];omega)]
   rw [List.getElem?_map,List.getElem?_eq_none (by rw [Nat.le_div_iff_mul_le hs0];omega)]
   rfl
 have he:(execOp a.eval o).run P w = .ok (.value (.slice (some ⟨w.heap.size,0,none⟩) len len)) (w.alloc (.cells r e)):=by
  have h24':=Nat.le_of_ble_eq_true h24
  have hparts:(parts.map fun x=>(x.1,a.eval x.2)).toList=(vs.zipIdx 0).map fun x=>(x.2,x.1):=by
   rw [Array.toList_map,Y6 hdn a.eval,hvs]
   rfl
  have:=run_buildSlice (P:=P) w t e len (parts.map fun x=>(x.1,a.eval x.2)) r ie z hu hi hz (by omega) (by omega) (by rw [hparts];exact hf)
  generalize a.eval=ρ at this ⊢
  simp [execOp,ho,this]
 unfold Oper.wp
 rw [he,Oper.upon_value,hd]
 have hrs':r.size=len*ie.size:=by rw [hrs];simp
 refine hK _ _ (h.lit (bL hn) (bL h5) ⟨by omega,by have:=bL h5;omega⟩ (hN (300000+d,[]) (by simp)).nr hs0 ?_ hrs' hlen ?_)
 ·have:=Nat.le_of_ble_eq_true h24
  have:len≤len*ie.size:=Nat.le_mul_of_pos_right _ hs0
  unfold maxLen;omega
 ·rw [hr];exact R7 hv
theorem zR {P:Program} {w0:World} {U0:UX} {nt:Nat} {ops:Array Oper} {o:Oper} {S:Nat→Option AV} {gs:List Nat} {d:Nat} {t:TypeId} {e:TypeId} {len:Nat} {parts:Array (Nat×Operand)} {ie:TypeInfo} {z:Value} {cs:List CV} {sz:Nat} (p:Gd w0 U0 nt ops o gs S:=by exact gN rfl) (q:o.dst=some d:=by exact rfl) (y:Nat.blt d nt=true:=by exact rfl) (A:Nat.blt d 100000=true:=by exact rfl) (B:o.op = .buildSlice t len parts:=by exact rfl) (C:P.underlying t=some (.slice e):=by exact rfl) (E:P.info? e=some ie:=by exact rfl) (F:ie.size=sz:=by exact rfl) (G:ie.zero=some z:=by exact rfl) (H:a4j parts.toList 0=true:=by exact rfl) (hx:P7 S (parts.toList.map (·.2))=some cs:=by exact rfl) (hl:Nat.beq cs.length len=true:=by exact rfl) (hsz:a4f cs sz=true:=by exact rfl) (hp:Nat.blt 0 (len*sz)=true:=by exact rfl) (h24:Nat.ble (len*sz) 16777216=true:=by exact rfl):AOp P w0 U0 nt ops o (gs++rdl (parts.toList.map (·.2))) [(300000+d,[])] S [(d,.own (.lst cs) (300000+d)),(300000+d,.tok e sz)]:=b1t p q y A B C E F G H hx hl hsz hp h24
end
end Go.Proofs.YtekboofbedakcaaGreat
namespace Go.Proofs.YtekboofbedakcaaGreat
set_option linter.unusedVariables false
structure Tm where
 f:Int
 l:List Tm
def Tm.ps (t:Tm):List Tm:=if t.f<0 then [] else t.l
theorem Tm.ind {P:Tm→Prop} (h:∀ f l,(∀ t∈l,P t)→P (.mk f l)):∀ t,P t:=by
 intro t
 induction hn:SizeOf.sizeOf t using Nat.strongRecOn generalizing t with
 | ind n ih =>
  cases t with
  | mk f l =>
   refine h f l fun s hs=>ih (SizeOf.sizeOf s) ?_ s rfl
   have:=List.sizeOf_lt_of_mem hs
   simp at hn
   omega
theorem Tm.ps_mem {t s:Tm} (h:s∈t.ps):s∈t.l∧0≤t.f:=by
 unfold Tm.ps at h
 split at h
 ·cases h
 ·exact ⟨h,by omega⟩
theorem Tm.ps_of_var {t:Tm} (h:t.f<0):t.ps=[]:=if_pos h
theorem Tm.ps_of_sym {t:Tm} (h:0≤t.f):t.ps=t.l:=if_neg (by omega)
theorem Tm.indp {P:Tm→Prop} (h:∀ t,(∀ s∈t.ps,P s)→P t):∀ t,P t:=
 Tm.ind fun f l ih=>h _ fun s hs=>ih s (Tm.ps_mem hs).1
def Tm.flat:Tm→List Tm
 | ⟨f,l⟩=>⟨f,l⟩::(if f<0 then [] else (l.map Tm.flat).flatten)
theorem Tm.flat_eq (t:Tm):t.flat=t::t.ps.flatMap Tm.flat:=by
 cases t with
 | mk f l =>
  rw [Tm.flat,←List.flatMap_def]
  unfold Tm.ps
  simp only
  by_cases h:f<0<;>simp [h]
def Tm.size (t:Tm):Nat:=t.flat.length
theorem Tm.size_eq (t:Tm):t.size=1+(t.ps.flatMap Tm.flat).length:=by
 unfold Tm.size
 rw [Tm.flat_eq,List.length_cons]
 omega
theorem s7 {α β:Type} (g:α→List β) {l:List α} {x:α} (h:x∈l):(g x).length≤(l.flatMap g).length:=by
 induction l with
 | nil=>cases h
 | cons y ys ih =>
  rw [List.flatMap_cons,List.length_append]
  rcases List.mem_cons.1 h with rfl | h
  ·omega
  ·have:=ih h;omega
theorem Tm.size_pos (t:Tm):1≤t.size:=by rw [Tm.size_eq];omega
theorem Tm.size_part {t s:Tm} (h:s∈t.ps):s.size<t.size:=by
 have:=s7 Tm.flat h
 rw [t.size_eq]
 unfold Tm.size
 omega
theorem Tm.len_ps (t:Tm):t.ps.length<t.size:=by
 rw [t.size_eq]
 have:∀ l:List Tm,l.length≤(l.flatMap Tm.flat).length:=by
  intro l
  induction l with
  | nil=>simp
  | cons y ys ih =>
   have:=y.size_pos
   unfold Tm.size at this
   rw [List.flatMap_cons,List.length_append,List.length_cons]
   omega
 have:=this t.ps
 omega
def Tm.strip:Tm→Tm
 | ⟨f,l⟩=>⟨f,if f<0 then [] else l.map Tm.strip⟩
theorem Tm.strip_eq (t:Tm):t.strip = .mk t.f (t.ps.map Tm.strip):=by
 cases t with
 | mk f l =>
  rw [Tm.strip]
  unfold Tm.ps
  simp only
  by_cases h:f<0<;>simp [h]
theorem Tm.strip_f (t:Tm):t.strip.f=t.f:=by rw [Tm.strip_eq]
theorem Tm.strip_l (t:Tm):t.strip.l=t.ps.map Tm.strip:=by rw [Tm.strip_eq]
theorem Tm.strip_ps (t:Tm):t.strip.ps=t.ps.map Tm.strip:=by
 unfold Tm.ps
 rw [Tm.strip_f,Tm.strip_l]
 split
 ·rfl
 ·unfold Tm.ps;rw [if_neg (by assumption)]
theorem Tm.strip_strip (t:Tm):t.strip.strip=t.strip:=by
 induction t using Tm.indp with
 | h t ih =>
  rw [Tm.strip_eq t.strip,Tm.strip_f,Tm.strip_ps,List.map_map,Tm.strip_eq t]
  congr 1
  exact List.map_congr_left fun s hs=>ih s hs
theorem Tm.strip_size (t:Tm):t.strip.size=t.size:=by
 induction t using Tm.indp with
 | h t ih =>
  rw [Tm.size_eq,Tm.size_eq,Tm.strip_ps]
  congr 1
  have:∀ l:List Tm,(∀ s∈l,s.strip.size=s.size)→((l.map Tm.strip).flatMap Tm.flat).length=(l.flatMap Tm.flat).length:=by
   intro l hl
   induction l with
   | nil=>rfl
   | cons y ys ih2 =>
    have h1:=hl y (by simp)
    unfold Tm.size at h1
    rw [List.map_cons,List.flatMap_cons,List.flatMap_cons,List.length_append,List.length_append,h1,ih2 (fun s hs=>hl s (List.mem_cons_of_mem _ hs))]
  exact this _ ih
end Go.Proofs.YtekboofbedakcaaGreat
namespace Go.Proofs.YtekboofbedakcaaGreat
open Go.RowKit
set_option linter.unusedVariables false
noncomputable def Tm.cv (t:Tm):CV:=Tm.rec (motive_1:=fun _=>CV) (motive_2:=fun _=>List CV) (fun f _ ih => .row [.i f,.lst ih]) [] (fun _ _ a b=>a::b) t
noncomputable abbrev Tm.cw (t:Tm):CV := .row [.i t.f,.lst (t.l.map Tm.cv)]
theorem Tm.cv_eq (t:Tm):t.cv=t.cw:=by
 cases t with
 | mk f l =>
  have hl:∀ l:List Tm,Tm.rec_1 (motive_1:=fun _=>CV) (motive_2:=fun _=>List CV) (fun f _ ih => .row [.i f,.lst ih]) [] (fun _ _ a b=>a::b) l=l.map Tm.cv:=by
   intro l
   induction l with
   | nil=>rfl
   | cons c cs ih=>rw [List.map_cons,←ih];rfl
  show CV.row [.i f,.lst _]=CV.row [.i f,.lst _]
  rw [←hl]
theorem Tm.size_cv (t:Tm):t.cv.size=2:=by rw [Tm.cv_eq];rfl
theorem Tm.size_all (l:List Tm):∀ c∈l.map Tm.cv,c.size=2:=by
 intro c hc
 obtain ⟨t,_,rfl⟩:=List.mem_map.1 hc
 exact t.size_cv
theorem Tm.map_at {l:List Tm} {i:Nat} {t:Tm} (h:l[i]?=some t):(l.map Tm.cv)[i]?=some t.cw:=by rw [List.getElem?_map,h,Option.map_some,Tm.cv_eq]
def Tm.ok:Tm→Prop
 | ⟨f,l⟩=>l.length≤10000000000∧∀ t∈l,Tm.ok t
theorem Tm.ok_iff (t:Tm):t.ok↔t.l.length≤10000000000∧∀ s∈t.l,s.ok:=by cases t;rw [Tm.ok]
set_option maxHeartbeats 1000000 in
theorem b8 (l:List Int):∀ c∈l.map CV.i,c.size=1:=by
 intro c hc
 obtain ⟨z,_,rfl⟩:=List.mem_map.1 hc
 rfl
theorem C3 {l:List Int} {i:Nat} {z:Int} (h:l[i]?=some z):(l.map CV.i)[i]?=some (.i z):=by rw [List.getElem?_map,h];rfl
def Cu (U:Nat→Prop) (w:World) (a:Option Addr) (xs:List Value):Prop:=
 xs=[]∨∃ b off,a=some ⟨b,off,none⟩∧U b∧b<w.heap.size∧∀ i,i<xs.length→w.cell? ⟨b,off+i,none⟩=xs[i]?
theorem Cu.cs {U:Nat→Prop} {w:World} {a:Option Addr} {xs:List Value} (h:Cu U w a xs):Cs w a xs:=by
 rcases h with h | ⟨b,off,h1,_,h2,h3⟩
 ·exact .inl h
 ·exact .inr ⟨b,off,h1,h2,h3⟩
def b7W:List (Int×(Option Addr→Nat→Nat→Prop))→List Value→Prop
 | [],xs=>xs=[]
 | t::ts,xs=>∃ a n c ys,xs = .int .i64 t.1 :: .slice a n c::ys∧t.2 a n c∧b7W ts ys
def Tat (U:Nat→Prop) (w:World):Tm→Option Addr→Nat→Nat→Prop
 | ⟨f,l⟩,a,n,c=>(-9223372036854775808≤f∧f≤9223372036854775807)∧(n=l.length∧n≤c∧c≤maxLen∧(a=none→n=0∧c=0)∧∃ xs,Cu U w a xs∧b7W (l.map fun s=>(s.f,fun a n c=>Tat U w s a n c)) xs)
def Ecs (U:Nat→Prop) (w:World) (l:List Tm) (xs:List Value):Prop:=b7W (l.map fun s=>(s.f,fun a n c=>Tat U w s a n c)) xs
def Las (U:Nat→Prop) (w:World) (l:List Tm) (a:Option Addr) (n c:Nat):Prop:=
 n=l.length∧n≤c∧c≤maxLen∧(a=none→n=0∧c=0)∧∃ xs,Cu U w a xs∧Ecs U w l xs
theorem L9 {U:Nat→Prop} {w:World} {t:Tm} {a:Option Addr} {n c:Nat}:Tat U w t a n c↔(-9223372036854775808≤t.f∧t.f≤9223372036854775807)∧Las U w t.l a n c:=by
 cases t with
 | mk f l=>rw [Tat];rfl
theorem Ecs.nil_iff {U:Nat→Prop} {w:World} {xs:List Value}:Ecs U w [] xs↔xs=[]:=Iff.rfl
theorem Ecs.cons_iff {U:Nat→Prop} {w:World} {t:Tm} {ts:List Tm} {xs:List Value}:Ecs U w (t::ts) xs↔∃ a n c ys,xs = .int .i64 t.f :: .slice a n c::ys∧Tat U w t a n c∧Ecs U w ts ys:=Iff.rfl
theorem Las.nil (U:Nat→Prop) (w:World):Las U w [] none 0 0:=⟨rfl,Nat.le_refl _,by unfold maxLen;omega,fun _=>⟨rfl,rfl⟩,[],.inl rfl,Ecs.nil_iff.2 rfl⟩
theorem Ecs.length {U:Nat→Prop} {w:World}:∀ {l:List Tm} {xs:List Value},Ecs U w l xs→xs.length=l.length*2
 | [],_,h=>by rw [Ecs.nil_iff.1 h];rfl
 | t::ts,_,h=>by
  obtain ⟨a,n,c,ys,rfl,_,h2⟩:=Ecs.cons_iff.1 h
  have:=Ecs.length h2
  simp only [List.length_cons]
  omega
theorem Ecs.at {U:Nat→Prop} {w:World}:∀ {l:List Tm} {xs:List Value},Ecs U w l xs→∀ {i:Nat},i<l.length→∃ s a n c,l[i]?=some s∧Tat U w s a n c∧xs[i*2]?=some (.int .i64 s.f)∧xs[i*2+1]?=some (.slice a n c)
 | [],_,h,i,hi=>by simp at hi
 | t::ts,_,h,i,hi=>by
  obtain ⟨a,n,c,ys,rfl,h1,h2⟩:=Ecs.cons_iff.1 h
  cases i with
  | zero=>exact ⟨t,a,n,c,rfl,h1,rfl,rfl⟩
  | succ i =>
   obtain ⟨s,a',n',c',e1,e2,e3,e4⟩:=Ecs.at h2 (i:=i) (by simpa using hi)
   refine ⟨s,a',n',c',by simpa using e1,e2,?_,?_⟩
   ·rw [show (i+1)*2=i*2+1+1 by omega];simpa using e3
   ·rw [show (i+1)*2+1=i*2+1+1+1 by omega];simpa using e4
theorem Ecs.append {U:Nat→Prop} {w:World}:∀ {l m:List Tm} {xs ys:List Value},Ecs U w l xs→Ecs U w m ys→Ecs U w (l++m) (xs++ys)
 | [],m,xs,ys,h,h2=>by rw [Ecs.nil_iff.1 h];exact h2
 | t::ts,m,xs,ys,h,h2=>by
  obtain ⟨a,n,c,zs,rfl,h1,h3⟩:=Ecs.cons_iff.1 h
  exact Ecs.cons_iff.2 ⟨a,n,c,zs++ys,rfl,h1,Ecs.append h3 h2⟩
theorem Ecs.single {U:Nat→Prop} {w:World} {t:Tm} {a:Option Addr} {n c:Nat} (h:Tat U w t a n c):Ecs U w [t] [.int .i64 t.f,.slice a n c]:=Ecs.cons_iff.2 ⟨a,n,c,[],rfl,h,Ecs.nil_iff.2 rfl⟩
theorem Las.at {U:Nat→Prop} {w:World} {l:List Tm} {a:Option Addr} {n c:Nat} (h:Las U w l a n c) {i:Nat} (hi:i<n) :
  ∃ b off s a' n' c',a=some ⟨b,off,none⟩∧U b∧b<w.heap.size∧l[i]?=some s∧Tat U w s a' n' c'∧w.cell? ⟨b,off+i*2,none⟩=some (.int .i64 s.f)∧w.cell? ⟨b,off+i*2+1,none⟩=some (.slice a' n' c'):=by
 obtain ⟨h1,_,_,_,xs,h2,h3⟩:=h
 obtain ⟨s,a',n',c',e1,e2,e3,e4⟩:=h3.at (i:=i) (by omega)
 have hl:=h3.length
 rcases h2 with rfl | ⟨b,off,rfl,hu,hlt,hc⟩
 ·simp at e3
 ·refine ⟨b,off,s,a',n',c',rfl,hu,hlt,e1,e2,?_,?_⟩
  ·rw [hc (i*2) (by omega),e3]
  ·rw [Nat.add_assoc,hc (i*2+1) (by omega),e4]
theorem I1 {w w':World} {b o:Nat} (h:w'.heap[b]?=w.heap[b]?):w'.cell? ⟨b,o,none⟩=w.cell? ⟨b,o,none⟩:=by simp [World.cell?,h]
theorem Cu.keep {U V:Nat→Prop} {w w':World} {a:Option Addr} {xs:List Value} (h:Cu U w a xs) (hs:∀ b,U b→b<w.heap.size→V b∧w'.heap[b]?=w.heap[b]?):Cu V w' a xs:=by
 rcases h with h | ⟨b,off,ha,hu,hlt,hc⟩
 ·exact .inl h
 ·obtain ⟨h1,h2⟩:=hs b hu hlt
  refine .inr ⟨b,off,ha,h1,?_,fun i hi=>?_⟩
  ·rw [Array.getElem?_eq_getElem hlt] at h2
   exact (Array.getElem?_eq_some_iff.1 h2).1
  ·rw [I1 h2];exact hc i hi
theorem a3z {U V:Nat→Prop} {w w':World}:∀ {l:List Tm} {xs:List Value},(∀ t∈l,∀ a n c,Tat U w t a n c→Tat V w' t a n c)→Ecs U w l xs→Ecs V w' l xs
 | [],_,_,h=>h
 | t::ts,_,ht,h=>by
  obtain ⟨a,n,c,ys,h1,h2,h3⟩:=Ecs.cons_iff.1 h
  exact Ecs.cons_iff.2 ⟨a,n,c,ys,h1,ht t (by simp) a n c h2,a3z (fun s hs=>ht s (List.mem_cons_of_mem _ hs)) h3⟩
theorem Tat.keep {U V:Nat→Prop} {w w':World} (hs:∀ b,U b→b<w.heap.size→V b∧w'.heap[b]?=w.heap[b]?):∀ {t:Tm} {a:Option Addr} {n c:Nat},Tat U w t a n c→Tat V w' t a n c:=by
 intro t
 induction t using Tm.ind with
 | h f l ih =>
  intro a n c h
  rw [L9] at h ⊢
  obtain ⟨h1,h2,h3,h4,h5,xs,h6,h7⟩:=h
  exact ⟨h1,h2,h3,h4,h5,xs,h6.keep hs,a3z (fun s hs' a n c=>ih s hs') h7⟩
theorem Ecs.keep {U V:Nat→Prop} {w w':World} (hs:∀ b,U b→b<w.heap.size→V b∧w'.heap[b]?=w.heap[b]?) {l:List Tm} {xs:List Value} (h:Ecs U w l xs):Ecs V w' l xs:=a3z (fun s _ a n c h'=>h'.keep hs) h
theorem Las.keep {U V:Nat→Prop} {w w':World} (hs:∀ b,U b→b<w.heap.size→V b∧w'.heap[b]?=w.heap[b]?) {l:List Tm} {a:Option Addr} {n c:Nat} (h:Las U w l a n c):Las V w' l a n c:=by
 obtain ⟨h2,h3,h4,h5,xs,h6,h7⟩:=h
 exact ⟨h2,h3,h4,h5,xs,h6.keep hs,Ecs.keep hs h7⟩
theorem Tat.below {U:Nat→Prop} {B:Nat} {w w':World} (hb:Below B w w') (hU:∀ b,U b→b<w.heap.size→b<B) {t:Tm} {a:Option Addr} {n c:Nat} (h:Tat U w t a n c):Tat U w' t a n c:=
 h.keep fun b h1 h2=>⟨h1,hb.block b (hU b h1 h2)⟩
theorem Las.below {U:Nat→Prop} {B:Nat} {w w':World} (hb:Below B w w') (hU:∀ b,U b→b<w.heap.size→b<B) {l:List Tm} {a:Option Addr} {n c:Nat} (h:Las U w l a n c):Las U w' l a n c:=
 h.keep fun b h1 h2=>⟨h1,hb.block b (hU b h1 h2)⟩
theorem Ecs.below {U:Nat→Prop} {B:Nat} {w w':World} (hb:Below B w w') (hU:∀ b,U b→b<w.heap.size→b<B) {l:List Tm} {xs:List Value} (h:Ecs U w l xs):Ecs U w' l xs:=
 h.keep fun b h1 h2=>⟨h1,hb.block b (hU b h1 h2)⟩
theorem Tat.mono {U V:Nat→Prop} {w:World} (hU:∀ b,U b→b<w.heap.size→V b) {t:Tm} {a:Option Addr} {n c:Nat} (h:Tat U w t a n c):Tat V w t a n c:=
 h.keep fun b h1 h2=>⟨hU b h1 h2,rfl⟩
theorem Ecs.mono {U V:Nat→Prop} {w:World} (hU:∀ b,U b→b<w.heap.size→V b) {l:List Tm} {xs:List Value} (h:Ecs U w l xs):Ecs V w l xs:=
 h.keep fun b h1 h2=>⟨hU b h1 h2,rfl⟩
theorem Tat.las {U:Nat→Prop} {w:World} {t:Tm} {a:Option Addr} {n c:Nat} (h:Tat U w t a n c):Las U w t.l a n c:=(L9.1 h).2
theorem Tat.wf {U:Nat→Prop} {w:World} {t:Tm} {a:Option Addr} {n c:Nat} (h:Tat U w t a n c) : -9223372036854775808≤t.f∧t.f≤9223372036854775807:=(L9.1 h).1
theorem Las.len {U:Nat→Prop} {w:World} {l:List Tm} {a:Option Addr} {n c:Nat} (h:Las U w l a n c):n=l.length∧n≤c∧c≤maxLen:=⟨h.1,h.2.1,h.2.2.1⟩
end Go.Proofs.YtekboofbedakcaaGreat
namespace Go.Proofs.YtekboofbedakcaaGreat
open Go.RowKit
set_option linter.unusedVariables false
set_option linter.unusedSimpArgs false
theorem K3 {p:Prop} (h:p):Hid p:=h
theorem bW (w:World):Below w.heap.size w w:=Below.refl _ _
theorem bA {w w':World} (h:Below w.heap.size w w') (o:Obj):Below w.heap.size w (w'.alloc o):=h.alloc h.size o
theorem bN {w w' w'':World} (h:Below w.heap.size w w') (h2:Below w'.heap.size w' w''):Below w.heap.size w w'':=h.trans (h2.mono h.size)
theorem bD {w w':World} (h:Below w.heap.size w w'):Below w.heap.size w w'.drew:=h.drew
theorem Tat.bw {U:Nat→Prop} {w w':World} {t:Tm} {a:Option Addr} {n c:Nat} (h:Tat U w t a n c) (hb:Below w.heap.size w w'):Tat U w' t a n c:=h.below hb fun _ _ h=>h
theorem Las.bw {U:Nat→Prop} {w w':World} {l:List Tm} {a:Option Addr} {n c:Nat} (h:Las U w l a n c) (hb:Below w.heap.size w w'):Las U w' l a n c:=h.below hb fun _ _ h=>h
theorem G1 (f:Int) (a:Option Addr) (n c:Nat) (w:World) :
  Calls Tryz.prog 77 #[.agg #[.int .i64 f,.slice a n c]] w fun e w'=>e = .returned (.bool (decide (f<0)))∧Below w.heap.size w w':=by
 go_enter Tryz.func77,Tryz.ntmps77
 go_wp2
 go_ret
 exact ⟨rfl,bA (bW _) _⟩
theorem Y1 (f:Int) (a:Option Addr) (n c:Nat) (w:World) (h1 : -9223372036854775808≤f) (h2:f<0) :
  Calls Tryz.prog 102 #[.agg #[.int .i64 f,.slice a n c]] w fun e w'=>e = .returned (.int .i64 (-1-f))∧Below w.heap.size w w':=by
 go_enter Tryz.func102,Tryz.ntmps102
 go_wp2
 go_ret
 exact ⟨rfl,bA (bW _) _⟩
set_option maxHeartbeats 400000 in
theorem b1z (f:Int) (a:Option Addr) (n c:Nat) (w:World) (h:f<0) :
  Calls Tryz.prog 43 #[.agg #[.int .i64 f,.slice a n c]] w fun e w'=>e = .returned (.slice none 0 0)∧Below w.heap.size w w':=by
 go_enter Tryz.func43,Tryz.ntmps43
 go_wp2_with (go_at_call 77;refine (G1 _ _ _ _ _).mono ?_;rintro e w1 ⟨rfl,hb1⟩)
 go_wp2
 go_ret
 exact ⟨rfl,bN (bA (bW _) _) hb1⟩
set_option maxHeartbeats 400000 in
theorem b0Y (f:Int) (a:Option Addr) (n c:Nat) (w:World) (h:0≤f) :
  Calls Tryz.prog 43 #[.agg #[.int .i64 f,.slice a n c]] w fun e w'=>e = .returned (.slice a n c)∧Below w.heap.size w w':=by
 have h':¬ f<0:=by omega
 have hc0:∀ w1,Below (w.alloc (.cells #[.int .i64 f,.slice a n c] 37)).heap.size (w.alloc (.cells #[.int .i64 f,.slice a n c] 37)) w1→w1.cell? ⟨w.heap.size,1,none⟩=some (.slice a n c):=fun w1 hb=>by
  rw [hb.cell (by simp),World.cell?_alloc_mark];rfl
 go_enter Tryz.func43,Tryz.ntmps43
 go_wp2_with (go_at_call 77;refine (G1 _ _ _ _ _).mono ?_;rintro e w1 ⟨rfl,hb1⟩;have hc1:=hc0 w1 hb1)
 go_wp2
 go_ret
 exact ⟨rfl,bN (bA (bW _) _) hb1⟩
theorem H1 {U:Nat→Prop} {t:Tm} {a:Option Addr} {n c:Nat} {w:World} (h:Tat U w t a n c) :
  Calls Tryz.prog 43 #[.agg #[.int .i64 t.f,.slice a n c]] w fun e w'=>Below w.heap.size w w'∧∃ a' n' c',e = .returned (.slice a' n' c')∧Las U w' t.ps a' n' c':=by
 by_cases hf:t.f<0
 ·refine (b1z _ _ _ _ _ hf).mono ?_
  rintro e w' ⟨rfl,hb⟩
  exact ⟨hb,_,_,_,rfl,by rw [Tm.ps_of_var hf];exact Las.nil _ _⟩
 ·refine (b0Y _ _ _ _ _ (by omega)).mono ?_
  rintro e w' ⟨rfl,hb⟩
  exact ⟨hb,_,_,_,rfl,by rw [Tm.ps_of_sym (by omega)];exact h.las.bw hb⟩
theorem T7 (x:Int) (w:World) :
  Calls Tryz.prog 103 #[.int .i64 x] w fun e w'=>e = .returned (.bool false)∧w'=w:=by
 go_enter Tryz.func103,Tryz.ntmps103
 go_wp2
 go_ret
 exact ⟨by simp,rfl⟩
def B3 (x y:Int):Int:=if x<y then -1 else if y<x then 1 else 0
set_option maxHeartbeats 400000 in
theorem I8 (x y:Int) (w:World) :
  Calls Tryz.prog 73 #[.int .i64 x,.int .i64 y] w fun e w'=>e = .returned (.int .i64 (B3 x y))∧Below w.heap.size w w':=by
 rcases Int.lt_trichotomy x y with h | h | h
 ·have h2:B3 x y = -1:=if_pos h
  rw [h2]
  clear h2
  go_enter Tryz.func73,Tryz.ntmps73
  go_wp2_with (go_at_call 103;refine (T7 _ _).mono ?_;rintro e w1 ⟨rfl,rfl⟩)
  go_ret
  exact ⟨rfl,bW _⟩
 ·subst h
  have h2:B3 x x=0:=by simp [B3]
  rw [h2]
  clear h2
  go_enter Tryz.func73,Tryz.ntmps73
  go_wp2_with (go_at_call 103;refine (T7 _ _).mono ?_;rintro e w1 ⟨rfl,rfl⟩)
  go_ret
  exact ⟨rfl,bW _⟩
 ·have h2:B3 x y=1:=by unfold B3;rw [if_neg (by omega),if_pos h]
  rw [h2]
  clear h2
  go_enter Tryz.func73,Tryz.ntmps73
  go_wp2_with (go_at_call 103;refine (T7 _ _).mono ?_;rintro e w1 ⟨rfl,rfl⟩)
  go_ret
  exact ⟨rfl,bW _⟩
def a4l (x y:Int):Int:=if x<0∧y<0 then B3 (-1-x) (-1-y) else B3 x y
theorem b8P {w w1:World} {x y:Value} {t:TypeId} (hb:Below (w.alloc (.cells #[x,y] t)).heap.size (w.alloc (.cells #[x,y] t)) w1):w1.cell? ⟨w.heap.size,0,none⟩=some x∧w1.cell? ⟨w.heap.size,1,none⟩=some y:=by
 constructor
 ·rw [hb.cell (by simp),World.cell?_alloc_mark];rfl
 ·rw [hb.cell (by simp),World.cell?_alloc_mark];rfl
theorem b6f {w w1:World} {x y x' y':Value} {t t':TypeId} (hb:Below ((w.alloc (.cells #[x,y] t)).alloc (.cells #[x',y'] t')).heap.size ((w.alloc (.cells #[x,y] t)).alloc (.cells #[x',y'] t')) w1) :
  (w1.cell? ⟨w.heap.size,0,none⟩=some x∧w1.cell? ⟨w.heap.size,1,none⟩=some y)∧(w1.cell? ⟨w.heap.size+1,0,none⟩=some x'∧w1.cell? ⟨w.heap.size+1,1,none⟩=some y'):=by
 refine ⟨b8P (bN (bA (bW _) _) hb),?_⟩
 have:=b8P hb
 rw [World.size_alloc] at this
 exact this
set_option maxHeartbeats 800000 in
theorem b1s (f g:Int) (a b:Option Addr) (n c m d:Nat) (w:World) (hf : -9223372036854775808≤f) (hg : -9223372036854775808≤g) :
  Calls Tryz.prog 72 #[.agg #[.int .i64 f,.slice a n c],.agg #[.int .i64 g,.slice b m d]] w fun e w'=>e = .returned (.int .i64 (a4l f g))∧Below w.heap.size w w':=by
 obtain ⟨w0,hw0⟩:∃ w0,w0=(w.alloc (.cells #[.int .i64 f,.slice a n c] 37)).alloc (.cells #[.int .i64 g,.slice b m d] 37):=⟨_,rfl⟩
 have HB:Hid (∀ w1,Below w0.heap.size w0 w1→(w1.cell? ⟨w.heap.size,0,none⟩=some (.int .i64 f)∧w1.cell? ⟨w.heap.size,1,none⟩=some (.slice a n c))∧(w1.cell? ⟨w.heap.size+1,0,none⟩=some (.int .i64 g)∧w1.cell? ⟨w.heap.size+1,1,none⟩=some (.slice b m d))):=fun w1 hb=>by
  rw [hw0] at hb;exact b6f hb
 have HW:Hid (w0=(w.alloc (.cells #[.int .i64 f,.slice a n c] 37)).alloc (.cells #[.int .i64 g,.slice b m d] 37)):=hw0
 have HB0:Hid (Below w.heap.size w w0):=by rw [hw0];exact bA (bA (bW _) _) _
 clear hw0
 have hq:Below w0.heap.size w0 w0:=bW _
 obtain ⟨⟨c1,c2⟩,c3,c4⟩:=HB.out w0 hq
 by_cases h1:f<0
 ·by_cases h2:g<0
  ·have h3:a4l f g=B3 (-1-f) (-1-g):=if_pos ⟨h1,h2⟩
   rw [h3]
   clear h3
   have h2':g ≤ -1:=by omega
   have h1':f ≤ -1:=by omega
   go_enter Tryz.func72,Tryz.ntmps72
   go_wp2_with fail
   rw [←HW.out]
   go_wp2_with (go_at_call 77;refine (G1 _ _ _ _ _).mono ?_;rintro e w1 ⟨rfl,hb1⟩;replace hq:=bN hq hb1;clear c1 c2 c3 c4 hb1;obtain ⟨⟨c1,c2⟩,c3,c4⟩:=HB.out _ hq)
   go_region_held3 (fun w'=>(w'.cell? ⟨w.heap.size,0,none⟩=some (.int .i64 f)∧w'.cell? ⟨w.heap.size,1,none⟩=some (.slice a n c))∧(w'.cell? ⟨w.heap.size+1,0,none⟩=some (.int .i64 g)∧w'.cell? ⟨w.heap.size+1,1,none⟩=some (.slice b m d))) (exact HB.out _ (by first | with_reducible exact hq | with_reducible exact bD hq))
    (first
     | (go_at_call 102;refine (Y1 _ _ _ _ _ (by assumption) (by assumption)).mono ?_;rintro e w2 ⟨rfl,hb2⟩;replace hq:=bN (by first | with_reducible exact hq | with_reducible exact bD hq) hb2;clear hb2;dsimp only)
     | (go_at_call 73;refine (I8 _ _ _).mono ?_;rintro e w2 ⟨rfl,hb2⟩;replace hq:=bN (by first | with_reducible exact hq | with_reducible exact bD hq) hb2;clear hb2;dsimp only))
   go_wp2_with fail
   go_ret
   exact ⟨rfl,bN HB0.out hq⟩
  ·have h3:a4l f g=B3 f g:=if_neg (by omega)
   rw [h3]
   clear h3
   go_enter Tryz.func72,Tryz.ntmps72
   go_wp2_with fail
   rw [←HW.out]
   go_wp2_with (first
    | (go_at_call 77;refine (G1 _ _ _ _ _).mono ?_;rintro e w1 ⟨rfl,hb1⟩;replace hq:=bN hq hb1;clear c1 c2 c3 c4 hb1;obtain ⟨⟨c1,c2⟩,c3,c4⟩:=HB.out _ hq)
    | (go_at_call 73;refine (I8 _ _ _).mono ?_;rintro e w1 ⟨rfl,hb1⟩))
   go_ret
   exact ⟨rfl,bN (bN HB0.out hq) hb1⟩
 ·have h3:a4l f g=B3 f g:=if_neg (by omega)
  rw [h3]
  clear h3
  go_enter Tryz.func72,Tryz.ntmps72
  go_wp2_with fail
  rw [←HW.out]
  go_wp2_with (first
   | (go_at_call 77;refine (G1 _ _ _ _ _).mono ?_;rintro e w1 ⟨rfl,hb1⟩;replace hq:=bN hq hb1;clear c1 c2 c3 c4 hb1;obtain ⟨⟨c1,c2⟩,c3,c4⟩:=HB.out _ hq)
   | (go_at_call 73;refine (I8 _ _ _).mono ?_;rintro e w1 ⟨rfl,hb1⟩))
  go_ret
  exact ⟨rfl,bN (bN HB0.out hq) hb1⟩
def b7N:List (Tm→Int)→List Tm→Int
 | [],[]=>0
 | [],_::_ => -1
 | _::_,[]=>1
 | c::cs,s::ss=>if c s≠0 then c s else b7N cs ss
def t6:Tm→Tm→Int
 | ⟨f,l⟩,b=>if f≠b.f then a4l f b.f else if f<0 then 0 else if l.length≠b.l.length then B3 l.length b.l.length else b7N (l.map fun s=>fun b=>t6 s b) b.l
def H8 (l m:List Tm):Int:=b7N (l.map fun s=>fun b=>t6 s b) m
theorem G5:H8 [] []=0:=rfl
theorem X5 (s:Tm) (ss:List Tm):H8 [] (s::ss) = -1:=rfl
theorem X3 (t:Tm) (ts:List Tm):H8 (t::ts) []=1:=rfl
theorem B7 (t s:Tm) (ts ss:List Tm):H8 (t::ts) (s::ss)=if t6 t s≠0 then t6 t s else H8 ts ss:=rfl
theorem J1 (a b:Tm):t6 a b=if a.f≠b.f then a4l a.f b.f else if a.ps.length≠b.ps.length then B3 a.ps.length b.ps.length else H8 a.ps b.ps:=by
 cases a with
 | mk f l =>
  cases b with
  | mk g m =>
   rw [t6]
   unfold Tm.ps
   show _=if ¬ f=g then _ else if ¬ (if f<0 then [] else l).length=(if g<0 then [] else m).length then _ else H8 (if f<0 then [] else l) (if g<0 then [] else m)
   simp only
   by_cases h:f=g
   ·subst h
    by_cases h2:f<0
    ·simp [h2,G5]
    ·by_cases h3:l.length=m.length<;>simp [h2,h3,H8]
   ·simp [h]
theorem a0N {α:Type} {l:List α} {k:Nat} {x:α} (h:l[k]?=some x):l.drop k=x::l.drop (k+1):=by
 obtain ⟨hlt,rfl⟩:=List.getElem?_eq_some_iff.1 h
 exact List.drop_eq_getElem_cons hlt
set_option maxRecDepth 100000 in
set_option maxHeartbeats 800000 in
theorem a1U {U:Nat→Prop} {la lb:List Tm} {a1 a2:Option Addr} {n1 c1 n2 c2:Nat} {w:World} (h1:Las U w la a1 n1 c1) (h2:Las U w lb a2 n2 c2)
  (hC:∀ t∈la,∀ (s:Tm) (a a':Option Addr) (n c n' c':Nat) (w':World),Tat U w' t a n c→Tat U w' s a' n' c'→Calls Tryz.prog 41 #[.agg #[.int .i64 t.f,.slice a n c],.agg #[.int .i64 s.f,.slice a' n' c']] w' fun e w''=>e = .returned (.int .i64 (t6 t s))∧Below w'.heap.size w' w'') :
  Calls Tryz.prog 74 #[.slice a1 n1 c1,.slice a2 n2 c2,.func (.func 41) #[] #[]] w fun e w'=>e = .returned (.int .i64 (H8 la lb))∧Below w.heap.size w w':=by
 have HL1:Hid (n1=la.length∧n1≤c1∧c1≤maxLen):=h1.len
 have HL2:Hid (n2=lb.length∧n2≤c2∧c2≤maxLen):=h2.len
 have hn1:n1≤9223372036854775807:=by have:=HL1.out;unfold maxLen at this;omega
 have hn2:n2≤9223372036854775807:=by have:=HL2.out;unfold maxLen at this;omega
 have HA1:Hid (∀ w',Below w.heap.size w w'→Las U w' la a1 n1 c1):=fun w' hb=>h1.bw hb
 have HA2:Hid (∀ w',Below w.heap.size w w'→Las U w' lb a2 n2 c2):=fun w' hb=>h2.bw hb
 have HC:=K3 hC
 clear h1 h2 hC
 go_enter Tryz.func74,Tryz.ntmps74
 go_wp2
 go_loopw [13] (fun i wr=>∃ k:Nat,i = .int .i64 (k:Int)∧k≤n1∧Below w.heap.size w wr∧H8 (la.drop k) (lb.drop k)=H8 la lb) (fun i _=>n1-(intOf i).toNat)
 case atStart=>exact ⟨0,rfl,by omega,bW _,by simp⟩
 case round =>
  obtain ⟨k,rfl,hk,hbr,hcm⟩:=hrel
  have HCM:=K3 hcm
  clear hcm
  by_cases hlt:k<n1
  ·obtain ⟨b,off,t,a',n',c',rfl,hU,hlt',ht,hT,e1,e2⟩:=(HA1.out wr hbr).at hlt
   have HT:=K3 ht
   clear ht
   by_cases h2:k<n2
   ·obtain ⟨b2,off2,s,a2',n2',c2',rfl,hU2,hlt2',hs,hS,e3,e4⟩:=(HA2.out wr hbr).at h2
    have HS:=K3 hs
    clear hs
    have HCall:Hid (∀ w',Below wr.heap.size wr w'→Calls Tryz.prog 41 #[.agg #[.int .i64 t.f,.slice a' n' c'],.agg #[.int .i64 s.f,.slice a2' n2' c2']] w' fun e w''=>e = .returned (.int .i64 (t6 t s))∧Below w'.heap.size w' w''):=fun w' hb=>HC.out t (List.mem_of_getElem? HT.out) s _ _ _ _ _ _ w' (hT.bw hb) (hS.bw hb)
    have HD:Hid (H8 (la.drop k) (lb.drop k)=if t6 t s≠0 then t6 t s else H8 (la.drop (k+1)) (lb.drop (k+1))):=by show _=_;rw [a0N HT.out,a0N HS.out,B7]
    obtain ⟨z,hz⟩:∃ z,z=t6 t s:=⟨_,rfl⟩
    rw [←hz] at HD HCall
    clear hz
    by_cases hz0:z=0
    ·subst hz0
     have HE:Hid (H8 (la.drop (k+1)) (lb.drop (k+1))=H8 la lb):=by show _=_;rw [←HCM.out,HD.out];simp
     go_wp2_with (go_at_call 41;refine (HCall.out _ (bA (bA (bW _) _) _)).mono ?_;rintro e w1 ⟨rfl,hb1⟩)
     go_roundw
     case rel=>exact ⟨k+1,by go_num,by omega,bN hbr (bN (bA (bA (bW _) _) _) hb1),HE.out⟩
     case measure=>simp [intOf];omega
    ·have HE:Hid (H8 la lb=z):=by show _=_;rw [←HCM.out,HD.out];simp [hz0]
     go_wp2_with (go_at_call 41;refine (HCall.out _ (bA (bA (bW _) _) _)).mono ?_;rintro e w1 ⟨rfl,hb1⟩)
     go_ret
     exact ⟨by rw [HE.out];rfl,bN hbr (bN (bA (bA (bW _) _) _) hb1)⟩
   ·have HE:Hid (H8 la lb=1):=by
     show _=_
     rw [←HCM.out,a0N HT.out,show lb.drop k=[] from List.drop_eq_nil_of_le (by have:=HL2.out;omega),X3]
    go_wp2
    go_ret
    exact ⟨by rw [HE.out];rfl,bN hbr (bA (bW _) _)⟩
  ·have HE:Hid (H8 la lb=if n1<n2 then -1 else 0):=by
    show _=_
    rw [←HCM.out,show la.drop k=[] from List.drop_eq_nil_of_le (by have:=HL1.out;omega)]
    cases hd:lb.drop k with
    | nil =>
     rw [G5,if_neg]
     have:=List.drop_eq_nil_iff.1 hd
     have:=HL2.out
     omega
    | cons x xs =>
     rw [X5,if_pos]
     have h3:¬ lb.drop k=[]:=by rw [hd];simp
     rw [List.drop_eq_nil_iff] at h3
     have:=HL2.out
     have:=HL1.out
     omega
   by_cases h3:n1<n2
   ·go_wp2
    go_ret
    exact ⟨by rw [HE.out,if_pos h3];rfl,hbr⟩
   ·go_wp2
    go_ret
    exact ⟨by rw [HE.out,if_neg (by omega)];rfl,hbr⟩
set_option maxRecDepth 100000 in
set_option maxHeartbeats 800000 in
theorem a1D {U:Nat→Prop}:∀ (t s:Tm) (a a':Option Addr) (n c n' c':Nat) (w:World),Tat U w t a n c→Tat U w s a' n' c' →
  Calls Tryz.prog 41 #[.agg #[.int .i64 t.f,.slice a n c],.agg #[.int .i64 s.f,.slice a' n' c']] w fun e w'=>e = .returned (.int .i64 (t6 t s))∧Below w.heap.size w w':=by
 intro t
 induction t using Tm.indp with
 | h t ih =>
  intro s a a' n c n' c' w ht hs
  obtain ⟨w0,hw0⟩:∃ w0,w0=(w.alloc (.cells #[.int .i64 t.f,.slice a n c] 37)).alloc (.cells #[.int .i64 s.f,.slice a' n' c'] 37):=⟨_,rfl⟩
  have HB:Hid (∀ w1,Below w0.heap.size w0 w1→(w1.cell? ⟨w.heap.size,0,none⟩=some (.int .i64 t.f)∧w1.cell? ⟨w.heap.size,1,none⟩=some (.slice a n c))∧(w1.cell? ⟨w.heap.size+1,0,none⟩=some (.int .i64 s.f)∧w1.cell? ⟨w.heap.size+1,1,none⟩=some (.slice a' n' c'))):=fun w1 hb=>by
   rw [hw0] at hb;exact b6f hb
  have HW:=K3 hw0
  have HB0:Hid (Below w.heap.size w w0):=by rw [hw0];exact bA (bA (bW _) _) _
  clear hw0
  have HT:Hid (∀ w1,Below w0.heap.size w0 w1→Tat U w1 t a n c∧Tat U w1 s a' n' c'):=fun w1 hb=>⟨ht.bw (bN HB0.out hb),hs.bw (bN HB0.out hb)⟩
  have HF:=K3 (And.intro ht.wf hs.wf)
  have HE:=K3 (J1 t s)
  have HI:=K3 ih
  have hq:Below w0.heap.size w0 w0:=bW _
  obtain ⟨z,hz⟩:∃ z,z=t6 t s:=⟨_,rfl⟩
  rw [←hz] at HE ⊢
  clear hz ht hs ih
  by_cases hf:t.f=s.f
  ·have HE2:Hid (z=if t.ps.length≠s.ps.length then B3 t.ps.length s.ps.length else H8 t.ps s.ps):=by show _=_;rw [HE.out,if_neg (by simp [hf])]
   have HP1:Hid (∀ w1,Below w0.heap.size w0 w1→Calls Tryz.prog 43 #[.agg #[.int .i64 t.f,.slice a n c]] w1 fun e w'=>Below w1.heap.size w1 w'∧∃ a' n' c',e = .returned (.slice a' n' c')∧Las U w' t.ps a' n' c'):=fun w1 hb=>H1 (HT.out w1 hb).1
   have HP2:Hid (∀ w1,Below w0.heap.size w0 w1→Calls Tryz.prog 43 #[.agg #[.int .i64 t.f,.slice a' n' c']] w1 fun e w'=>Below w1.heap.size w1 w'∧∃ a' n' c',e = .returned (.slice a' n' c')∧Las U w' s.ps a' n' c'):=fun w1 hb=>by
    have:=H1 (HT.out w1 hb).2
    rw [←hf] at this
    exact this
   rw [←hf] at HB HW ⊢
   obtain ⟨f,hff⟩:∃ f,f=t.f:=⟨_,rfl⟩
   rw [←hff] at HB HW HP1 HP2 ⊢
   clear HE hff hf HF HT
   obtain ⟨⟨c1,c2⟩,c3,c4⟩:=HB.out w0 hq
   go_enter Tryz.func41,Tryz.ntmps41
   go_wp2_with fail
   rw [←HW.out]
   go_region_held3 (fun w'=>(w'.cell? ⟨w.heap.size,0,none⟩=some (.int .i64 f)∧w'.cell? ⟨w.heap.size,1,none⟩=some (.slice a n c))∧(w'.cell? ⟨w.heap.size+1,0,none⟩=some (.int .i64 f)∧w'.cell? ⟨w.heap.size+1,1,none⟩=some (.slice a' n' c'))) (exact HB.out _ (by first | with_reducible exact hq | with_reducible exact bD hq))
    (first
     | (go_at_call_of 43 (Value.agg #[Value.int .i64 f,Value.slice a n c]);refine (HP1.out _ (by first | with_reducible exact hq | with_reducible exact bD hq)).mono ?_;rintro e w2 ⟨hb2,a2,n2,c2,rfl,hl2⟩;replace hq:=bN (by first | with_reducible exact hq | with_reducible exact bD hq) hb2;clear hb2;dsimp only)
     | (go_at_call_of 43 (Value.agg #[Value.int .i64 f,Value.slice a' n' c']);refine (HP2.out _ (by first | with_reducible exact hq | with_reducible exact bD hq)).mono ?_;rintro e w3 ⟨hb3,a3,n3,c3,rfl,hl3⟩;replace hq:=bN (by first | with_reducible exact hq | with_reducible exact bD hq) hb3;replace hl2:=hl2.bw (by first | with_reducible exact hb3 | with_reducible exact bN (bD (bW _)) hb3);dsimp only))
   have HN:Hid (n2=t.ps.length∧n3=s.ps.length):=⟨hl2.1,hl3.1⟩
   by_cases hn:n2=n3
   ·subst hn
    have HE3:Hid (z=H8 t.ps s.ps):=by show _=_;rw [HE2.out,if_neg (by have:=HN.out;omega)]
    go_wp2_with (go_at_call 74;refine (a1U hl2 hl3 HI.out).mono ?_;rintro e w4 ⟨rfl,hb4⟩)
    go_ret
    exact ⟨by rw [HE3.out];rfl,bN (bN HB0.out hq) hb4⟩
   ·have HE3:Hid (z=B3 n2 n3):=by show _=_;rw [HE2.out,if_pos (by have:=HN.out;omega),HN.out.1,HN.out.2]
    go_wp2_with (go_at_call 73;refine (I8 _ _ _).mono ?_;rintro e w4 ⟨rfl,hb4⟩)
    go_ret
    exact ⟨by rw [HE3.out];rfl,bN (bN HB0.out hq) hb4⟩
  ·have HE2:Hid (z=a4l t.f s.f):=by show _=_;rw [HE.out,if_pos hf]
   have hf1:=HF.out.1.1
   have hf2:=HF.out.2.1
   obtain ⟨f,hff⟩:∃ f,f=t.f:=⟨_,rfl⟩
   obtain ⟨g,hgg⟩:∃ g,g=s.f:=⟨_,rfl⟩
   rw [←hff,←hgg] at HB HW HE2 hf ⊢
   rw [←hff] at hf1
   rw [←hgg] at hf2
   clear HE hff hgg HF HT
   obtain ⟨⟨c1,c2⟩,c3,c4⟩:=HB.out w0 hq
   go_enter Tryz.func41,Tryz.ntmps41
   go_wp2_with fail
   rw [←HW.out]
   go_wp2_with (go_at_call 72;refine (b1s _ _ _ _ _ _ _ _ _ hf1 hf2).mono ?_;rintro e w1 ⟨rfl,hb1⟩)
   go_ret
   exact ⟨by rw [HE2.out];rfl,bN (bN HB0.out hq) hb1⟩
def A9 (t s:Tm):Bool:=t6 t s == 0
set_option maxHeartbeats 400000 in
theorem b2w {U:Nat→Prop} (t s:Tm) (a a':Option Addr) (n c n' c':Nat) (w:World) (ht:Tat U w t a n c) (hs:Tat U w s a' n' c') :
  Calls Tryz.prog 19 #[.agg #[.int .i64 t.f,.slice a n c],.agg #[.int .i64 s.f,.slice a' n' c']] w fun e w'=>e = .returned (.bool (A9 t s))∧Below w.heap.size w w':=by
 have HC:Hid (∀ w1,Below w.heap.size w w1→Calls Tryz.prog 41 #[.agg #[.int .i64 t.f,.slice a n c],.agg #[.int .i64 s.f,.slice a' n' c']] w1 fun e w'=>e = .returned (.int .i64 (t6 t s))∧Below w1.heap.size w1 w'):=fun w1 hb=>a1D t s _ _ _ _ _ _ w1 (ht.bw hb) (hs.bw hb)
 unfold A9
 clear ht hs
 go_enter Tryz.func19,Tryz.ntmps19
 go_wp2_with (go_at_call 41;refine (HC.out _ (bA (bA (bW _) _) _)).mono ?_;rintro e w1 ⟨rfl,hb1⟩)
 go_ret
 exact ⟨rfl,bN (bA (bA (bW _) _) _) hb1⟩
end Go.Proofs.YtekboofbedakcaaGreat
namespace Go.Proofs.YtekboofbedakcaaGreat
open Go.RowKit
set_option linter.unusedVariables false
variable {α:Type} {P:Program}
def a5X (P:Program) (gf:Nat) (lb:Array Value) (encs:α→Array Value) (Ok:List α→α→World→Prop) (Kp:World→World→Prop) (S:List α→Prop) (w:World):Prop:=
 ∀ (l:Nat) (J:List α→World→Prop) (W:World),Below w.heap.size w W→(∀ pre A B,J pre A→Below A.heap.size A B→J pre B) →
  (∀ pre x V,J pre V→Ok pre x V→YieldAt Fence.wide 1 P l (encs x) V fun e V'=>e = .returned (.bool true)∧J (pre++[x]) V'∧Kp V V') →
  J [] W→CallsIn Fence.wide 2 P gf (#[.func (.yield l) #[] #[]]++lb) W fun e W'=>(∃ v,e = .returned v)∧∃ xs,S xs∧J xs W'
def Y8 (fn:FuncId) (tmps:Array Value) (ps:Array Tmp) (assign body:Code) (D:Nat) (st:LoopState):Loop:=
 { state:=st,pending:=none,fn:=fn,tmps:=tmps,params:=ps,assign:=assign,body:=body,defers:=D }
end Go.Proofs.YtekboofbedakcaaGreat
namespace Go.Proofs.YtekboofbedakcaaGreat
open Go.RowKit Go.Shelf
set_option linter.unusedVariables false
attribute [local go_sem] Oper.semAt_some
structure Tr where
 t:Tm
 a:Option Addr
 n:Nat
 c:Nat
def Tr.v (x:Tr):Value := .agg #[.int .i64 x.t.f,.slice x.a x.n x.c]
def Tr.ok (n₀:Nat) (x:Tr) (V:World):Prop:=Tat (·< n₀) V x.t x.a x.n x.c
def KpT (n₀:Nat) (V V':World):Prop:=Below n₀ V V'∧∀ (g:Nat) cs fl,V.heap[g]?=some (Obj.cells cs 37 fl)→V'.heap[g]?=some (Obj.cells cs 37 fl)
theorem KpT.refl (n₀:Nat) (V:World):KpT n₀ V V:=⟨Below.refl _ _,fun _ _ _ h=>h⟩
theorem KpT.trans {n₀:Nat} {A B C:World} (h:KpT n₀ A B) (k:KpT n₀ B C):KpT n₀ A C:=⟨h.1.trans k.1,fun g cs fl e=>k.2 g cs fl (h.2 g cs fl e)⟩
theorem KpT.of_below {n₀:Nat} {A B:World} (hn:n₀≤A.heap.size) (h:Below A.heap.size A B):KpT n₀ A B:=⟨h.mono hn,fun g cs fl e=>by
 rw [h.block g (Array.getElem?_eq_some_iff.1 e).1];exact e⟩
theorem N6 {w:World} {b:Nat} {x y:Value} {t:TypeId} {fl:Nat×Nat} (h:w.heap[b]?=some (.cells #[x,y] t fl)):w.cell? ⟨b,0,none⟩=some x∧w.cell? ⟨b,1,none⟩=some y:=by
 constructor<;>simp [World.cell?,h]
theorem a6E {m:Nat} (m':Nat) {P:Program} {l:Nat} {args:Array Value} {W:World} {R:Ending→World→Prop} (h:YieldAt Fence.wide m P l args W R):YieldAt Fence.wide m' P l args W R:=by
 obtain ⟨fn,tmps,assign,body,hy,hR⟩:=h
 exact ⟨fn,tmps,assign,body,hy,hR.1,fun c cs _=>hR.2 c cs (fun d h=>by cases h)⟩
set_option maxRecDepth 100000 in
set_option maxHeartbeats 2000000 in
theorem b5o (l n₀ N:Nat) (J:List Tr→World→Prop) (hJ:∀ pre A B,J pre A→Below A.heap.size A B→J pre B)
  (hY:∀ m pre (x:Tr) V,J pre V→x.ok n₀ V∧pre.length<N→YieldAt Fence.wide m Tryz.prog l #[x.v] V fun e V'=>e = .returned (.bool true)∧J (pre++[x]) V'∧KpT n₀ V V') (t:Tm) :
  ∀ (d:Nat) (a:Option Addr) (n c:Nat) (pre:List Tr) (W:World),Tat (·< n₀) W t a n c→n₀≤W.heap.size→J pre W→pre.length+t.size≤N →
   CallsIn Fence.wide d Tryz.prog 144 #[.agg #[.int .i64 t.f,.slice a n c],.func (.yield l) #[] #[]] W fun e W'=>e = .returned (.bool true)∧∃ xs:List Tr,xs.map Tr.t=t.flat∧J (pre++xs) W'∧KpT n₀ W W':=by
 induction t using Tm.indp with
 | h t ih =>
  intro d a n c pre W ht hn hpre hN
  have hs1:=t.size_pos
  have hdd:∀ k:Nat,(Fence.wide.depth.isSome=true→1≤k):=fun k h=>by cases h
  obtain ⟨W1,hW1⟩:∃ W1,W1=W.alloc (.cells #[.int .i64 t.f,.slice a n c] 37):=⟨_,rfl⟩
  have hb1:Below W.heap.size W W1:=by rw [hW1];exact bA (bW _) _
  have hbx:W1.heap[W.heap.size]?=some (.cells #[.int .i64 t.f,.slice a n c] 37 (0,0)):=by rw [hW1];exact World.alloc_heap_new _ _
  obtain ⟨c1,c2⟩:=N6 hbx
  have ht1:Tat (·< n₀) W1 t a n c:=ht.bw hb1
  obtain ⟨fn,tmps,assign,body,hy,hR⟩:=hY (d-1) pre ⟨t,a,n,c⟩ W1 (hJ _ _ _ hpre hb1) ⟨ht1,by omega⟩
  dsimp only [Tr.v] at hy
  have HW:=K3 hW1
  clear hW1
  refine callsIn_of_wp Tryz.func144 rfl trivial ?_ rfl
  simp only [Tryz.ntmps144,List.size_toArray,List.length_cons,List.length_nil,Nat.reduceAdd,Nat.reduceSub,Array.replicate_succ,Array.replicate_zero,List.push_toArray,List.append_toArray,List.nil_append,List.cons_append]
  rw [HW.out] at hy hR
  gi_wp2_with fail
  refine ⟨hdd _,hR.mono ?_⟩
  rw [←HW.out]
  rintro e W2 ⟨rfl,hJ2,hk2⟩
  obtain ⟨c1,c2⟩:=N6 (hk2.2 _ _ _ hbx)
  have ht2:Tat (·< n₀) W2 t a n c:=ht1.below hk2.1 fun b h _=>h
  have hkk:KpT n₀ W W2:=(KpT.of_below hn hb1).trans hk2
  have hn2:n₀≤W2.heap.size:=Nat.le_trans hn hkk.1.size
  gi_wp2_with (refine ⟨trivial,hdd _,?_⟩;gi_at_call 43;refine (callsIn_wide.2 (H1 ht2)).mono ?_;rintro e W3 ⟨hb3,a3,n3,c3,rfl,hl3⟩)
  have HL3:=K3 hl3.len
  have hm3:n3≤9223372036854775807:=by have:=HL3.out;unfold maxLen at this;omega
  have hk3:KpT n₀ W W3:=hkk.trans (KpT.of_below hn2 hb3)
  have hJ3:=hJ _ _ _ hJ2 hb3
  have HLs:Hid (∀ V,KpT n₀ W3 V→Las (·< n₀) V t.ps a3 n3 c3):=fun V h=>hl3.below h.1 fun b hb _=>hb
  have hn3:n₀≤W3.heap.size:=Nat.le_trans hn2 hb3.size
  have HN:Hid (pre.length+t.size≤N):=hN
  have HI:=K3 ih
  clear hl3 hJ2 hk2 hkk ht2 c1 c2 hb3 ih hN hY hy hR hbx ht1 hb1 ht
  gi_loopw [14] (fun i wr=>∃ (k:Nat) (xs:List Tr),i = .int .i64 (k:Int)∧k≤n3∧xs.map Tr.t=t::(t.ps.take k).flatMap Tm.flat∧J (pre++xs) wr∧KpT n₀ W3 wr) (fun i _=>n3-(intOf i).toNat)
  case atStart=>exact ⟨0,[⟨t,a,n,c⟩],rfl,by omega,by simp,hJ3,KpT.refl _ _⟩
  case round =>
   obtain ⟨k,xs,rfl,hk,hxs,hJr,hkr⟩:=hrel
   have HX:=K3 hxs
   clear hxs
   have hnr:n₀≤wr.heap.size:=Nat.le_trans hn3 hkr.1.size
   by_cases hlt:k<n3
   ·obtain ⟨b,off,s,a',n',c',rfl,hU,hlt',hs,hT,e1,e2⟩:=(HLs.out wr hkr).at hlt
    have HS:=K3 hs
    clear hs
    have hb4:Below wr.heap.size wr (wr.alloc (.cells #[.int .i64 s.f,.slice a' n' c'] 37)):=bA (bW _) _
    have HC:Hid (CallsIn Fence.wide (d-1) Tryz.prog 144 #[.agg #[.int .i64 s.f,.slice a' n' c'],.func (.yield l) #[] #[]] (wr.alloc (.cells #[.int .i64 s.f,.slice a' n' c'] 37)) fun e W'=>e = .returned (.bool true)∧∃ ys:List Tr,ys.map Tr.t=s.flat∧J ((pre++xs)++ys) W'∧KpT n₀ (wr.alloc (.cells #[.int .i64 s.f,.slice a' n' c'] 37)) W'):=by
     refine HI.out s (List.mem_of_getElem? HS.out) (d-1) a' n' c' (pre++xs) _ (hT.bw hb4) (by simp;omega) (hJ _ _ _ hJr hb4) ?_
     have h1:=congrArg List.length HX.out
     simp only [List.length_map,List.length_cons] at h1
     rw [List.length_append,h1]
     have h2:=t.size_eq
     have h3:(t.ps.flatMap Tm.flat).length=((t.ps.take k).flatMap Tm.flat).length+(s.flat.length+((t.ps.drop (k+1)).flatMap Tm.flat).length):=by
      conv=>lhs;rw [←List.take_append_drop k t.ps,a0N HS.out,List.flatMap_append,List.flatMap_cons,List.length_append,List.length_append]
     have h4:=HN.out
     unfold Tm.size at *
     omega
    have HK5:Hid (∀ V,KpT n₀ (wr.alloc (.cells #[.int .i64 s.f,.slice a' n' c'] 37)) V→KpT n₀ W3 V):=fun V h=>(hkr.trans (KpT.of_below hnr hb4)).trans h
    gi_wp2_with (refine ⟨trivial,hdd _,?_⟩;gi_at_call 144;refine HC.out.mono ?_;rintro e W4 ⟨rfl,ys,hys,hJ4,hk4⟩)
    go_roundw
    case rel =>
     refine ⟨k+1,xs++ys,by go_num,by omega,?_,by rw [←List.append_assoc];exact hJ4,HK5.out _ hk4⟩
     rw [List.map_append,HX.out,hys,List.take_add_one,HS.out,List.flatMap_append]
     simp
    case measure=>simp [intOf];omega
   ·gi_wp2
    go_ret
    refine ⟨rfl,xs,?_,hJr,hk3.trans hkr⟩
    rw [HX.out,t.flat_eq,List.take_of_length_le (by have:=HL3.out;omega)]
section
variable {α:Type} {P:Program}
def b1o (B:Nat) (Kp:World→World→Prop) (I:World→Prop) (W:World):Exit→Act→World→Prop
 | .normal,_,W'=>KeepsFrom B W W'∧Kp W W'∧I W'
 | _,_,_=>False
theorem a1E {g:Operand} {ps:Array Tmp} {assign body:Code} {Q:Exit→Act→World→Prop} {a:Act} {w:World} {gf:Nat} {lb:Array Value}
  (hg:a.eval g = .func (.func gf) #[] lb) (eg:∀ args w,(callFunc gf args).run P w = .ok (.enter gf args) w)
  {encs:α→Array Value} {Ok:List α→α→World→Prop} {Kp:World→World→Prop} {S:List α→Prop} (hseq:a5X P gf lb encs Ok Kp S w)
  (hKt:∀ {A B C:World},Kp A B→Kp B C→Kp A C)
  (hKb:∀ (W:World) (l:Nat) (o o':Obj),w.heap.size≤l→W.heap[l]?=some o→o.isCells=false→Kp W (W.putObj l o'))
  (hOk:∀ (pre:List α) (x:α) (W:World) (l:Nat) (o o':Obj),w.heap.size≤l→Ok pre x W→W.heap[l]?=some o→o.isCells=false→Ok pre x (W.putObj l o'))
  (hps:∀ x,(encs x).size=ps.size) (I:List α→World→Prop) (hI:∀ pre A B,I pre A→Below A.heap.size A B→I pre B)
  (hIp:∀ (pre:List α) (A:World) (l:Nat) (o o':Obj),I pre A→w.heap.size≤l→A.heap[l]?=some o→o.isCells=false→I pre (A.putObj l o'))
  (h0:I [] w) (a₁:α→Nat→Act) (ob:α→Obj) (hKa:∀ (V:World) (x:α),w.heap.size≤V.heap.size→Kp V (V.alloc (ob x))) (hOka:∀ (pre:List α) (x:α) (V:World),Ok pre x V→Ok pre x (V.alloc (ob x)))
  (hassign:∀ (l:Nat) (x:α) (W:World) (K:Act→World→Prop),K (a₁ x W.heap.size) (W.alloc (ob x)) →
   assign.wpIn (Fence.wide.inRound l) 1 P (Exit.then K (fun _ _ _=>False)) { tmps:=(ps.zip (encs x)).foldl (fun t (p,v)=>t.setIfInBounds p v) a.tmps,defers:=[] } W)
  (hbody:∀ (l:Nat) (pre:List α) (x:α) (W:World) (b:Nat),w.heap.size≤b→W.heap[b]?=some (ob x)→I pre W→Ok pre x W→body.wpIn (Fence.wide.inRound l) 1 P (b1o w.heap.size Kp (I (pre++[x])) W) (a₁ x b) W)
  (hdone:∀ (D:Nat) (xs:List α) (W:World),w.heap.size≤D→S xs→I xs W→W.heap[D]?=some (.deferred (some []))→Q .normal { a with defers:={ target := .collected D,args := #[] }::a.defers } W) :
  (Code.rangeFunc g ps assign body).wpIn Fence.wide 3 P Q a w:=by
 refine wpIn_rangeFunc fun fn hfn=>?_
 have hD:∃ D,D=w.heap.size:=⟨_,rfl⟩
 obtain ⟨D,hD⟩:=hD
 obtain ⟨W1,hW1⟩:∃ W1,W1=(w.alloc (.deferred (some []))).alloc (.loop (Y8 fn a.tmps ps assign body D .ready)):=⟨_,rfl⟩
 have below1:Below w.heap.size w W1:=by rw [hW1];exact ((Below.refl _ w).alloc (Nat.le_refl _) _).alloc (by simp) _
 have atL:W1.heap[D+1]?=some (.loop (Y8 fn a.tmps ps assign body D .ready)):=by
  have:=World.alloc_heap_new (w.alloc (.deferred (some []))) (.loop (Y8 fn a.tmps ps assign body D .ready))
  rw [World.size_alloc,←hD,←hW1] at this
  exact this
 have atD:W1.heap[D]?=some (.deferred (some [])):=by
  have h:=World.alloc_heap_new w (.deferred (some []))
  rw [←hD] at h
  rw [hW1,Below.heap_alloc _ _ _ (by simp;omega)]
  exact h
 refine ⟨D+1,[{ target := .collected D,args := #[] }],W1,{ target := .fn (.func gf) lb,args := #[.func (.yield (D+1)) #[] #[]] },W1,gf,#[.func (.yield (D+1)) #[] #[]]++lb,W1,?_,?_,fun _ _=>trivial,?_,(fun _=>by omega),?_⟩
 ·rw [hW1,hD];exact run_enterLoop_outer _ _ _ _ _
 ·simp only [resolve,hg]
  simp [go_sem]
 ·simp [invoke,go_sem,eg]
 refine (hseq (D+1) (fun pre V=>I pre V∧V.heap[D+1]?=some (.loop (Y8 fn a.tmps ps assign body D .ready))∧V.heap[D]?=some (.deferred (some []))) W1 below1 ?abides ?rounds ⟨hI _ _ _ h0 below1,atL,atD⟩).mono ?after
 case abides =>
  rintro pre A B ⟨h1,h2,h3⟩ hb
  exact ⟨hI _ _ _ h1 hb,(hb.block _ (Array.getElem?_eq_some_iff.1 h2).1).trans h2,(hb.block _ (Array.getElem?_eq_some_iff.1 h3).1).trans h3⟩
 case rounds =>
  rintro pre x V0 ⟨g1,g2,g3⟩ gx
  have hlt0:=(Array.getElem?_eq_some_iff.1 g2).1
  have hlt1:=(Array.getElem?_eq_some_iff.1 g3).1
  have hy:=run_yield (P:=P) (args:=encs x) g2 (hps x)
  obtain ⟨V,hV⟩:∃ V,V=V0.alloc (ob x):=⟨_,rfl⟩
  have bV:Below V0.heap.size V0 V:=by rw [hV];exact (Below.refl _ V0).alloc (Nat.le_refl _) _
  have h1:I pre V:=hI _ _ _ g1 bV
  have h2:V.heap[D+1]?=some (.loop (Y8 fn a.tmps ps assign body D .ready)):=(bV.block _ hlt0).trans g2
  have h3:V.heap[D]?=some (.deferred (some [])):=(bV.block _ hlt1).trans g3
  have hx:Ok pre x V:=by rw [hV];exact hOka _ _ _ gx
  have hk0:Kp V0 V:=by rw [hV];exact hKa _ _ (by omega)
  have hbx:V.heap[V0.heap.size]?=some (ob x):=by rw [hV];exact World.alloc_heap_new _ _
  have hlt:=(Array.getElem?_eq_some_iff.1 h2).1
  refine ⟨fn,_,assign,body,hy,roundIn_of_wpIn hfn (hassign _ x V0 _ ?_)⟩
  rw [←hV]
  refine ⟨_,run_beginRound h2 rfl,?_⟩
  have hDL:w.heap.size≤D+1:=by omega
  have b2:(V.putObj (D+1) (.loop (Y8 fn a.tmps ps assign body D .busy))).heap[D+1]?=some (.loop (Y8 fn a.tmps ps assign body D .busy)):=World.putObj_heap_same hlt
  have b3:(V.putObj (D+1) (.loop (Y8 fn a.tmps ps assign body D .busy))).heap[D]?=some (.deferred (some [])):=(World.putObj_heap_other (by omega)).trans h3
  have b4:(V.putObj (D+1) (.loop (Y8 fn a.tmps ps assign body D .busy))).heap[V0.heap.size]?=some (ob x):=(World.putObj_heap_other (by omega)).trans hbx
  refine wpIn_mono (hbody _ pre x (V.putObj (D+1) (.loop (Y8 fn a.tmps ps assign body D .busy))) V0.heap.size (by omega) b4 (hIp _ _ _ _ _ h1 hDL h2 rfl) (hOk _ _ _ _ _ _ hDL hx h2 rfl)) ?_
  rintro e a3 U hp
  cases e with
  | normal =>
   obtain ⟨k1,k2,k3⟩:=hp
   have u2:=k1.same _ _ (by omega) b2 rfl
   have u3:=k1.same _ _ (by omega) b3 rfl
   have hr:=run_endRound (P:=P) none u2
   refine ⟨_,_,hr,rfl,⟨hIp _ _ _ _ _ k3 hDL u2 rfl,World.putObj_heap_same (Array.getElem?_eq_some_iff.1 u2).1,(World.putObj_heap_other (by omega)).trans u3⟩,?_⟩
   exact hKt hk0 (hKt (hKt (hKb _ _ _ _ hDL h2 rfl) k2) (hKb _ _ _ _ hDL u2 rfl))
  | ret=>exact hp.elim
  | exit _=>exact hp.elim
  | goto _=>exact hp.elim
  | panic _=>exact hp.elim
  | outgrown=>exact hp.elim
 case after =>
  rintro e V ⟨⟨v,rfl⟩,xs,hS,h1,h2,h3⟩
  exact ⟨none,_,run_endLoop (P:=P) h2 (by simp [Y8]),hdone D xs _ (by omega) hS (hIp _ _ _ _ _ h1 (by omega) h2 rfl) ((World.putObj_heap_other (by omega)).trans h3)⟩
end
theorem b1F {n₀ Bb:Nat} {t:Tm} {a:Option Addr} {n c:Nat} {w:World} (hn:n₀≤w.heap.size) (hbx:w.heap[Bb]?=some (.cells #[.int .i64 t.f,.slice a n c] 37 (0,0))) (ht:Tat (·< n₀) w t a n c) :
  a5X Tryz.prog 143 #[.pointer (some ⟨Bb,0,none⟩)] (fun x:Tr => #[x.v]) (fun pre x V=>x.ok n₀ V∧pre.length<t.size) (KpT n₀) (fun xs=>xs.map Tr.t=t.flat) w:=by
 intro l J W hW hJ hY h0
 have hdd:∀ k:Nat,(Fence.wide.depth.isSome=true→1≤k):=fun k h=>by cases h
 have hb:W.heap[Bb]?=some (.cells #[.int .i64 t.f,.slice a n c] 37 (0,0)):=(hW.block Bb (Array.getElem?_eq_some_iff.1 hbx).1).trans hbx
 obtain ⟨c1,c2⟩:=N6 hb
 have hwk:=b5o l n₀ t.size J hJ (fun m pre x V hj hx=>a6E m (hY pre x V hj hx)) t 1 a n c [] W (ht.bw hW) (Nat.le_trans hn hW.size) h0 (by simp)
 refine callsIn_of_wp Tryz.func143 rfl trivial ?_ rfl
 simp only [Tryz.ntmps143,List.size_toArray,List.length_cons,List.length_nil,Nat.reduceAdd,Nat.reduceSub,Array.replicate_succ,Array.replicate_zero,List.push_toArray,List.append_toArray,List.nil_append,List.cons_append]
 gi_wp2_with (refine ⟨trivial,?_⟩;gi_at_call 144;refine hwk.mono ?_;rintro e W1 ⟨rfl,xs,hxs,hJ1,hk1⟩)
 go_end0
 exact ⟨⟨_,rfl⟩,xs,hxs,by simpa using hJ1⟩
theorem b6T (f:Int) (a:Option Addr) (n c:Nat) (w:World) :
  CallsIn Fence.wide 2 Tryz.prog 127 #[.agg #[.int .i64 f,.slice a n c]] w fun e w'=>e = .returned (.func (.func 143) #[] #[.pointer (some ⟨w.heap.size,0,none⟩)])∧w'=w.alloc (.cells #[.int .i64 f,.slice a n c] 37):=by
 refine callsIn_of_wp Tryz.func127 rfl trivial ?_ rfl
 simp only [Tryz.ntmps127,List.size_toArray,List.length_cons,List.length_nil,Nat.reduceAdd,Nat.reduceSub,Array.replicate_succ,Array.replicate_zero,List.push_toArray,List.append_toArray,List.nil_append,List.cons_append]
 gi_wp2
 go_ret
 exact ⟨rfl,rfl⟩
attribute [local go_sem] Oper.semAt_some
theorem V7 {n₀ l:Nat} {W:World} {o:Obj} (o':Obj) (hn:n₀≤l) (h:W.heap[l]?=some o) (ho:o.isCells=false):KpT n₀ W (W.putObj l o'):=by
 refine ⟨⟨rfl,rfl,rfl,by simp [World.putObj],fun q hq=>World.putObj_heap_other (by omega)⟩,fun g cs fl e=>?_⟩
 rw [World.putObj_heap_other]
 ·exact e
 ·rintro rfl
  rw [h] at e
  cases e
  cases ho
theorem Tr.ok.kept {n₀:Nat} {x:Tr} {V V':World} (h:x.ok n₀ V) (hb:Below n₀ V V'):x.ok n₀ V':=h.below hb fun b h _=>h
def Tr.ob (x:Tr):Obj := .cells #[.int .i64 x.t.f,.slice x.a x.n x.c] 37 (0,0)
def a8P (f:Int) (l:List Tm):Nat:=(l.filter fun s=>decide (s.f=f)).length
theorem b5I (f:Int) (l:List Tm):a8P f l≤l.length:=List.length_filter_le _ _
theorem a4s (f:Int) (l:List Tm) (s:Tm):a8P f (l++[s])=a8P f l+if s.f=f then 1 else 0:=by
 unfold a8P
 rw [List.filter_append,List.length_append]
 by_cases h:s.f=f<;>simp [h]
theorem a4M {A:World} {b:Nat} {ty:TypeId} {v:Value} (h:Boxed A b ty v) {l:Nat} {o:Obj} (o':Obj) (hl:A.heap[l]?=some o) (ho:o.isCells=false):Boxed (A.putObj l o') b ty v:=by
 refine (World.putObj_heap_other ?_).trans h
 rintro rfl
 rw [show A.heap[_]?=_ from h] at hl
 cases hl
 cases ho
theorem G3 {W W':World} (h:Below W.heap.size W W') (B:Nat):KeepsFrom B W W':=⟨h.size,fun k o _ hk _=>(h.block k (Array.getElem?_eq_some_iff.1 hk).1).trans hk⟩
end Go.Proofs.YtekboofbedakcaaGreat
namespace Go.Proofs.YtekboofbedakcaaGreat
open Go.RowKit
set_option linter.unusedVariables false
theorem a8v {P:Program} (w:World) (t ty e:TypeId) (z:Value) (size bytes:Nat) (ht:P.underlying t=some (.slice e)) (hi:(P.info? e).map (fun i=>(i.zero,i.size,i.bytes))=some (some z,size,bytes)) (hzs:z.cells.size=size) (hsz:0<size)
  (v:Value) (n:Nat) (xs:List Value) (hown:w.ownsRow 0 e size v n xs) (ad:Addr) (m c:Nat) (ys:List Value) (hb:Cs w (some ad) ys) (hl:ys.length=m*size) (h1:∀ u∈ys,u.oneCell'=true) (h63:n+m≤maxLen) (hbytes:(n+m)*bytes≤140737488355328) :
  ∃ v' w',Sem.run P (Builtin.append_ #[t,t] ty #[v,.slice (some ad) m c]) w = .ok v' w'∧w'.ownsRow 0 e size v' (n+m) (xs++ys)∧w.grownBy w' v.ownBlock∧(v'.ownBlock=v.ownBlock∨∀ g,v'.ownBlock=some g→w.heap.size≤g):=by
 obtain ⟨i,hi1,hi2,hi3,hi4⟩:=info_parts hi
 have hnews:∀ j u,ys[j]?=some u→w.cell? (ad.add j)=some u:=by
  intro j u hj
  have hjl:j<ys.length:=by
   rcases Nat.lt_or_ge j ys.length with h | h
   ·exact h
   ·rw [List.getElem?_eq_none h] at hj;cases hj
  rcases hb with rfl | ⟨b,off,ha,hlt,hc⟩
  ·simp at hjl
  ·cases ha
   rw [show (⟨b,off,none⟩:Addr).add j=⟨b,off+j,none⟩ by simp [Addr.add],hc j hjl,hj]
 rcases hown.2 with ⟨rfl,rfl⟩ | ⟨g,cap,cur,rfl,hbg,hg,hnc,hcm,hcs,htake⟩
 ·have hx:xs=[]:=List.eq_nil_of_length_eq_zero (by simpa using hown.1)
  subst hx
  obtain ⟨v',w',hr,ho,hg,_⟩:=run_append_own (P:=P) w w.heap.size t ty e i z size bytes ht hi1 hi2 hi3 hi4 hzs hsz (.slice none 0 0) 0 [] (World.ownsRow_nil _ _ _ _) ad m c ys hl hnews h1 h63 hbytes (Nat.le_refl _)
  exact ⟨v',w',hr,p7 ho (Nat.zero_le _),hg,.inr (fun g hg=>(ho.lt g hg).1)⟩
 ·by_cases hroom:n+m≤cap
  ·obtain ⟨w',hr,ho,hgr⟩:=run_append_fits (P:=P) w 0 t ty e i size ht hi1 hi3 g n cap xs hown ad m c ys hl hnews h1 hroom
   exact ⟨_,w',hr,ho,hgr,.inl rfl⟩
  ·obtain ⟨v',w',hr,ho,hgr⟩:=run_append_arg_grows (P:=P) w t ty e i z size bytes ht hi1 hi2 hi3 hi4 hzs hsz ⟨g,0,none⟩ n cap xs hown.1 (hown.cells (g:=g) rfl) ad m c ys hl hnews (by omega) h63 hbytes
   exact ⟨v',w',hr,p7 ho (Nat.zero_le _),hgr.but _,.inr (fun g hg=>(ho.lt g hg).1)⟩
theorem a6p {P:Program} (w:World) {ops:Array Oper} {o:Oper} {a:Act} {K:Act→World→Prop} {Q:Exit→Act→World→Prop} {E:Prop} (hgd:Region.wanted o (yielded ops a.tmps)=true) (so x:Operand) (t:TypeId)
  (ho:o.op = .call { callee := .builtin .append,args := #[so,x],argTypes := #[t,t] }) (v y:Value) (hs:a.eval so=v) (hx:a.eval x=y) (v':Value) (w':World) (hrun:Sem.run P (Builtin.append_ #[t,t] o.type #[v,y]) w = .ok v' w') (h:K (a.put o.dst v') w') :
  if Region.wanted o (yielded ops a.tmps)=true then Oper.wp P o a w K Q else E:=by
 rw [if_pos hgd]
 unfold Oper.wp
 simp [execOp,ho,resolve,invoke,builtin,hs,hx,hrun,Result.andThen]
 exact h
theorem G0 {P:Program} (w:World) {ops:Array Oper} {rest:List Oper} {o:Oper} {a:Act} {Q:Exit→Act→World→Prop} (hgd:Region.wanted o (yielded ops a.tmps)=true) (so x:Operand) (t:TypeId)
  (ho:o.op = .call { callee := .builtin .append,args := #[so,x],argTypes := #[t,t] }) (v y:Value) (hs:a.eval so=v) (hx:a.eval x=y) (v':Value) (w':World) (hrun:Sem.run P (Builtin.append_ #[t,t] o.type #[v,y]) w = .ok v' w') (h:wpList P ops Q rest (a.put o.dst v') w'):wpList P ops Q (o::rest) a w:=by
 refine U7 hgd fun K hK=>?_
 unfold Oper.wp
 simp [execOp,ho,resolve,invoke,builtin,hs,hx,hrun,Result.andThen]
 exact hK _ _ h
theorem b1M {P:Program} (w:World) {ops:Array Oper} {o:Oper} {a:Act} {K:Act→World→Prop} {Q:Exit→Act→World→Prop} {E:Prop} (hgd:Region.wanted o (yielded ops a.tmps)=true) (f:Nat) (x:Operand) (ts:Array TypeId)
  (ho:o.op = .call { callee := .value (.func f),args := #[x],argTypes:=ts }) (eg:∀ args w,(callFunc f args).run P w = .ok (.enter f args) w) (v:Value) (hx:a.eval x=v) {R:Ending→World→Prop} (hc:Calls P f #[v] w R) (h:∀ e w',R e w'→∃ u,e = .returned u∧K (a.put o.dst u) w') :
  if Region.wanted o (yielded ops a.tmps)=true then Oper.wp P o a w K Q else E:=by
 rw [if_pos hgd]
 unfold Oper.wp
 have he:(execOp a.eval o).run P w = .ok (.enter f #[v]) w:=by
  rw [←hx]
  cases x<;>simp [execOp,ho,resolve,invoke,go_sem,eg]
 rw [he,Oper.upon_enter]
 refine hc.mono ?_
 rintro e w' hr
 obtain ⟨u,rfl,hk⟩:=h e w' hr
 exact hk
theorem a6G {w:World} {B:Nat} {e:TypeId} {size:Nat} {v:Value} {n:Nat} {xs:List Value} (h:w.ownsRow 0 e size v n xs) (hb:∀ g,v.ownBlock=some g→B≤g):w.ownsRow B e size v n xs:=by
 obtain ⟨h1,h2⟩:=h
 refine ⟨h1,?_⟩
 rcases h2 with h2 | ⟨g,cap,cur,rfl,hg,r⟩
 ·exact .inl h2
 ·exact .inr ⟨g,cap,cur,rfl,hb g rfl,r⟩
theorem a3h {P:Program} {w:World} {B:Nat} (hB:B≤w.heap.size) (t e:TypeId) (z:Value) (size bytes:Nat) (ht:P.underlying t=some (.slice e)) (hi:(P.info? e).map (fun i=>(i.zero,i.size,i.bytes))=some (some z,size,bytes)) (hzs:z.cells.size=size) (hsz:0<size)
  (v:Value) (n:Nat) (xs ys:List Value) (hrow:w.ownsRow B e size v n xs) (hl:ys.length=size) (h1:∀ u∈ys,u.oneCell'=true) (hn:n≤100000000000) (hbt:bytes≤1000) :
  ∃ a' c' w',Sem.run P (Builtin.append_ #[t,t] t #[v,.slice (some ⟨w.heap.size,0,none⟩) 1 1]) (w.alloc (.cells ys.toArray e)) = .ok (.slice a' (n+1) c') w'∧w'.ownsRow B e size (.slice a' (n+1) c') (n+1) (xs++ys)∧Below B w w'∧(∀ b,b<w.heap.size→v.ownBlock≠some b→w'.heap[b]?=w.heap[b]?)∧∀ g,(Value.slice a' (n+1) c').ownBlock=some g→v.ownBlock=some g∨w.heap.size≤g:=by
 have hmul:(n+1)*bytes≤100000000001*1000:=Nat.mul_le_mul (by omega) hbt
 have hrow1:(w.alloc (.cells ys.toArray e)).ownsRow 0 e size v n xs:=p7 (hrow.alloc _) (Nat.zero_le _)
 obtain ⟨v',w',hrun,ho,hg,hv⟩:=a8v (P:=P) (w.alloc (.cells ys.toArray e)) t t e z size bytes ht hi hzs hsz v n xs hrow1 ⟨w.heap.size,0,none⟩ 1 1 ys (Cs.new _ _ _) (by rw [hl,Nat.one_mul]) h1 (by unfold maxLen;omega) (by omega)
 obtain ⟨a',c',rfl,_⟩:=A3 ho
 have hv':∀ g,(Value.slice a' (n+1) c').ownBlock=some g→v.ownBlock=some g∨w.heap.size≤g:=fun g hg'=>by
  rcases hv with e | e
  ·left;rw [←e];exact hg'
  ·right;have:=e g hg';rw [World.size_alloc] at this;omega
 refine ⟨a',c',w',hrun,a6G ho (fun g hg'=>?_),?_,fun b hb hne=>?_,hv'⟩
 ·rcases hv' g hg' with e | e
  ·exact (hrow.lt g e).1
  ·omega
 ·exact ((Below.refl B w).alloc hB _).trans ((Below.refl _ _).grown hg (by simp;omega) fun k hk=>(hrow.lt k hk).1)
 ·rw [hg.block b (by simp;omega) (fun e=>hne e.symm),Below.heap_alloc _ _ _ hb]
def OwnT (e:TypeId) (U:Nat→Prop) (w:World) (base:Nat) (v:Value) (l:List Tm):Prop:=∃ xs,w.ownsRow base e 2 v l.length xs∧Ecs (fun b=>U b∧v.ownBlock≠some b) w l xs
theorem OwnT.nil (e:TypeId) (U:Nat→Prop) (w:World) (base:Nat):OwnT e U w base (.slice none 0 0) []:=⟨[],World.ownsRow_nil _ _ _ _,Ecs.nil_iff.2 rfl⟩
theorem OwnT.las {e:TypeId} {U:Nat→Prop} {w:World} {base:Nat} {v:Value} {l:List Tm} (h:OwnT e U w base v l) (hU:∀ b,base≤b→b<w.heap.size→U b):∃ a c,v = .slice a l.length c∧Las U w l a l.length c:=by
 obtain ⟨xs,h1,h2⟩:=h
 obtain ⟨a,c,e1,e2,e3,e4,e5⟩:=A3 h1
 refine ⟨a,c,e1,rfl,e2,e3,e4,xs,?_,h2.mono fun b hb _=>hb.1⟩
 rcases e5 with h | ⟨b,off,ha,hlt,hc⟩
 ·exact .inl h
 ·refine .inr ⟨b,off,ha,hU b ?_ hlt,hlt,hc⟩
  subst ha
  obtain ⟨_,h3⟩:=h1
  rcases h3 with ⟨h3,_⟩ | ⟨g,cap,cur,h3,hb,_⟩
  ·rw [e1] at h3;cases h3
  ·rw [e1] at h3;cases h3;exact hb
theorem OwnT.lt {e:TypeId} {U:Nat→Prop} {w:World} {base:Nat} {v:Value} {l:List Tm} (h:OwnT e U w base v l) {g:Nat} (hg:v.ownBlock=some g):base≤g∧g<w.heap.size:=by
 obtain ⟨xs,h1,h2⟩:=h
 exact h1.lt g hg
theorem OwnT.bw {e:TypeId} {U:Nat→Prop} {w w':World} {base:Nat} {v:Value} {l:List Tm} (h:OwnT e U w base v l) (hb:Below w.heap.size w w'):OwnT e U w' base v l:=by
 obtain ⟨xs,h1,h2⟩:=h
 exact ⟨xs,C5 h1 hb (Nat.le_refl _),h2.below hb fun b _ h=>h⟩
theorem OwnT.keep {e:TypeId} {U:Nat→Prop} {w w':World} {base:Nat} {v:Value} {l:List Tm} (h:OwnT e U w base v l) (hU:∀ b,U b→base≤b) (hs:∀ b,base≤b→b<w.heap.size→w'.heap[b]?=w.heap[b]?):OwnT e U w' base v l:=by
 obtain ⟨xs,h1,h2⟩:=h
 refine ⟨xs,?_,h2.keep fun b hb hlt=>⟨hb,hs b (hU b hb.1) hlt⟩⟩
 refine ⟨h1.1,?_⟩
 rcases h1.2 with h3 | ⟨g,cap,cur,rfl,hg,hh,r⟩
 ·exact .inl h3
 ·exact .inr ⟨g,cap,cur,rfl,hg,(hs g hg (Array.getElem?_eq_some_iff.1 hh).1).trans hh,r⟩
theorem OwnT.mono {e:TypeId} {U V:Nat→Prop} {w:World} {base base':Nat} {v:Value} {l:List Tm} (h:OwnT e U w base v l) (hb:base'≤base) (hU:∀ b,U b→V b):OwnT e V w base' v l:=by
 obtain ⟨xs,h1,h2⟩:=h
 exact ⟨xs,p7 h1 hb,h2.mono fun b hb _=>⟨hU b hb.1,hb.2⟩⟩
theorem b7i {P:Program} {U:Nat→Prop} {w:World} {B:Nat} (hB:B≤w.heap.size) (t e:TypeId) (z:Value) (bytes:Nat) (ht:P.underlying t=some (.slice e)) (hi:(P.info? e).map (fun i=>(i.zero,i.size,i.bytes))=some (some z,2,bytes)) (hzs:z.cells.size=2) (hbt:bytes≤1000)
  {v:Value} {l:List Tm} {s:Tm} {a:Option Addr} {n c:Nat} (h:OwnT e U w B v l) (hs:Tat (fun b=>U b∧v.ownBlock≠some b) w s a n c) (hn:l.length≤100000000000) :
  ∃ a' c' w',Sem.run P (Builtin.append_ #[t,t] t #[v,.slice (some ⟨w.heap.size,0,none⟩) 1 1]) (w.alloc (.cells #[.int .i64 s.f,.slice a n c] e)) = .ok (.slice a' (l.length+1) c') w'∧OwnT e U w' B (.slice a' (l.length+1) c') (l++[s])∧Below B w w'∧(∀ b,b<w.heap.size→v.ownBlock≠some b→w'.heap[b]?=w.heap[b]?)∧∀ g,(Value.slice a' (l.length+1) c').ownBlock=some g→v.ownBlock=some g∨w.heap.size≤g:=by
 obtain ⟨xs,h1,h2⟩:=h
 obtain ⟨a',c',w',hr,ho,hb,hk,hv⟩:=a3h (P:=P) hB t e z 2 bytes ht hi hzs (by decide) v l.length xs [.int .i64 s.f,.slice a n c] h1 rfl (by simp [Value.oneCell']) hn hbt
 have hkeep:∀ b,(U b∧v.ownBlock≠some b)→b<w.heap.size→(U b∧(Value.slice a' (l.length+1) c').ownBlock≠some b)∧w'.heap[b]?=w.heap[b]?:=fun b h3 h4=>by
  refine ⟨⟨h3.1,fun e=>?_⟩,hk b h4 h3.2⟩
  rcases hv b e with e' | e'
  ·exact h3.2 e'
  ·omega
 refine ⟨a',c',w',hr,⟨xs++[.int .i64 s.f,.slice a n c],?_,(h2.keep hkeep).append (Ecs.single (hs.keep hkeep))⟩,hb,hk,hv⟩
 rw [List.length_append]
 exact ho
end Go.Proofs.YtekboofbedakcaaGreat
namespace Go.Proofs.YtekboofbedakcaaGreat
open Go.RowKit
set_option linter.unusedVariables false
set_option linter.unusedSimpArgs false
theorem a0J:(Tryz.prog.info? 37).map (fun i=>(i.zero,i.size,i.bytes))=some (some (.agg #[.int .i64 0,.slice none 0 0]),2,32):=by kernel_rfl
theorem G9:(Tryz.prog.info? 37).map (fun i=>i.size)=some 2:=by kernel_rfl
def CloneSays (w:World) (t:Tm) (e:Ending) (w':World):Prop:=∃ a c,e = .returned (.agg #[.int .i64 t.f,.slice a t.ps.length c])∧OwnT 37 (fun b=>w.heap.size≤b) w' w.heap.size (.slice a t.ps.length c) (t.ps.map Tm.strip)∧Below w.heap.size w w'
theorem CloneSays.tat {w w':World} {t:Tm} {e:Ending} (h:CloneSays w t e w') (hf : -9223372036854775808≤t.f∧t.f≤9223372036854775807):∃ a n c,e = .returned (.agg #[.int .i64 t.f,.slice a n c])∧Tat (fun b=>w.heap.size≤b) w' t.strip a n c∧Below w.heap.size w w':=by
 obtain ⟨a0,c0,h1,h2,h3⟩:=h
 obtain ⟨a,c,e1,h4⟩:=h2.las fun b h _=>h
 rw [e1] at h1
 refine ⟨a,_,c,h1,L9.2 ⟨by rw [Tm.strip_f];exact hf,?_⟩,h3⟩
 rw [Tm.strip_l]
 exact h4
set_option maxRecDepth 100000 in
set_option maxHeartbeats 800000 in
theorem a5o {U:Nat→Prop} {l:List Tm} {a:Option Addr} {n c:Nat} {w:World} (h:Las U w l a n c) (hn:n≤90000000000)
  (hC:∀ t∈l,∀ (a:Option Addr) (n c:Nat) (w':World),Tat U w' t a n c→Calls Tryz.prog 25 #[.agg #[.int .i64 t.f,.slice a n c]] w' (CloneSays w' t)) :
  Calls Tryz.prog 31 #[.slice a n c] w fun e w'=>∃ a c,e = .returned (.slice a l.length c)∧OwnT 37 (fun b=>w.heap.size≤b) w' w.heap.size (.slice a l.length c) (l.map Tm.strip)∧Below w.heap.size w w':=by
 have HL:=K3 h.len
 have HA:Hid (∀ w',Below w.heap.size w w'→Las U w' l a n c):=fun w' hb=>h.bw hb
 have HC:=K3 hC
 clear h hC
 go_enter Tryz.func31,Tryz.ntmps31
 go_wp2
 go_loopw [3,8] (fun vv i wr=>∃ (k:Nat) (av:Option Addr) (cv:Nat),vv = .slice av k cv∧i = .int .i64 (k:Int)∧k≤n∧OwnT 37 (fun b=>w.heap.size≤b) wr w.heap.size (.slice av k cv) ((l.take k).map Tm.strip)∧Below w.heap.size w wr) (fun _ i _=>n-(intOf i).toNat)
 case atStart=>exact ⟨0,_,_,rfl,rfl,by omega,OwnT.nil _ _ _ _,bW _⟩
 case round =>
  obtain ⟨k,av,cv,rfl,rfl,hk,ho,hbr⟩:=hrel
  by_cases hlt:k<n
  ·obtain ⟨b,off,s,a',n',c',rfl,hU,hlt',hs,hT,e1,e2⟩:=(HA.out wr hbr).at hlt
   have HS:=K3 hs
   clear hs
   have hb1:Below wr.heap.size wr (wr.alloc (.cells #[.int .i64 s.f,.slice a' n' c'] 37)):=bA (bW _) _
   have HCall:=K3 (HC.out s (List.mem_of_getElem? HS.out) a' n' c' _ (hT.bw hb1))
   have HF:=K3 hT.wf
   have HApp:Hid (∀ w1 a1 n1 c1,Below wr.heap.size wr w1→Tat (fun b=>wr.heap.size+1≤b) w1 s.strip a1 n1 c1→∃ a' c' w',Sem.run Tryz.prog (Builtin.append_ #[35,35] 35 #[.slice av k cv,.slice (some ⟨w1.heap.size,0,none⟩) 1 1]) (w1.alloc (.cells #[.int .i64 s.f,.slice a1 n1 c1] 37)) = .ok (.slice a' (k+1) c') w'∧OwnT 37 (fun b=>w.heap.size≤b) w' w.heap.size (.slice a' (k+1) c') ((l.take (k+1)).map Tm.strip)∧Below w.heap.size w w'):=by
    intro w1 a1 n1 c1 hw1 ht1
    have ho1:=ho.bw hw1
    have hs1:Tat (fun b=>w.heap.size≤b∧(Value.slice av k cv).ownBlock≠some b) w1 s.strip a1 n1 c1:=ht1.mono fun b hb _=>⟨by have:=hbr.size;omega,fun e=>by have:=(ho.lt e).2;omega⟩
    have hkl:((l.take k).map Tm.strip).length=k:=by rw [List.length_map,List.length_take];have:=HL.out;omega
    obtain ⟨a',c',w',hr,h1,h2,_,_⟩:=b7i (P:=Tryz.prog) (U:=fun b=>w.heap.size≤b) (B:=w.heap.size) (Nat.le_trans hbr.size hw1.size) 35 37 _ 32 Tryz.underlying35 a0J rfl (by decide) ho1 hs1 (by omega)
    rw [Tm.strip_f,hkl] at hr
    rw [hkl] at h1
    refine ⟨a',c',w',hr,?_,(hbr.trans (hw1.mono hbr.size)).trans h2⟩
    rw [List.take_add_one,HS.out,List.map_append]
    exact h1
   clear ho hT
   go_wp2_with (first
    | (go_at_call 25;refine HCall.out.mono ?_;rintro e w1 hcs;obtain ⟨a1,n1,c1,rfl,ht1,hb1'⟩:=hcs.tat HF.out;rw [World.size_alloc] at ht1;obtain ⟨a2,c2,w2,hr2,ho2,hb2⟩:=HApp.out w1 a1 n1 c1 (bN hb1 hb1') ht1;clear hcs ht1)
    | (at_builtin;refine G0 _ rfl _ _ _ rfl _ _ rfl rfl _ _ hr2 ?_))
   go_wp2
   go_roundw
   case rel=>exact ⟨k+1,_,_,rfl,by go_num,by omega,ho2,hb2⟩
   case measure=>simp [intOf];omega
  ·have HE:Hid (l.take k=l):=List.take_of_length_le (by have:=HL.out;omega)
   rw [HE.out] at ho
   have HK:Hid (k=l.length):=by show _=_;have:=HL.out;omega
   go_wp2
   go_ret
   exact ⟨av,cv,by rw [←HK.out];rfl,by rw [←HK.out];exact ho,hbr⟩
theorem E1 {W:World} {g:Nat} {x y:Value} {t:TypeId} (h:W.heap[g]?=some (.cells #[x,y] t (0,0))) (x' y':Value):((W.setCell ⟨g,0,none⟩ x').setCell ⟨g,1,none⟩ y').heap[g]?=some (.cells #[x',y'] t (0,0)):=by
 obtain ⟨hlt,hk⟩:=Array.getElem?_eq_some_iff.1 h
 have h1:(W.setCell ⟨g,0,none⟩ x').heap[g]?=some (.cells #[x',y] t (0,0)):=by
  show (W.heap.modify g _)[g]?=_
  rw [Array.getElem?_eq_getElem (by rw [Array.size_modify];exact hlt),Array.getElem_modify_self,hk]
  rfl
 obtain ⟨hlt2,hk2⟩:=Array.getElem?_eq_some_iff.1 h1
 show ((W.setCell ⟨g,0,none⟩ x').heap.modify g _)[g]?=_
 rw [Array.getElem?_eq_getElem (by rw [Array.size_modify];exact hlt2),Array.getElem_modify_self,hk2]
 rfl
theorem I4 {w:World} {b:Nat} {x y:Value} {t:TypeId} (h:w.heap[b]?=some (.cells #[x,y] t (0,0))):w.frozen? ⟨b,0,none⟩=false∧w.frozen? ⟨b,1,none⟩=false:=by
 constructor<;>simp [World.frozen?,h]
theorem V8 {tmps:Array Value} {w:World} {g:Nat} {x y:Value} (hp:tmps.getD 2 undef = .pointer (some ⟨g,0,none⟩)) (hg:w.heap[g]?=some (.cells #[x,y] 37 (0,0))) :
  (results Tryz.f25 tmps).run Tryz.prog w = .ok (.agg #[x,y]) w:=by
 have hp':tmps[2]?.getD undef = .pointer (some ⟨g,0,none⟩):=by simpa using hp
 simp [results,hp',asAddr,run_loadVar_row w g _ 37 #[x,y] (0,0) _ hg Tryz.underlying37 rfl G9]
set_option maxRecDepth 100000 in
set_option maxHeartbeats 800000 in
theorem b1e {U:Nat→Prop}:∀ (t:Tm) (a:Option Addr) (n c:Nat) (w:World),Tat U w t a n c→t.size≤90000000000→Calls Tryz.prog 25 #[.agg #[.int .i64 t.f,.slice a n c]] w (CloneSays w t):=by
 intro t
 induction t using Tm.indp with
 | h t ih =>
  intro a n c w ht hsz
  obtain ⟨w0,hw0⟩:∃ w0,w0=(w.alloc (.cells #[.int .i64 t.f,.slice a n c] 37)).alloc (.cells #[.int .i64 0,.slice none 0 0] 37):=⟨_,rfl⟩
  have HX:Hid (∀ w1,Below w0.heap.size w0 w1→w1.heap[w.heap.size+1]?=some (.cells #[.int .i64 0,.slice none 0 0] 37 (0,0))):=fun w1 hb=>by
   have h1:=World.alloc_heap_new (w.alloc (.cells #[.int .i64 t.f,.slice a n c] 37)) (.cells #[.int .i64 0,.slice none 0 0] 37)
   rw [World.size_alloc,←hw0] at h1
   exact (hb.block _ (Array.getElem?_eq_some_iff.1 h1).1).trans h1
  have HB:Hid (∀ w1,Below w0.heap.size w0 w1→((w1.cell? ⟨w.heap.size,0,none⟩=some (.int .i64 t.f)∧w1.cell? ⟨w.heap.size,1,none⟩=some (.slice a n c))∧(w1.cell? ⟨w.heap.size+1,0,none⟩=some (.int .i64 0)∧w1.cell? ⟨w.heap.size+1,1,none⟩=some (.slice none 0 0)))∧(w1.frozen? ⟨w.heap.size+1,0,none⟩=false∧w1.frozen? ⟨w.heap.size+1,1,none⟩=false)):=fun w1 hb=>by
   refine ⟨?_,I4 (HX.out w1 hb)⟩
   rw [hw0] at hb;exact b6f hb
  have HW:=K3 hw0
  have HB0:Hid (Below w.heap.size w w0):=by rw [hw0];exact bA (bA (bW _) _) _
  clear hw0
  have HP:Hid (∀ w1,Below w0.heap.size w0 w1→Calls Tryz.prog 43 #[.agg #[.int .i64 t.f,.slice a n c]] w1 fun e w'=>Below w1.heap.size w1 w'∧∃ a' n' c',e = .returned (.slice a' n' c')∧Las U w' t.ps a' n' c'):=fun w1 hb=>H1 (ht.bw (bN HB0.out hb))
  have hlp:=t.len_ps
  have HC:Hid (∀ w1 a' n' c',Las U w1 t.ps a' n' c'→Calls Tryz.prog 31 #[.slice a' n' c'] w1 fun e w'=>∃ a c,e = .returned (.slice a t.ps.length c)∧OwnT 37 (fun b=>w1.heap.size≤b) w' w1.heap.size (.slice a t.ps.length c) (t.ps.map Tm.strip)∧Below w1.heap.size w1 w'):=fun w1 a' n' c' h=>a5o h (by have:=h.1;omega) (fun s hs a n c w' h'=>ih s hs a n c w' h' (by have:=Tm.size_part hs;omega))
  have HST:Hid (∀ w1 x y,Below w0.heap.size w0 w1→((w1.setCell ⟨w.heap.size+1,0,none⟩ x).setCell ⟨w.heap.size+1,1,none⟩ y).cell? ⟨w.heap.size,0,none⟩=some (.int .i64 t.f)∧((w1.setCell ⟨w.heap.size+1,0,none⟩ x).setCell ⟨w.heap.size+1,1,none⟩ y).cell? ⟨w.heap.size,1,none⟩=some (.slice a n c)):=fun w1 x y hb=>by
   have h1:=(HB.out w1 hb).1.1
   have h2:((w1.setCell ⟨w.heap.size+1,0,none⟩ x).setCell ⟨w.heap.size+1,1,none⟩ y).heap[w.heap.size]?=w1.heap[w.heap.size]?:=by
    rw [Below.heap_setCell _ _ _ _ (by show w.heap.size≠w.heap.size+1;omega),Below.heap_setCell _ _ _ _ (by show w.heap.size≠w.heap.size+1;omega)]
   exact ⟨(I1 h2).trans h1.1,(I1 h2).trans h1.2⟩
  have hq:Below w0.heap.size w0 w0:=bW _
  obtain ⟨⟨⟨c1,c2⟩,c3,c4⟩,c5,c6⟩:=HB.out w0 hq
  clear ih ht
  go_enter Tryz.func25,Tryz.ntmps25
  go_wp2_with fail
  rw [←HW.out]
  go_region_held3 (fun w'=>w'.cell? ⟨w.heap.size,0,none⟩=some (.int .i64 t.f)∧w'.cell? ⟨w.heap.size,1,none⟩=some (.slice a n c)) (first | (refine (HB.out _ ?_).1.1;with_reducible exact hq) | (refine (HB.out _ ?_).1.1;with_reducible exact bD hq) | (refine HST.out _ _ _ ?_;with_reducible exact hq))
   (first
    | (go_at_call 43;refine (HP.out _ (by first | with_reducible exact hq | with_reducible exact bD hq)).mono ?_;rintro e w2 ⟨hb2,a2,n2,c2,rfl,hl2⟩;replace hq:=bN (by first | with_reducible exact hq | with_reducible exact bD hq) hb2;clear hb2;dsimp only)
    | (go_at_call 31;refine (HC.out _ _ _ _ hl2).mono ?_;rintro e w3 ⟨a3,c3,rfl,ho3,hb3⟩;have hq2:=hq;replace hq:=bN (by first | with_reducible exact hq | with_reducible exact bD hq) hb3;obtain ⟨⟨_,d3,d4⟩,d5,d6⟩:=HB.out _ hq;dsimp only))
  go_wp2_with fail
  refine bodyPost_ret (V8 (g:=w.heap.size+1) rfl (E1 (HX.out _ hq) _ _)) rfl ?_
  have hle:w0.heap.size≤w2.heap.size:=hq2.size
  have hw0:w0.heap.size=w.heap.size+2:=by rw [HW.out];simp
  refine ⟨a3,c3,rfl,?_,?_⟩
  ·refine (ho3.keep (fun b h=>h) fun b hb hlt=>?_).mono (by omega) (fun b h=>by omega)
   rw [Below.heap_setCell _ _ _ _ (by show b≠w.heap.size+1;omega),Below.heap_setCell _ _ _ _ (by show b≠w.heap.size+1;omega)]
  ·exact ((bN HB0.out hq).setCell (p:=⟨w.heap.size+1,0,none⟩) (by show w.heap.size≤w.heap.size+1;omega) _).setCell (p:=⟨w.heap.size+1,1,none⟩) (by show w.heap.size≤w.heap.size+1;omega) _
end Go.Proofs.YtekboofbedakcaaGreat
namespace Go.Proofs.YtekboofbedakcaaGreat
open Go.RowKit
set_option linter.unusedVariables false
def a1W (R:Nat→List Value):Nat→List Value
 | 0=>[]
 | k+1=>a1W R k++R k
def a2g (L:Nat→Nat):Nat→Nat
 | 0=>0
 | k+1=>a2g L k+L k
theorem a9H (L:Nat→Nat) {k m:Nat} (h:k≤m):a2g L k≤a2g L m:=by
 induction h with
 | refl=>exact Nat.le_refl _
 | step h ih=>rw [a2g];omega
def Rw (size:Nat) (w:World) (a:Option Addr) (m:Nat) (A:Nat→Option Addr) (L C:Nat→Nat) (R:Nat→List Value):Prop:=
 (∀ r,r<m→(A r=none→L r=0∧C r=0)∧Cs w (A r) (R r)∧(R r).length=L r*size∧(∀ u∈R r,u.oneCell'=true)) ∧
 (m=0∨∃ b off,a=some ⟨b,off,none⟩∧b<w.heap.size∧∀ r,r<m→w.cell? ⟨b,off+r,none⟩=some (.slice (A r) (L r) (C r)))
theorem Rw.below {B size:Nat} {w w':World} {a:Option Addr} {m:Nat} {A:Nat→Option Addr} {L C:Nat→Nat} {R:Nat→List Value} (h:Rw size w a m A L C R) (hb:Below B w w') (hB:w.heap.size≤B):Rw size w' a m A L C R:=by
 refine ⟨fun r hr=>⟨(h.1 r hr).1,(h.1 r hr).2.1.below hb hB,(h.1 r hr).2.2⟩,?_⟩
 rcases h.2 with h0 | ⟨b,off,rfl,hlt,hc⟩
 ·exact .inl h0
 ·exact .inr ⟨b,off,rfl,Nat.lt_of_lt_of_le hlt hb.size,fun r hr=>by rw [hb.cell (by show b<B;omega)];exact hc r hr⟩
theorem a3I:(Tryz.prog.info? 3).map (fun i=>(i.zero,i.size,i.bytes))=some (some (.int .i64 0),1,8):=by kernel_rfl
set_option maxRecDepth 100000 in
set_option maxHeartbeats 400000 in
theorem b0K (n:Nat) (hn:n≤4398046511104) (w:World) :
  Calls Tryz.prog 83 #[.slice none 0 0,.int .i64 (n:Int)] w fun e w'=>∃ v,e = .returned v∧w'.ownsRow w.heap.size 3 1 v 0 []∧Below w.heap.size w w':=by
 obtain ⟨i,hi1,hi2,hi3,hi4⟩:=info_parts a3I
 rcases Nat.eq_zero_or_pos n with rfl | h0
 ·go_enter Tryz.func83,Tryz.ntmps83
  go_wp2
  go_ret
  exact ⟨_,rfl,World.ownsRow_nil _ _ _ _,bW _⟩
 ·have hr:=Lib.run_append_nil_zeros (P:=Tryz.prog) w 45 3 45 3 i (.int .i64 0) .i64 .i64 Tryz.underlying45 Tryz.underlying3 hi1 hi2 n h0 (by rw [hi3];omega) (by omega) (by rw [hi4];omega)
  go_enter Tryz.func83,Tryz.ntmps83
  go_wp2_with (at_builtin;refine Lib.wpList_append_run _ rfl _ _ _ _ rfl _ _ rfl rfl _ _ hr ?_)
  go_wp2
  go_ret
  refine ⟨_,rfl,World.ownsRow_made w.drew _ _ (Nat.le_refl _) (grownCap_le_maxLen _ _ _ _ (by unfold maxLen;omega)) ?_,(Below.refl _ _).drew.alloc (Nat.le_refl _) _⟩
  have:=grownCap_ge w n 0 3
  simp [size_zeroCells]
  try omega
set_option maxRecDepth 100000 in
set_option maxHeartbeats 800000 in
theorem a6K (a:Option Addr) (m c:Nat) (A:Nat→Option Addr) (L C:Nat→Nat) (R:Nat→List Value) (w:World) (hr:Rw 1 w a m A L C R) (hm:m≤1000) (hs:a2g L m≤1099511627776) :
  Calls Tryz.prog 47 #[.slice a m c] w fun e w'=>∃ v,e = .returned v∧w'.ownsRow w.heap.size 3 1 v (a2g L m) (a1W R m)∧Below w.heap.size w w':=by
 obtain ⟨J,hJ⟩:∃ J:Nat→List Value,J=a1W R:=⟨_,rfl⟩
 obtain ⟨N,hN⟩:∃ N:Nat→Nat,N=a2g L:=⟨_,rfl⟩
 have HS:Hid (∀ k,J (k+1)=J k++R k):=fun k=>by rw [hJ];rfl
 have HSN:Hid (∀ k,N (k+1)=N k+L k):=fun k=>by rw [hN];rfl
 have HJ0:Hid (J 0=[]∧N 0=0):=by rw [hJ,hN];exact ⟨rfl,rfl⟩
 have HL:Hid (∀ k,k≤m→N k≤1099511627776):=fun k hk=>by rw [hN];exact Nat.le_trans (a9H L hk) hs
 have HR:Hid (∀ B w',Below B w w'→w.heap.size≤B→Rw 1 w' a m A L C R):=fun B w' hb hB=>hr.below hb hB
 have HR0:Hid (Rw 1 w a m A L C R):=hr
 rw [←hJ,←hN]
 clear hJ hs hr hN
 go_enter Tryz.func47,Tryz.ntmps47
 go_wp2
 go_loop [3,11] (fun s i=>∃ k x:Nat,i = .int .i64 (k:Int)∧k≤m∧s = .int .i64 (x:Int)∧x=N k) (fun s i=>m-(intOf i).toNat)
 case atStart=>exact ⟨0,0,rfl,by omega,rfl,by rw [HJ0.out.2]⟩
 case round =>
  obtain ⟨k,x,rfl,hk,rfl,hx⟩:=hrel
  have HX:Hid (x=N k):=hx
  have hx1:x≤1099511627776:=by rw [hx];exact HL.out k hk
  clear hx
  by_cases hlt:k<m
  ·rcases HR0.out.2 with h0 | ⟨b,off,rfl,hb,hc⟩
   ·omega
   have hck:=hc k hlt
   have HXX:Hid (x+L k=N (k+1)):=by show x+L k=_;rw [HSN.out k,←HX.out]
   have hx2:x+L k≤1099511627776:=by rw [HXX.out];exact HL.out (k+1) hlt
   obtain ⟨Lk,hLk⟩:∃ y,L k=y:=⟨_,rfl⟩
   obtain ⟨Ak,hAk⟩:∃ y,A k=y:=⟨_,rfl⟩
   obtain ⟨Ck,hCk⟩:∃ y,C k=y:=⟨_,rfl⟩
   rw [hLk] at HXX hx2
   rw [hLk,hAk,hCk] at hck
   clear hLk hAk hCk hc
   go_wp2
   refine ⟨⟨k+1,x+Lk,by go_num,by omega,by go_num,HXX.out⟩,?_⟩
   simp [intOf];omega
  ·obtain rfl:k=m:=by omega
   go_wp2_with fail
   refine (b0K x (by omega) w).mono ?_
   rintro e w1 ⟨v1,rfl,ho1,hb1⟩
   go_wp2
   go_loopw [6,27] (fun u i wr=>∃ j:Nat,i = .int .i64 (j:Int)∧j≤k∧wr.ownsRow w.heap.size 3 1 u (N j) (J j)∧Below w.heap.size w wr) (fun _ i _=>k-(intOf i).toNat)
   case atStart=>exact ⟨0,rfl,by omega,by rw [HJ0.out.1,HJ0.out.2];exact ho1,hb1⟩
   case round =>
    obtain ⟨j,rfl,hj,hoj,hbj⟩:=hrel
    by_cases hlt:j<k
    ·obtain ⟨hn1,hbs,hRl,hone⟩:=(HR.out _ _ hbj (Nat.le_refl _)).1 j hlt
     rcases (HR.out _ _ hbj (Nat.le_refl _)).2 with h0 | ⟨b,off,rfl,hb,hc⟩
     ·omega
     have hck:=hc j hlt
     have hJl:N j+L j≤1099511627776:=by
      have:=HL.out (j+1) hlt
      rw [HSN.out j] at this
      exact this
     have HSj':Hid (J (j+1)=J j++R j∧N (j+1)=N j+L j):=⟨HS.out j,HSN.out j⟩
     obtain ⟨Lk,hLk⟩:∃ y,L j=y:=⟨_,rfl⟩
     obtain ⟨Ak,hAk⟩:∃ y,A j=y:=⟨_,rfl⟩
     obtain ⟨Ck,hCk⟩:∃ y,C j=y:=⟨_,rfl⟩
     obtain ⟨Rk,hRk⟩:∃ y,R j=y:=⟨_,rfl⟩
     obtain ⟨Jk,hJk⟩:∃ y,J j=y:=⟨_,rfl⟩
     obtain ⟨Nk,hNk⟩:∃ y,N j=y:=⟨_,rfl⟩
     rw [hAk,hRk] at hbs
     rw [hRk] at hone
     rw [hLk,hRk] at hRl
     rw [hLk,hAk,hCk] at hck
     rw [hLk,hAk,hCk] at hn1
     rw [hJk,hRk,hNk,hLk] at HSj'
     rw [hJk,hNk] at hoj
     rw [hNk,hLk] at hJl
     have hsz:=hbj.size
     have HRl:=K3 hRl
     clear hLk hAk hCk hRk hJk hNk hc hRl
     go_wp2_with (at_builtin;refine G6 _ rfl _ _ 45 rfl w.heap.size 3 (.int .i64 0) 1 8 Tryz.underlying45 a3I rfl (by decide) _ Nk Jk rfl hoj Ak Lk Ck Rk rfl hn1 hbs HRl.out hone ?d1 ?d2 hsz ?_)
     case d1=>unfold maxLen;omega
     case d2=>omega
     intro v2 w2 ho2 hg2
     have hb2:=hbj.trans (a1A hoj hg2 hsz)
     clear hg2
     go_wp2
     go_roundw
     case rel=>exact ⟨j+1,by go_num,hlt,by rw [HSj'.out.1,HSj'.out.2];exact ho2,hb2⟩
     case measure=>simp [intOf];omega
    ·obtain rfl:j=k:=by omega
     go_wp2
     go_ret
     exact ⟨_,rfl,hoj,hbj⟩
set_option maxRecDepth 100000 in
set_option maxHeartbeats 400000 in
theorem b0W (n:Nat) (hn:n≤4398046511104) (w:World) :
  Calls Tryz.prog 48 #[.slice none 0 0,.int .i64 (n:Int)] w fun e w'=>∃ v,e = .returned v∧w'.ownsRow w.heap.size 37 2 v 0 []∧Below w.heap.size w w':=by
 obtain ⟨i,hi1,hi2,hi3,hi4⟩:=info_parts a0J
 rcases Nat.eq_zero_or_pos n with rfl | h0
 ·go_enter Tryz.func48,Tryz.ntmps48
  go_wp2
  go_ret
  exact ⟨_,rfl,World.ownsRow_nil _ _ _ _,bW _⟩
 ·have hr:=Lib.run_append_nil_zeros (P:=Tryz.prog) w 35 3 35 37 i (.agg #[.int .i64 0,.slice none 0 0]) .i64 .i64 Tryz.underlying35 Tryz.underlying3 hi1 hi2 n h0 (by rw [hi3];omega) (by omega) (by rw [hi4];omega)
  go_enter Tryz.func48,Tryz.ntmps48
  go_wp2_with (at_builtin;refine Lib.wpList_append_run _ rfl _ _ _ _ rfl _ _ rfl rfl _ _ hr ?_)
  go_wp2
  go_ret
  refine ⟨_,rfl,World.ownsRow_made w.drew _ _ (Nat.le_refl _) (grownCap_le_maxLen _ _ _ _ (by unfold maxLen;omega)) ?_,(Below.refl _ _).drew.alloc (Nat.le_refl _) _⟩
  have:=grownCap_ge w n 0 37
  simp [size_zeroCells]
  try omega
set_option maxRecDepth 100000 in
set_option maxHeartbeats 800000 in
theorem a6w (a:Option Addr) (m c:Nat) (A:Nat→Option Addr) (L C:Nat→Nat) (R:Nat→List Value) (w:World) (hr:Rw 2 w a m A L C R) (hm:m≤1000) (hs:a2g L m≤1099511627776) :
  Calls Tryz.prog 30 #[.slice a m c] w fun e w'=>∃ v,e = .returned v∧w'.ownsRow w.heap.size 37 2 v (a2g L m) (a1W R m)∧Below w.heap.size w w':=by
 obtain ⟨J,hJ⟩:∃ J:Nat→List Value,J=a1W R:=⟨_,rfl⟩
 obtain ⟨N,hN⟩:∃ N:Nat→Nat,N=a2g L:=⟨_,rfl⟩
 have HS:Hid (∀ k,J (k+1)=J k++R k):=fun k=>by rw [hJ];rfl
 have HSN:Hid (∀ k,N (k+1)=N k+L k):=fun k=>by rw [hN];rfl
 have HJ0:Hid (J 0=[]∧N 0=0):=by rw [hJ,hN];exact ⟨rfl,rfl⟩
 have HL:Hid (∀ k,k≤m→N k≤1099511627776):=fun k hk=>by rw [hN];exact Nat.le_trans (a9H L hk) hs
 have HR:Hid (∀ B w',Below B w w'→w.heap.size≤B→Rw 2 w' a m A L C R):=fun B w' hb hB=>hr.below hb hB
 have HR0:Hid (Rw 2 w a m A L C R):=hr
 rw [←hJ,←hN]
 clear hJ hs hr hN
 go_enter Tryz.func30,Tryz.ntmps30
 go_wp2
 go_loop [3,11] (fun s i=>∃ k x:Nat,i = .int .i64 (k:Int)∧k≤m∧s = .int .i64 (x:Int)∧x=N k) (fun s i=>m-(intOf i).toNat)
 case atStart=>exact ⟨0,0,rfl,by omega,rfl,by rw [HJ0.out.2]⟩
 case round =>
  obtain ⟨k,x,rfl,hk,rfl,hx⟩:=hrel
  have HX:Hid (x=N k):=hx
  have hx1:x≤1099511627776:=by rw [hx];exact HL.out k hk
  clear hx
  by_cases hlt:k<m
  ·rcases HR0.out.2 with h0 | ⟨b,off,rfl,hb,hc⟩
   ·omega
   have hck:=hc k hlt
   have HXX:Hid (x+L k=N (k+1)):=by show x+L k=_;rw [HSN.out k,←HX.out]
   have hx2:x+L k≤1099511627776:=by rw [HXX.out];exact HL.out (k+1) hlt
   obtain ⟨Lk,hLk⟩:∃ y,L k=y:=⟨_,rfl⟩
   obtain ⟨Ak,hAk⟩:∃ y,A k=y:=⟨_,rfl⟩
   obtain ⟨Ck,hCk⟩:∃ y,C k=y:=⟨_,rfl⟩
   rw [hLk] at HXX hx2
   rw [hLk,hAk,hCk] at hck
   clear hLk hAk hCk hc
   go_wp2
   refine ⟨⟨k+1,x+Lk,by go_num,by omega,by go_num,HXX.out⟩,?_⟩
   simp [intOf];omega
  ·obtain rfl:k=m:=by omega
   go_wp2_with fail
   refine (b0W x (by omega) w).mono ?_
   rintro e w1 ⟨v1,rfl,ho1,hb1⟩
   go_wp2
   go_loopw [6,27] (fun u i wr=>∃ j:Nat,i = .int .i64 (j:Int)∧j≤k∧wr.ownsRow w.heap.size 37 2 u (N j) (J j)∧Below w.heap.size w wr) (fun _ i _=>k-(intOf i).toNat)
   case atStart=>exact ⟨0,rfl,by omega,by rw [HJ0.out.1,HJ0.out.2];exact ho1,hb1⟩
   case round =>
    obtain ⟨j,rfl,hj,hoj,hbj⟩:=hrel
    by_cases hlt:j<k
    ·obtain ⟨hn1,hbs,hRl,hone⟩:=(HR.out _ _ hbj (Nat.le_refl _)).1 j hlt
     rcases (HR.out _ _ hbj (Nat.le_refl _)).2 with h0 | ⟨b,off,rfl,hb,hc⟩
     ·omega
     have hck:=hc j hlt
     have hJl:N j+L j≤1099511627776:=by
      have:=HL.out (j+1) hlt
      rw [HSN.out j] at this
      exact this
     have HSj':Hid (J (j+1)=J j++R j∧N (j+1)=N j+L j):=⟨HS.out j,HSN.out j⟩
     obtain ⟨Lk,hLk⟩:∃ y,L j=y:=⟨_,rfl⟩
     obtain ⟨Ak,hAk⟩:∃ y,A j=y:=⟨_,rfl⟩
     obtain ⟨Ck,hCk⟩:∃ y,C j=y:=⟨_,rfl⟩
     obtain ⟨Rk,hRk⟩:∃ y,R j=y:=⟨_,rfl⟩
     obtain ⟨Jk,hJk⟩:∃ y,J j=y:=⟨_,rfl⟩
     obtain ⟨Nk,hNk⟩:∃ y,N j=y:=⟨_,rfl⟩
     rw [hAk,hRk] at hbs
     rw [hRk] at hone
     rw [hLk,hRk] at hRl
     rw [hLk,hAk,hCk] at hck
     rw [hLk,hAk,hCk] at hn1
     rw [hJk,hRk,hNk,hLk] at HSj'
     rw [hJk,hNk] at hoj
     rw [hNk,hLk] at hJl
     have hsz:=hbj.size
     have HRl:=K3 hRl
     clear hLk hAk hCk hRk hJk hNk hc hRl
     go_wp2_with (at_builtin;refine G6 _ rfl _ _ 35 rfl w.heap.size 37 (.agg #[.int .i64 0,.slice none 0 0]) 2 32 Tryz.underlying35 a0J rfl (by decide) _ Nk Jk rfl hoj Ak Lk Ck Rk rfl hn1 hbs HRl.out hone ?d1 ?d2 hsz ?_)
     case d1=>unfold maxLen;omega
     case d2=>omega
     intro v2 w2 ho2 hg2
     have hb2:=hbj.trans (a1A hoj hg2 hsz)
     clear hg2
     go_wp2
     go_roundw
     case rel=>exact ⟨j+1,by go_num,hlt,by rw [HSj'.out.1,HSj'.out.2];exact ho2,hb2⟩
     case measure=>simp [intOf];omega
    ·obtain rfl:j=k:=by omega
     go_wp2
     go_ret
     exact ⟨_,rfl,hoj,hbj⟩
end Go.Proofs.YtekboofbedakcaaGreat
namespace Go.Proofs.YtekboofbedakcaaGreat
open Go.RowKit
set_option linter.unusedVariables false
set_option linter.unusedSimpArgs false
def a2V:List (List (List Int))→Nat→List (List Int)
 | [],_=>[]
 | ps::rest,k=>ps.map (fun p=>(k:Int)::p)++a2V rest (k+1)
def Tm.places:Tm→List (List Int)
 | ⟨f,l⟩=>[]::(if f<0 then [] else a2V (l.map Tm.places) 0)
def Tm.placesL (l:List Tm) (k:Nat):List (List Int):=a2V (l.map Tm.places) k
theorem R6 (k:Nat):Tm.placesL [] k=[]:=rfl
theorem E3 (t:Tm) (ts:List Tm) (k:Nat):Tm.placesL (t::ts) k=t.places.map (fun p=>(k:Int)::p)++Tm.placesL ts (k+1):=rfl
theorem Tm.places_eq (t:Tm):t.places=[]::Tm.placesL t.ps 0:=by
 cases t with
 | mk f l =>
  rw [Tm.places]
  unfold Tm.ps
  simp only
  by_cases h:f<0<;>simp [h,Tm.placesL,a2V]
theorem Tm.placesL_snoc:∀ (l:List Tm) (s:Tm) (k:Nat),Tm.placesL (l++[s]) k=Tm.placesL l k++s.places.map (fun p=>((k+l.length:Nat):Int)::p)
 | [],s,k=>by simp [E3,R6]
 | t::ts,s,k=>by
  rw [List.cons_append,E3,E3,Tm.placesL_snoc ts s (k+1),List.append_assoc,List.length_cons,show k+1+ts.length=k+(ts.length+1) by omega]
theorem Tm.places_len (t:Tm):t.places.length=t.size:=by
 induction t using Tm.indp with
 | h t ih =>
  rw [Tm.places_eq,t.size_eq,List.length_cons]
  have:∀ (l:List Tm) (k:Nat),(∀ s∈l,s.places.length=s.size)→(Tm.placesL l k).length=(l.flatMap Tm.flat).length:=by
   intro l
   induction l with
   | nil=>intro k _;rfl
   | cons y ys ih2 =>
    intro k hl
    have h1:=hl y (by simp)
    unfold Tm.size at h1
    rw [E3,List.flatMap_cons,List.length_append,List.length_append,List.length_map,h1,ih2 _ (fun s hs=>hl s (List.mem_cons_of_mem _ hs))]
  rw [this _ _ ih]
  omega
structure Pr where
 a:Option Addr
 n:Nat
 c:Nat
 p:List Int
def Pr.v (x:Pr):Value := .slice x.a x.n x.c
def a2e (p:List Int):List Value:=p.map fun z => .int .i64 z
def Pr.ok (U:Nat→Prop) (w:World) (x:Pr):Prop:=x.n=x.p.length∧x.n≤x.c∧x.c≤maxLen∧(x.a=none→x.n=0∧x.c=0)∧Cu U w x.a (a2e x.p)
theorem Pr.ok.keep {U V:Nat→Prop} {w w':World} {x:Pr} (h:x.ok U w) (hs:∀ b,U b→b<w.heap.size→V b∧w'.heap[b]?=w.heap[b]?):x.ok V w':=⟨h.1,h.2.1,h.2.2.1,h.2.2.2.1,h.2.2.2.2.keep hs⟩
theorem b3J (p:List Int):∀ u∈a2e p,u.oneCell'=true:=by
 intro u hu
 obtain ⟨z,_,rfl⟩:=List.mem_map.1 hu
 rfl
def PsT (w:World) (base:Nat) (v:Value) (ps:List (List Int)):Prop:=
 ∃ xs:List Pr,w.ownsRow base 45 1 v ps.length (xs.map Pr.v)∧xs.map Pr.p=ps∧∀ x∈xs,x.ok (fun b=>base≤b∧v.ownBlock≠some b) w
theorem b0S:(Tryz.prog.info? 45).map (fun i=>(i.zero,i.size,i.bytes))=some (some (.slice none 0 0),1,24):=by kernel_rfl
def Onto (v v':Value) (w w':World):Prop:=w.heap.size≤w'.heap.size∧(∀ b,b<w.heap.size→v.ownBlock≠some b→w'.heap[b]?=w.heap[b]?)∧∀ g,v'.ownBlock=some g→v.ownBlock=some g∨w.heap.size≤g
theorem Onto.trans {v v1 v2:Value} {w w1 w2:World} (h:Onto v v1 w w1) (k:Onto v1 v2 w1 w2):Onto v v2 w w2:=by
 refine ⟨Nat.le_trans h.1 k.1,fun b hb hne=>?_,fun g hg=>?_⟩
 ·rw [k.2.1 b (Nat.lt_of_lt_of_le hb h.1) (fun e=>?_),h.2.1 b hb hne]
  rcases h.2.2 b e with e' | e'
  ·exact hne e'
  ·omega
 ·rcases k.2.2 g hg with e | e
  ·exact h.2.2 g e
  ·have:=h.1;exact .inr (by omega)
theorem Onto.of_below {v:Value} {w w':World} (h:Below w.heap.size w w'):Onto v v w w':=⟨h.size,fun b hb _=>h.block b hb,fun g hg => .inl hg⟩
theorem PsT.bw {w w':World} {base:Nat} {v:Value} {ps:List (List Int)} (h:PsT w base v ps) (hb:Below w.heap.size w w'):PsT w' base v ps:=by
 obtain ⟨xs,h1,h2,h3⟩:=h
 exact ⟨xs,C5 h1 hb (Nat.le_refl _),h2,fun x hx=>(h3 x hx).keep fun b hb' hlt=>⟨hb',hb.block b hlt⟩⟩
theorem b0A {w:World} {B:Nat} (hB:B≤w.heap.size) {av:Option Addr} {cv:Nat} {ps:List (List Int)} {a:Option Addr} {n c:Nat} {p:List Int} (h:PsT w B (.slice av ps.length cv) ps) (hp:Pr.ok (fun b=>B≤b∧(Value.slice av ps.length cv).ownBlock≠some b) w ⟨a,n,c,p⟩) (hn:ps.length≤100000000000) :
  ∃ a' c' w',Sem.run Tryz.prog (Builtin.append_ #[41,41] 41 #[.slice av ps.length cv,.slice (some ⟨w.heap.size,0,none⟩) 1 1]) (w.alloc (.cells #[.slice a n c] 45)) = .ok (.slice a' (ps.length+1) c') w'∧PsT w' B (.slice a' (ps.length+1) c') (ps++[p])∧Below B w w'∧Onto (.slice av ps.length cv) (.slice a' (ps.length+1) c') w w':=by
 obtain ⟨xs,h1,h2,h3⟩:=h
 obtain ⟨a',c',w',hr,ho,hb,hk,hv⟩:=a3h (P:=Tryz.prog) hB 41 45 _ 1 24 Tryz.underlying41 b0S rfl (by decide) _ ps.length (xs.map Pr.v) [.slice a n c] h1 rfl (by simp [Value.oneCell']) hn (by decide)
 have hkeep:∀ b,(B≤b∧(Value.slice av ps.length cv).ownBlock≠some b)→b<w.heap.size→(B≤b∧(Value.slice a' (ps.length+1) c').ownBlock≠some b)∧w'.heap[b]?=w.heap[b]?:=fun b h3 h4=>by
  refine ⟨⟨h3.1,fun e=>?_⟩,hk b h4 h3.2⟩
  rcases hv b e with e' | e'
  ·exact h3.2 e'
  ·omega
 have hsz:w.heap.size≤w'.heap.size:=by
  rcases Nat.lt_or_ge w.heap.size B with h | h
  ·omega
  ·exact hb.size
 refine ⟨a',c',w',hr,⟨xs++[⟨a,n,c,p⟩],?_,?_,?_⟩,hb,hsz,hk,hv⟩
 ·rw [List.map_append,List.length_append]
  exact ho
 ·rw [List.map_append,h2];rfl
 ·intro x hx
  rcases List.mem_append.1 hx with hx | hx
  ·exact (h3 x hx).keep hkeep
  ·rw [List.mem_singleton.1 hx];exact hp.keep hkeep
theorem b0E {W:World} {b:Nat} {x y:Value} {t:TypeId} (h:W.heap[b]?=some (.cells #[x,y] t (0,0))):∀ r,r<2→W.cell? ⟨b,0+r,none⟩=some (if r=0 then x else y):=by
 intro r hr
 match r,hr with
 | 0,_=>simp [World.cell?,h]
 | 1,_=>simp [World.cell?,h]
theorem a4w {w:World} {b:Nat} {x y:Value} {t:TypeId} {fl:Nat×Nat} (h:w.heap[b]?=some (.cells #[x,y] t fl)):w.cell? ⟨b,0,none⟩=some x∧w.cell? ⟨b,1,none⟩=some y:=by
 constructor<;>simp [World.cell?,h]
theorem a5d {U:Nat→Prop} {W:World} {pa:Option Addr} {pn pc:Nat} {p:List Int} (k:Int) (hp:Pr.ok U W ⟨pa,pn,pc,p⟩) (hn:pn≤1000000000) :
  Calls Tryz.prog 47 #[.slice (some ⟨W.heap.size+1,0,none⟩) 2 2] ((W.alloc (.cells #[.int .i64 k] 3)).alloc (.cells #[.slice pa pn pc,.slice (some ⟨W.heap.size,0,none⟩) 1 1] 45)) fun e w'=>∃ a' c',e = .returned (.slice a' (pn+1) c')∧Pr.ok (fun b=>W.heap.size≤b) w' ⟨a',pn+1,c',p++[k]⟩∧Below W.heap.size W w':=by
 obtain ⟨W1,hW1⟩:∃ W1,W1=W.alloc (.cells #[.int .i64 k] 3):=⟨_,rfl⟩
 obtain ⟨W2,hW2⟩:∃ W2,W2=W1.alloc (.cells #[.slice pa pn pc,.slice (some ⟨W.heap.size,0,none⟩) 1 1] 45):=⟨_,rfl⟩
 have s1:W1.heap.size=W.heap.size+1:=by rw [hW1];simp
 have b1:Below W.heap.size W W1:=by rw [hW1];exact bA (bW _) _
 have b2:Below W1.heap.size W1 W2:=by rw [hW2];exact bA (bW _) _
 have hx1:W1.heap[W.heap.size]?=some (.cells #[.int .i64 k] 3 (0,0)):=by rw [hW1];exact World.alloc_heap_new _ _
 have hx2:W2.heap[W.heap.size+1]?=some (.cells #[.slice pa pn pc,.slice (some ⟨W.heap.size,0,none⟩) 1 1] 45 (0,0)):=by
  have:=World.alloc_heap_new W1 (.cells #[.slice pa pn pc,.slice (some ⟨W.heap.size,0,none⟩) 1 1] 45)
  rw [s1,←hW2] at this
  exact this
 have hx1':W2.heap[W.heap.size]?=some (.cells #[.int .i64 k] 3 (0,0)):=(b2.block _ (by omega)).trans hx1
 rw [←hW1,←hW2]
 have s2:W2.heap.size=W.heap.size+2:=by rw [hW2];simp;omega
 have hp2:=hp.keep (V:=U) (w':=W2) fun b h1 h2=>⟨h1,(bN b1 b2).block b h2⟩
 clear hW1 hW2
 have hrw:Rw 1 W2 (some ⟨W.heap.size+1,0,none⟩) 2 (fun r=>if r=0 then pa else some ⟨W.heap.size,0,none⟩) (fun r=>if r=0 then pn else 1) (fun r=>if r=0 then pc else 1) (fun r=>if r=0 then a2e p else [.int .i64 k]):=by
  refine ⟨fun r hr=>?_,.inr ⟨_,0,rfl,by omega,fun r hr=>?_⟩⟩
  ·match r,hr with
   | 0,_=>exact ⟨hp.2.2.2.1,hp2.2.2.2.2.cs,by have:=hp.1;simp [a2e] at *;omega,b3J p⟩
   | 1,_ =>
    refine ⟨(fun h=>by cases h),.inr ⟨W.heap.size,0,rfl,by omega,fun i hi=>?_⟩,rfl,fun u hu=>?_⟩
    ·have:i=0:=by simp at hi;exact hi
     subst this
     simp [World.cell?,hx1']
    ·rw [show u = .int .i64 k by simpa using hu];rfl
  ·rw [b0E hx2 r hr]
   match r,hr with
   | 0,_=>rfl
   | 1,_=>rfl
 refine (a6K _ 2 2 _ _ _ _ W2 hrw (by omega) (by simp [a2g];omega)).mono ?_
 rintro e w' ⟨v,rfl,ho,hb⟩
 have hl:a2g (fun r=>if r=0 then pn else 1) 2=pn+1:=by simp [a2g]
 have hj:a1W (fun r=>if r=0 then a2e p else [.int .i64 k]) 2=a2e (p++[k]):=by simp [a1W,a2e]
 rw [hl,hj] at ho
 obtain ⟨a',c',rfl,e2,e3,e4,e5⟩:=A3 ho
 refine ⟨a',c',rfl,⟨by have:=hp.1;simp at *;omega,e2,e3,e4,?_⟩,(bN (bN b1 b2) hb)⟩
 rcases e5 with h | ⟨b,off,ha,hlt,hc⟩
 ·exact .inl h
 ·refine .inr ⟨b,off,ha,?_,hlt,hc⟩
  subst ha
  rcases ho.2 with ⟨h3,_⟩ | ⟨g,cap,cur,h3,hb',_⟩
  ·cases h3
  ·cases h3;show W.heap.size≤b;omega
set_option maxRecDepth 100000 in
set_option maxHeartbeats 1000000 in
theorem a3Y {T:Nat→Prop} {B:Nat} (hTB:∀ b,T b→b<B) (t:Tm):∀ (av:Option Addr) (cv:Nat) (ps:List (List Int)) (pa:Option Addr) (pn pc:Nat) (p:List Int) (a:Option Addr) (n c:Nat) (w:World),B≤w.heap.size→PsT w B (.slice av ps.length cv) ps→Pr.ok (fun b=>B≤b∧(Value.slice av ps.length cv).ownBlock≠some b) w ⟨pa,pn,pc,p⟩→Tat T w t a n c→ps.length+t.size≤100000000→pn+t.size≤100000000 →
  Calls Tryz.prog 28 #[.slice av ps.length cv,.slice pa pn pc,.agg #[.int .i64 t.f,.slice a n c]] w fun e w'=>∃ a' c',e = .returned (.slice a' (ps.length+t.size) c')∧PsT w' B (.slice a' (ps.length+t.size) c') (ps++t.places.map (fun q=>p++q))∧Below B w w'∧Onto (.slice av ps.length cv) (.slice a' (ps.length+t.size) c') w w':=by
 induction t using Tm.indp with
 | h t ih =>
  intro av cv ps pa pn pc p a n c w hB hps hp ht hs1 hs2
  obtain ⟨w1,hw1⟩:∃ w1,w1=w.alloc (.cells #[.int .i64 t.f,.slice a n c] 37):=⟨_,rfl⟩
  have hb1:Below w.heap.size w w1:=by rw [hw1];exact bA (bW _) _
  have hx1:w1.heap[w.heap.size]?=some (.cells #[.int .i64 t.f,.slice a n c] 37 (0,0)):=by rw [hw1];exact World.alloc_heap_new _ _
  have hB1:B≤w1.heap.size:=Nat.le_trans hB hb1.size
  have hps1:=hps.bw hb1
  have hp1:=hp.keep (V:=fun b=>B≤b∧(Value.slice av ps.length cv).ownBlock≠some b) (w':=w1) fun b h h2=>⟨h,hb1.block b h2⟩
  have hs0:=t.size_pos
  obtain ⟨a2,c2,w2,hr2,hps2,hbB2,hon2⟩:=b0A hB1 hps1 hp1 (by omega)
  have hx2:w2.heap[w.heap.size]?=some (.cells #[.int .i64 t.f,.slice a n c] 37 (0,0)):=by
   refine (hon2.2.1 _ (Array.getElem?_eq_some_iff.1 hx1).1 (fun e=>?_)).trans hx1
   obtain ⟨xs,h1,_⟩:=hps
   have:=(h1.lt _ e).2
   omega
  obtain ⟨c1',c2'⟩:=a4w hx2
  have hon1:Onto (.slice av ps.length cv) (.slice a2 (ps.length+1) c2) w w2:=(Onto.of_below hb1).trans hon2
  have hbw2:Below B w w2:=(hb1.mono hB).trans hbB2
  have ht2:Tat T w2 t a n c:=ht.below hbw2 fun b h _=>hTB b h
  have hp2:Pr.ok (fun b=>B≤b∧(Value.slice a2 (ps.length+1) c2).ownBlock≠some b) w2 ⟨pa,pn,pc,p⟩:=hp.keep fun b h h2=>⟨⟨h.1,fun e=>by
   rcases hon1.2.2 b e with e' | e'
   ·exact h.2 e'
   ·omega⟩,hon1.2.1 b h2 h.2⟩
  have hB2:B≤w2.heap.size:=Nat.le_trans hB hon1.1
  rw [hw1,World.size_alloc] at hr2
  have HI:=K3 ih
  have HPL:=K3 t.places_eq
  have HSZ:=K3 t.places_len
  clear hw1 ih hps hps1 hp hp1 hx1 hon2 hbB2 ht hx2
  go_enter Tryz.func28,Tryz.ntmps28
  go_wp2_with (at_builtin;refine G0 _ rfl _ _ _ rfl _ _ rfl rfl _ _ hr2 ?_)
  refine (H1 ht2).mono ?_
  rintro e w3 ⟨hb3,a3,n3,c3,rfl,hl3⟩
  obtain ⟨Q,hQ⟩:∃ Q:Nat→List (List Int),Q=fun k=>ps++([]::Tm.placesL (t.ps.take k) 0).map (fun q=>p++q):=⟨_,rfl⟩
  have HQ0:Hid (Q 0=ps++[p]):=by show _=_;rw [hQ];simp [R6]
  have HQs:Hid (∀ k s,t.ps[k]?=some s→Q (k+1)=Q k++s.places.map (fun q=>(p++[(k:Int)])++q)):=fun k s hk=>by
   have hlt:k<t.ps.length:=by
    rcases Nat.lt_or_ge k t.ps.length with h | h
    ·exact h
    ·rw [List.getElem?_eq_none h] at hk;cases hk
   rw [hQ]
   simp only [List.take_add_one,hk,Option.toList_some,Tm.placesL_snoc,List.length_take,Nat.min_eq_left (Nat.le_of_lt hlt),Nat.zero_add]
   simp [List.map_append,Function.comp_def]
  have HQe:Hid (Q n3=ps++t.places.map (fun q=>p++q)):=by
   show _=_
   rw [hQ,t.places_eq]
   simp only [List.take_of_length_le (show t.ps.length≤n3 by have:=hl3.1;omega)]
  have HQm:Hid (∀ k s,t.ps[k]?=some s→(Q k).length+s.size≤ps.length+t.size):=fun k s hk=>by
   have h1:(Q (k+1)).length≤(Q n3).length:=by
    have hlt:k<t.ps.length:=by
     rcases Nat.lt_or_ge k t.ps.length with h | h
     ·exact h
     ·rw [List.getElem?_eq_none h] at hk;cases hk
    have:∀ j,k+1+j≤n3→(Q (k+1)).length≤(Q (k+1+j)).length:=by
     intro j
     induction j with
     | zero=>intro _;exact Nat.le_refl _
     | succ j ih2 =>
      intro hj
      have h3:=HQs.out (k+1+j) (t.ps[k+1+j]'(by have:=hl3.1;omega)) (by rw [List.getElem?_eq_getElem])
      rw [show k+1+(j+1)=k+1+j+1 by omega,h3,List.length_append]
      have:=ih2 (by omega)
      omega
    have h4:=this (n3-(k+1)) (by have:=hl3.1;omega)
    rw [show k+1+(n3-(k+1))=n3 by have:=hl3.1;omega] at h4
    exact h4
   rw [HQs.out k s hk,HQe.out,List.length_append,List.length_append,List.length_map,List.length_map,Tm.places_len,Tm.places_len] at h1
   exact h1
  have HQl:Hid ((Q n3).length=ps.length+t.size):=by show _=_;rw [HQe.out,List.length_append,List.length_map,Tm.places_len]
  clear hQ
  have HL3:=K3 hl3.len
  have hm3:n3≤9223372036854775807:=by have:=HL3.out;unfold maxLen at this;omega
  have hB3:B≤w3.heap.size:=Nat.le_trans hB2 hb3.size
  have hbw3:Below B w w3:=hbw2.trans (hb3.mono hB2)
  have HLs:Hid (∀ V,Below B w3 V→Las T V t.ps a3 n3 c3):=fun V h=>hl3.below h fun b hb _=>hTB b hb
  have hon3:Onto (.slice av ps.length cv) (.slice a2 (ps.length+1) c2) w w3:=hon1.trans (Onto.of_below hb3)
  have hps3:PsT w3 B (.slice a2 (ps.length+1) c2) (Q 0):=by rw [HQ0.out];exact hps2.bw hb3
  have hp3:=hp2.keep (V:=fun b=>B≤b∧(Value.slice a2 (ps.length+1) c2).ownBlock≠some b) (w':=w3) fun b h h2=>⟨h,hb3.block b h2⟩
  have HQ0l:Hid (ps.length+1=(Q 0).length):=by show _=_;rw [HQ0.out];simp
  rw [HQ0l.out] at hps3 hp3 hon3 ⊢
  have HOUT:Hid (∀ a0 c0 wr,PsT wr B (.slice a0 (Q n3).length c0) (Q n3)→Below B w3 wr→Onto (.slice a2 (Q 0).length c2) (.slice a0 (Q n3).length c0) w3 wr→∃ a' c',Ending.returned (.slice a0 (Q n3).length c0) = .returned (.slice a' (ps.length+t.size) c')∧PsT wr B (.slice a' (ps.length+t.size) c') (ps++t.places.map (fun q=>p++q))∧Below B w wr∧Onto (.slice av ps.length cv) (.slice a' (ps.length+t.size) c') w wr):=fun a0 c0 wr h1 h2 h3=>by
   rw [HQl.out] at h1 h3 ⊢
   rw [HQe.out] at h1
   exact ⟨a0,c0,rfl,h1,hbw3.trans h2,hon3.trans h3⟩
  clear hl3 hb3 hps2 hp2 ht2 c1' c2' hbw2 hbw3 hon1 hon3 hr2 hb1
  go_wp2
  go_loopw [0,16] (fun u i wr=>∃ (k:Nat) (a0:Option Addr) (c0:Nat),u = .slice a0 (Q k).length c0∧i = .int .i64 (k:Int)∧k≤n3∧PsT wr B (.slice a0 (Q k).length c0) (Q k)∧Pr.ok (fun b=>B≤b∧(Value.slice a0 (Q k).length c0).ownBlock≠some b) wr ⟨pa,pn,pc,p⟩∧Below B w3 wr∧Onto (.slice a2 (Q 0).length c2) (.slice a0 (Q k).length c0) w3 wr) (fun _ i _=>n3-(intOf i).toNat)
  case atStart=>exact ⟨0,a2,c2,rfl,rfl,by omega,hps3,hp3,Below.refl _ _,Onto.of_below (bW _)⟩
  case round =>
   obtain ⟨k,a0,c0,rfl,rfl,hk,hpsr,hpr,hbr,honr⟩:=hrel
   clear hps3 hp3
   by_cases hlt:k<n3
   ·obtain ⟨b,off,s,a',n',c',rfl,hU,hlt',hs,hT,e1,e2⟩:=(HLs.out wr hbr).at hlt
    have HS:=K3 hs
    clear hs
    have hBr:B≤wr.heap.size:=Nat.le_trans hB3 hbr.size
    obtain ⟨M,hM⟩:∃ M,M=(Q k).length:=⟨_,rfl⟩
    have HM:=K3 hM
    rw [←hM] at hpsr hpr honr ⊢
    clear hM
    obtain ⟨w4,hw4⟩:∃ w4,w4=wr.alloc (.cells #[.int .i64 s.f,.slice a' n' c'] 37):=⟨_,rfl⟩
    have hb4:Below wr.heap.size wr w4:=by rw [hw4];exact bA (bW _) _
    have hx4:w4.heap[wr.heap.size]?=some (.cells #[.int .i64 s.f,.slice a' n' c'] 37 (0,0)):=by rw [hw4];exact World.alloc_heap_new _ _
    have HW4:=K3 hw4
    clear hw4
    have hlt4:=(Array.getElem?_eq_some_iff.1 hx4).1
    have hown4:∀ g,(Value.slice a0 M c0).ownBlock=some g→g<wr.heap.size:=fun g hg=>by
     obtain ⟨xs,h1,_⟩:=hpsr
     exact (h1.lt g hg).2
    have HBX:Hid (∀ W:World,W.heap[wr.heap.size]?=w4.heap[wr.heap.size]?→W.cell? ⟨wr.heap.size,0,none⟩=some (.int .i64 s.f)∧W.cell? ⟨wr.heap.size,1,none⟩=some (.slice a' n' c')):=fun W h=>a4w (h.trans hx4)
    have hpn:pn≤1000000000:=by omega
    have hp4:Pr.ok (fun b=>B≤b∧(Value.slice a0 M c0).ownBlock≠some b) w4.drew ⟨pa,pn,pc,p⟩:=hpr.keep fun b h h2=>⟨h,hb4.block b h2⟩
    have HCC:Hid (Calls Tryz.prog 47 #[.slice (some ⟨w4.heap.size+1,0,none⟩) 2 2] ((w4.drew.alloc (.cells #[.int .i64 (k:Int)] 3)).alloc (.cells #[.slice pa pn pc,.slice (some ⟨w4.heap.size,0,none⟩) 1 1] 45)) fun e w'=>∃ a' c',e = .returned (.slice a' (pn+1) c')∧Pr.ok (fun b=>w4.heap.size≤b) w' ⟨a',pn+1,c',p++[(k:Int)]⟩∧Below w4.heap.size w4.drew w'):=a5d (W:=w4.drew) (k:Int) hp4 hpn
    have HAD:Hid (∀ w5 a5 c5,Below w4.heap.size w4 w5→Pr.ok (fun b=>w4.heap.size≤b) w5 ⟨a5,pn+1,c5,p++[(k:Int)]⟩→Calls Tryz.prog 28 #[.slice a0 M c0,.slice a5 (pn+1) c5,.agg #[.int .i64 s.f,.slice a' n' c']] w5 fun e w6=>∃ a6 c6,e = .returned (.slice a6 (Q (k+1)).length c6)∧w6.heap[wr.heap.size]?=w4.heap[wr.heap.size]?∧PsT w6 B (.slice a6 (Q (k+1)).length c6) (Q (k+1))∧Pr.ok (fun b=>B≤b∧(Value.slice a6 (Q (k+1)).length c6).ownBlock≠some b) w6 ⟨pa,pn,pc,p⟩∧Below B w3 w6∧Onto (.slice a2 (Q 0).length c2) (.slice a6 (Q (k+1)).length c6) w3 w6):=fun w5 a5 c5 hb5 hp5=>by
     have hbr5:Below wr.heap.size wr w5:=bN hb4 hb5
     have hml:M=(Q k).length:=HM.out
     have hps5:=hpsr.bw hbr5
     have hms:=HQm.out k s HS.out
     have hss:=Tm.size_part (List.mem_of_getElem? HS.out)
     have hp5':Pr.ok (fun b=>B≤b∧(Value.slice a0 M c0).ownBlock≠some b) w5 ⟨a5,pn+1,c5,p++[(k:Int)]⟩:=hp5.keep fun b h1 h2=>⟨⟨by omega,fun e=>by have:=hown4 b e;omega⟩,rfl⟩
     have hT5:Tat T w5 s a' n' c':=hT.bw hbr5
     rw [hml] at hps5 hp5' ⊢
     refine (HI.out s (List.mem_of_getElem? HS.out) a0 c0 (Q k) a5 (pn+1) c5 (p++[(k:Int)]) a' n' c' w5 (Nat.le_trans hBr hbr5.size) hps5 hp5' hT5 (by omega) (by omega)).mono ?_
     rintro e w6 ⟨a6,c6,rfl,hps6,hb6,hon6⟩
     have hql:(Q (k+1)).length=(Q k).length+s.size:=by rw [HQs.out k s HS.out,List.length_append,List.length_map,Tm.places_len]
     rw [←HQs.out k s HS.out,←hql] at hps6
     rw [←hql] at hon6 ⊢
     have honw:Onto (.slice a0 (Q k).length c0) (.slice a6 (Q (k+1)).length c6) wr w6:=(Onto.of_below hbr5).trans hon6
     rw [hml] at hpr honr hown4
     refine ⟨a6,c6,rfl,?_,hps6,?_,(hbr.trans (hbr5.mono hBr)).trans hb6,honr.trans honw⟩
     ·rw [hon6.2.1 _ (Nat.lt_of_lt_of_le hlt4 hb5.size) (fun e=>by have:=hown4 _ e;omega),hb5.block _ hlt4]
     ·exact hpr.keep fun b h h2=>⟨⟨h.1,fun e=>by
       rcases honw.2.2 b e with e' | e'
       ·exact h.2 e'
       ·omega⟩,honw.2.1 b h2 h.2⟩
    have hS0:=HBX.out w4 rfl
    have hS1:=HBX.out w4.drew rfl
    have hS2:=HBX.out (w4.drew.alloc (.cells #[.int .i64 (k:Int)] 3)) (Below.heap_alloc _ _ _ hlt4)
    have hS3:=HBX.out ((w4.drew.alloc (.cells #[.int .i64 (k:Int)] 3)).alloc (.cells #[.slice pa pn pc,.slice (some ⟨w4.heap.size,0,none⟩) 1 1] 45)) ((Below.heap_alloc _ _ _ (by rw [World.size_alloc];show wr.heap.size<w4.heap.size+1;omega)).trans (Below.heap_alloc _ _ _ hlt4))
    have HEND:Hid (∀ w5,Below w4.heap.size w4.drew w5→Below w4.heap.size w4 w5):=fun w5 h=>bN (bD (bW _)) h
    clear hp4 hpr hpsr honr hT hb4 hx4 hown4 hpn hbr hBr
    go_wp2_with fail
    rw [←HW4.out]
    go_region_held3 (fun w'=>w'.cell? ⟨wr.heap.size,0,none⟩=some (.int .i64 s.f)∧w'.cell? ⟨wr.heap.size,1,none⟩=some (.slice a' n' c')) (first | with_reducible exact hS0 | with_reducible exact hS1 | with_reducible exact hS2 | with_reducible exact hS3 | with_reducible exact (by assumption) | exact hS2 | exact hS3)
     (first
      | (go_at_call 47;refine HCC.out.mono ?_;rintro e w5 ⟨a5,c5,rfl,hp5,hb5⟩;have hS5:=HBX.out w5 (hb5.block _ hlt4);dsimp only)
      | (go_at_call 28;refine (HAD.out w5 a5 c5 (HEND.out _ hb5) hp5).mono ?_;rintro e w6 ⟨a6,c6,rfl,hx6,hps6,hp6,hb6,hon6⟩;have hS6:=HBX.out w6 hx6;dsimp only))
    go_wp2_with fail
    go_roundw
    case rel=>exact ⟨k+1,a6,c6,rfl,by go_num,by omega,hps6,hp6,hb6,hon6⟩
    case measure=>simp [intOf];omega
   ·obtain rfl:k=n3:=by omega
    go_wp2
    go_ret
    exact HOUT.out _ _ _ hpsr hbr honr
set_option maxHeartbeats 400000 in
theorem a8l {T:Nat→Prop} {t:Tm} {a:Option Addr} {n c:Nat} {w:World} (ht:Tat T w t a n c) (hs:t.size≤100000000) :
  Calls Tryz.prog 11 #[.agg #[.int .i64 t.f,.slice a n c]] w fun e w'=>∃ a' c',e = .returned (.slice a' t.size c')∧PsT w' w.heap.size (.slice a' t.size c') t.places∧Below w.heap.size w w':=by
 obtain ⟨w1,hw1⟩:∃ w1,w1=w.alloc (.cells #[.int .i64 t.f,.slice a n c] 37):=⟨_,rfl⟩
 have hb1:Below w.heap.size w w1:=by rw [hw1];exact bA (bW _) _
 have ht1:Tat (·< w.heap.size) w1 t a n c:=(ht.mono fun b _ h=>h).below hb1 fun b h _=>h
 have hA:=a3Y (T:=(·< w.heap.size)) (B:=w.heap.size) (fun b h=>h) t none 0 [] none 0 0 [] a n c w1 hb1.size ⟨[],World.ownsRow_nil _ _ _ _,rfl,by simp⟩ ⟨rfl,Nat.le_refl _,Nat.zero_le _,fun _=>⟨rfl,rfl⟩,.inl rfl⟩ ht1 (by simpa using hs) (by simpa using hs)
 have HA:Hid (Calls Tryz.prog 28 #[.slice none 0 0,.slice none 0 0,.agg #[.int .i64 t.f,.slice a n c]] w1 fun e w'=>∃ a' c',e = .returned (.slice a' t.size c')∧PsT w' w.heap.size (.slice a' t.size c') t.places∧Below w.heap.size w w'):=by
  refine Calls.mono hA ?_
  rintro e w' ⟨a',c',h1,h2,h3,_⟩
  simp only [List.length_nil,Nat.zero_add,List.nil_append,List.map_id'] at h1 h2
  exact ⟨a',c',h1,h2,hb1.trans h3⟩
 have HW:=K3 hw1
 clear hw1 hA ht1 ht
 go_enter Tryz.func11,Tryz.ntmps11
 go_wp2_with fail
 rw [←HW.out]
 go_wp2_with (go_at_call 28;refine HA.out.mono ?_;rintro e w2 ⟨a',c',rfl,h2,h3⟩)
 go_ret
 exact ⟨a',c',rfl,h2,h3⟩
end Go.Proofs.YtekboofbedakcaaGreat
namespace Go.Proofs.YtekboofbedakcaaGreat
open Go.RowKit Go.Shelf
set_option linter.unusedVariables false
set_option linter.unusedSimpArgs false
attribute [local go_sem] Oper.semAt_some
def a2f (acc:List Int) (s:Tm):List Int:=if s.f<0 then (if (-1-s.f)∈acc then acc else acc++[-1-s.f]) else acc
def B0 (l:List Tm):List Int:=l.foldl a2f []
theorem O5 (l:List Tm) (s:Tm):B0 (l++[s])=a2f (B0 l) s:=by simp [B0]
theorem b2N (acc:List Int) (s:Tm):(a2f acc s).length≤acc.length+1:=by
 unfold a2f
 split
 ·split
  ·omega
  ·simp
 ·omega
theorem a1j (l:List Tm):(B0 l).length≤l.length:=by
 have:∀ (l:List Tm) (acc:List Int),(l.foldl a2f acc).length≤acc.length+l.length:=by
  intro l
  induction l with
  | nil=>intro acc;simp
  | cons y ys ih=>intro acc;have:=ih (a2f acc y);have:=b2N acc y;simp only [List.foldl_cons,List.length_cons];omega
 have:=this l []
 simpa [B0] using this
def a1R (acc:List Int):List Lit:=acc.map fun n => .int .i64 n
theorem a4H {H:Type} (acc:List Int) (n:Int):Maps.has (H:=H) (Maps.setOf (.agg []) (a1R acc)) (.int .i64 n)=decide (n∈acc):=by
 rw [Maps.has_setOf _ _ _ (fun x hx=>by obtain ⟨m,_,rfl⟩:=List.mem_map.1 hx;trivial)]
 unfold a1R
 rw [List.any_map,Bool.eq_iff_iff,List.any_eq_true,decide_eq_true_iff]
 constructor
 ·rintro ⟨x,hx,h⟩
  have:x=n:=by simpa [Lit.sameKey] using h
  rw [←this];exact hx
 ·intro h
  exact ⟨n,h,by simp [Lit.sameKey]⟩
theorem a4t {f:Int} (h:f<0) (a:Option Addr) (n c:Nat) (w:World) :
  Calls Tryz.prog 77 #[.agg #[.int .i64 f,.slice a n c]] w fun e w'=>e = .returned (.bool true)∧Below w.heap.size w w':=by
 have:=G1 f a n c w
 rw [decide_eq_true h] at this
 exact this
theorem b3t {f:Int} (h:¬ f<0) (a:Option Addr) (n c:Nat) (w:World) :
  Calls Tryz.prog 77 #[.agg #[.int .i64 f,.slice a n c]] w fun e w'=>e = .returned (.bool false)∧Below w.heap.size w w':=by
 have:=G1 f a n c w
 rw [decide_eq_false h] at this
 exact this
def VarI (w:World) (acc:List Int) (v:Value) (W:World):Prop:=
 Boxed W (w.heap.size+1) 45 v∧W.ownsRow (w.heap.size+5) 3 1 v acc.length (a2e acc)∧Boxed W (w.heap.size+1+1+1) 177 (.map (some (w.heap.size+1+1)))∧W.ownsMap (H:=Unit) Tryz.prog 3 unitElem (w.heap.size+1+1) acc.length (Maps.setOf (.agg []) (a1R acc))∧Below w.heap.size w W∧w.heap.size+5≤W.heap.size
theorem P5 {W W':World} {P:Program} {k:TypeId} {R:Value→Option (DataW Unit×List MemPlace)} {b n:Nat} {D:DataW Unit} (h:W.ownsMap P k R b n D) (hb:W'.heap[b]?=W.heap[b]?):W'.ownsMap P k R b n D:=by
 obtain ⟨es,ck,h1,h2⟩:=h
 exact ⟨es,ck,hb.trans h1,h2⟩
theorem VarI.abides {w A B:World} {acc:List Int} {v:Value} (h:VarI w acc v A) (hb:Below A.heap.size A B):VarI w acc v B:=by
 obtain ⟨h1,h2,h3,h4,h5,h6⟩:=h
 exact ⟨(hb.block _ h1.lt).trans h1,C5 h2 hb (Nat.le_refl _),(hb.block _ h3.lt).trans h3,P5 h4 (hb.block _ (by omega)),h5.trans (hb.mono h5.size),Nat.le_trans h6 hb.size⟩
theorem VarI.putObj {w A:World} {acc:List Int} {v:Value} (h:VarI w acc v A) {l:Nat} {o:Obj} (o':Obj) (hwl:w.heap.size+5≤l) (hl:A.heap[l]?=some o) (ho:o.isCells=false):VarI w acc v (A.putObj l o'):=by
 obtain ⟨h1,h2,h3,h4,h5,h6⟩:=h
 refine ⟨a4M h1 o' hl ho,ownsRow_putObj h2 o' hl ho,a4M h3 o' hl ho,P5 h4 (World.putObj_heap_other (by omega)),h5.trans (V7 o' (by omega) hl ho).1,by simpa [World.putObj] using h6⟩
theorem a9B {w W3 W4:World} {acc:List Int} {v:Value} (hI:VarI w acc v W3) (hg4:W3.grownBy W4 (some (w.heap.size+1+1))) :
  Boxed W4 (w.heap.size+1) 45 v∧W4.ownsRow (w.heap.size+5) 3 1 v acc.length (a2e acc)∧Boxed W4 (w.heap.size+1+1+1) 177 (.map (some (w.heap.size+1+1)))∧w.heap.size+5≤W4.heap.size:=by
 obtain ⟨h1,h2,h3,h4,h5,h6⟩:=hI
 refine ⟨h1.kept hg4 (by simp),h2.kept hg4 ?_,h3.kept hg4 (by simp),Nat.le_trans h6 hg4.size⟩
 rcases h2.2 with ⟨rfl,_⟩ | ⟨g,cap,cur,rfl,hg,_⟩
 ·exact .inl rfl
 ·refine .inr fun e=>?_
  have:g=w.heap.size+1+1:=by simpa [Value.ownBlock] using e
  omega
theorem b0G {w W3 W4 w5:World} {acc:List Int} {v v':Value} {n:Int} {tmp:Obj} (hI:VarI w acc v W3) (hown4:W4.ownsMap (H:=Unit) Tryz.prog 3 unitElem (w.heap.size+1+1) (acc.length+1) ((Maps.setOf (.agg []) (a1R acc)).put (.int .i64 n) (.agg []))) (hg4:W3.grownBy W4 (some (w.heap.size+1+1)))
  (hown5:w5.ownsRow (w.heap.size+5) 3 1 v' (acc.length+1) (a2e acc++[.int .i64 n])) (hg5:(W4.alloc tmp).grownBy w5 v.ownBlock) :
  Boxed w5 (w.heap.size+1) 45 v∧KeepsFrom (w.heap.size+5) W3 (w5.setCell ⟨w.heap.size+1,0,none⟩ v')∧KpT w.heap.size W3 (w5.setCell ⟨w.heap.size+1,0,none⟩ v')∧VarI w (acc++[n]) v' (w5.setCell ⟨w.heap.size+1,0,none⟩ v'):=by
 obtain ⟨m1,m2,m3,m4⟩:=a9B hI hg4
 obtain ⟨h1,h2,h3,h4,h5,h6⟩:=hI
 have hlt:=m2.lt
 have hne:∀ g,g<w.heap.size+5→some g≠v.ownBlock:=fun g hgl e=>by have:=(hlt g e.symm).1;omega
 have hnv':∀ g,g<w.heap.size+5→v'.ownBlock≠some g:=fun g hgl e=>by have:=(hown5.lt g e).1;omega
 have r1:Boxed w5 (w.heap.size+1) 45 v:=(m1.alloc tmp).kept hg5 (hne _ (by omega))
 have hset:∀ g,g≠w.heap.size+1→(w5.setCell ⟨w.heap.size+1,0,none⟩ v').heap[g]?=w5.heap[g]?:=fun g hg=>Below.heap_setCell _ _ _ _ hg
 have hsz4:=hg4.size
 have hsz5:=hg5.size
 rw [World.size_alloc] at hsz5
 have hkeep:∀ g,g<W3.heap.size→g≠w.heap.size+1+1→some g≠v.ownBlock→g≠w.heap.size+1→(w5.setCell ⟨w.heap.size+1,0,none⟩ v').heap[g]?=W3.heap[g]?:=fun g k1 k2 k3 k4=>by
  rw [hset g k4,hg5.block g (by simp;omega) k3,Below.heap_alloc _ _ _ (by omega),hg4.block g k1 (fun e=>k2 (by simpa using e))]
 have hcells:∀ (g:Nat) cs ty fl,W3.heap[g]?=some (Obj.cells cs ty fl)→ty=37→some g≠v.ownBlock∧g≠w.heap.size+1+1∧g≠w.heap.size+1:=fun g cs ty fl hg ht=>by
  refine ⟨fun e=>?_,fun e=>?_,fun e=>?_⟩
  ·rcases h2.2 with ⟨rfl,_⟩ | ⟨q,cap,cur,rfl,_,hh,_⟩
   ·cases e
   ·have e':g=q:=by simpa [Value.ownBlock] using e
    rw [e',hh] at hg
    cases hg
    revert ht;decide
  ·obtain ⟨es,ck,hh,_⟩:=h4
   rw [e,hh] at hg
   cases hg
  ·rw [e,show W3.heap[w.heap.size+1]?=_ from h1] at hg
   cases hg
   revert ht;decide
 have hbel:Below w.heap.size W3 (w5.setCell ⟨w.heap.size+1,0,none⟩ v'):=
  ((((Below.refl w.heap.size W3).grown hg4 (by omega) (fun k e=>by cases e;omega)).alloc (by omega) tmp).grown hg5 (by simp;omega) (fun j e=>by have:=(hlt j e).1;omega)).setCell (p:=⟨w.heap.size+1,0,none⟩) (by show w.heap.size≤w.heap.size+1;omega) _
 refine ⟨r1,⟨by rw [World.size_setCell];omega,fun g o hgB hg ho=>?_⟩,⟨hbel,fun g cs fl hg=>?_⟩,r1.set v',?_,?_,?_,h5.trans hbel,by rw [World.size_setCell];omega⟩
 ·rw [hkeep g (Array.getElem?_eq_some_iff.1 hg).1 (by omega) (fun e=>?_) (by omega)]
  ·exact hg
  ·rcases h2.2 with ⟨rfl,_⟩ | ⟨q,cap,cur,rfl,_,hh,_⟩
   ·cases e
   ·have e':g=q:=by simpa [Value.ownBlock] using e
    rw [e',hh] at hg
    cases hg
    cases ho
 ·obtain ⟨k1,k2,k3⟩:=hcells g cs _ fl hg rfl
  rw [hkeep g (Array.getElem?_eq_some_iff.1 hg).1 k2 k1 k3]
  exact hg
 ·rw [List.length_append,show a2e (acc++[n])=a2e acc++[.int .i64 n] by simp [a2e]]
  exact hown5.kept (grownBy_setCell' w5 (w.heap.size+1) v') (.inr (hnv' _ (by omega)))
 ·refine Boxed.kept (W:=w5) ?_ (grownBy_setCell' w5 (w.heap.size+1) v') (by simp;omega)
  exact (m3.alloc tmp).kept hg5 (hne _ (by omega))
 ·rw [List.length_append,show a1R (acc++[n])=a1R acc++[.int .i64 n] by simp [a1R],Maps.setOf_snoc]
  refine P5 hown4 ?_
  rw [hset _ (by omega),hg5.block _ (by simp;omega) (hne _ (by omega)),Below.heap_alloc _ _ _ (by omega)]
set_option maxRecDepth 100000 in
set_option maxHeartbeats 4000000 in
theorem b5A {U:Nat→Prop} (t:Tm) (a:Option Addr) (n c:Nat) (w:World) (h:Tat U w t a n c) (hm:t.size≤90000000000) :
  CallsIn Fence.wide 3 Tryz.prog 96 #[.agg #[.int .i64 t.f,.slice a n c]] w fun e W'=>∃ v,e = .returned v∧W'.ownsRow w.heap.size 3 1 v (B0 t.flat).length (a2e (B0 t.flat))∧Below w.heap.size w W':=by
 have hmm:=@run_makeMap Tryz.prog
 refine callsIn_of_wp_marks Tryz.func96 rfl trivial ?_ rfl
 simp only [Tryz.ntmps96,List.size_toArray,List.length_cons,List.length_nil,Nat.reduceAdd,Nat.reduceSub,Array.replicate_succ,Array.replicate_zero,List.push_toArray,List.append_toArray,List.nil_append,List.cons_append]
 gi_wp2_with (refine ⟨trivial,?_⟩;gi_at_call 127;refine (b6T _ _ _ _ _).mono ?_;rintro e w' ⟨rfl,rfl⟩)
 obtain ⟨w1,hw1⟩:∃ w1,w1=w.alloc (.cells #[.int .i64 t.f,.slice a n c] 37):=⟨_,rfl⟩
 obtain ⟨w2,hw2⟩:∃ w2,w2=w1.alloc (.cells #[.slice none 0 0] 45):=⟨_,rfl⟩
 obtain ⟨w3,hw3⟩:∃ w3,w3=w2.alloc (.map #[] 0):=⟨_,rfl⟩
 obtain ⟨w4,hw4⟩:∃ w4,w4=w3.alloc (.cells #[.map (some (w.heap.size+1+1))] 177):=⟨_,rfl⟩
 obtain ⟨wl,hwl⟩:∃ wl,wl=w4.alloc (.cells #[.int .i64 t.f,.slice a n c] 37):=⟨_,rfl⟩
 have s1:w1.heap.size=w.heap.size+1:=by rw [hw1];simp
 have s2:w2.heap.size=w.heap.size+1+1:=by rw [hw2];simp;omega
 have s3:w3.heap.size=w.heap.size+1+1+1:=by rw [hw3];simp;omega
 have s4:w4.heap.size=w.heap.size+1+1+1+1:=by rw [hw4];simp;omega
 have hsz:wl.heap.size=w.heap.size+5:=by rw [hwl];simp;omega
 have k1:Below w.heap.size w w1:=by rw [hw1];exact bA (bW _) _
 have k2:Below w1.heap.size w1 w2:=by rw [hw2];exact bA (bW _) _
 have k3:Below w2.heap.size w2 w3:=by rw [hw3];exact bA (bW _) _
 have k4:Below w3.heap.size w3 w4:=by rw [hw4];exact bA (bW _) _
 have k5:Below w4.heap.size w4 wl:=by rw [hwl];exact bA (bW _) _
 have hb0:Below w.heap.size w wl:=bN (bN (bN (bN k1 k2) k3) k4) k5
 have hbx:wl.heap[w.heap.size+1+1+1+1]?=some (.cells #[.int .i64 t.f,.slice a n c] 37 (0,0)):=by
  rw [hwl,←s4];exact World.alloc_heap_new _ _
 have hI0:∃ v,VarI w (B0 (([]:List Tr).map Tr.t)) v wl:=by
  refine ⟨.slice none 0 0,?_,World.ownsRow_nil _ _ _ _,?_,?_,hb0,by omega⟩
  ·show _=_
   rw [k5.block _ (by omega),k4.block _ (by omega),k3.block _ (by omega),hw2,←s1];exact World.alloc_heap_new _ _
  ·show _=_
   rw [k5.block _ (by omega),hw4,←s3];exact World.alloc_heap_new _ _
  ·refine P5 (W:=w3) ?_ (by rw [k5.block _ (by omega),k4.block _ (by omega)])
   rw [hw3,←s2]
   exact World.ownsMap_made w2 _ _ _
 have ht:Tat (·< w.heap.size) wl t a n c:=(h.mono (V:=(·< w.heap.size)) fun b _ hb=>hb).below hb0 fun b hb _=>hb
 rw [←hw1,←hw2,←hw3,←hw4,←hwl]
 clear hwl h hw1 hw2 hw3 hw4 s1 s2 s3 s4 k1 k2 k3 k4 k5
 obtain ⟨i0,hi1,hi2,hi3,hi4⟩:=info_parts a3I
 refine a1E (gf:=143) (lb := #[.pointer (some ⟨w.heap.size+1+1+1+1,0,none⟩)]) rfl (enters_of Tryz.func143 (by kernel_rfl) rfl)
  (b1F (n₀:=w.heap.size) (by omega) hbx ht) (fun h k=>h.trans k) (fun W l o o' hl h ho=>V7 o' (by omega) h ho) (fun pre x W l o o' hl hx h ho=>⟨hx.1.kept (V7 o' (by omega) h ho).1,hx.2⟩) (fun _=>rfl)
  (fun pre W=>∃ v,VarI w (B0 (pre.map Tr.t)) v W) (fun pre A B h hb=>⟨h.choose,h.choose_spec.abides hb⟩) (fun pre A l o o' h hl h1 h2=>⟨h.choose,h.choose_spec.putObj o' (by omega) h1 h2⟩) hI0
  (fun x b=>{ tmps := #[.agg #[.int .i64 t.f,.slice a n c],.pointer (some ⟨w.heap.size,0,none⟩),.slice none 0 0,.pointer (some ⟨w.heap.size+1,0,none⟩),.pointer (some ⟨w.heap.size+1+1+1,0,none⟩),.pointer (some ⟨b,0,none⟩),undef,undef,undef,.map (some (w.heap.size+1+1)),.agg #[.int .i64 t.f,.slice a n c],.func (.func 143) #[] #[.pointer (some ⟨w.heap.size+1+1+1+1,0,none⟩)],x.v,undef,undef,undef,undef,undef,undef,undef,undef,undef,undef,undef,undef,undef,undef,undef,undef,undef,undef,undef,undef,undef],defers:=[] })
  Tr.ob (fun V x hV=>KpT.of_below (by omega) (bA (bW _) _)) (fun pre x V hx=>⟨hx.1.bw (bA (bW _) _),hx.2⟩) ?assign ?body ?done
 case assign =>
  intro l x W K hK
  obtain ⟨xt,xa,xn,xc⟩:=x
  simp only [Tr.v,Tr.ob] at hK ⊢
  gi_wp2
  exact hK
 case body =>
  rintro l pre x W b hb hbx' ⟨v,hI⟩ ⟨hx,hlt⟩
  have hx1:=hx.wf
  have hbl:=(Array.getElem?_eq_some_iff.1 hbx').1
  have hle:=a1j (pre.map Tr.t)
  rw [List.length_map] at hle
  obtain ⟨xt,xa,xn,xc⟩:=x
  simp only [Tr.v,Tr.ob] at *
  have HS:=K3 (O5 (pre.map Tr.t) xt)
  obtain ⟨acc,hacc⟩:∃ acc,acc=B0 (pre.map Tr.t):=⟨_,rfl⟩
  rw [←hacc] at hI HS hle
  clear hacc
  have hwW:w.heap.size≤W.heap.size:=hI.2.2.2.2.1.size
  obtain ⟨e1,e2⟩:=N6 hbx'
  by_cases hq:xt.f<0
  ·have HQ:=K3 hq
   have HWF:Hid ((Lit.int .i64 (-1-xt.f)).wf=true):=by
    show _=_
    simp [Lit.wf,IntKind.min,IntKind.max,IntKind.signed,IntKind.bits]
    omega
   by_cases hin:(-1-xt.f)∈acc
   ·have HS2:Hid (B0 (List.map Tr.t pre++[xt])=acc):=by show _=_;rw [HS.out,a2f,if_pos hq,if_pos hin]
    have HHAS:Hid (Maps.has (H:=Unit) (Maps.setOf (.agg []) (a1R acc)) (.int .i64 (-1-xt.f))=true):=by show _=_;rw [a4H];exact decide_eq_true hin
    clear hq
    gi_wp2_with (first
    | (refine ⟨trivial,?_⟩;gi_at_call 77;refine (CallsIn.inRound l (callsIn_wide.2 (a4t HQ.out _ _ _ _))).mono ?_;rintro e W1 ⟨rfl,hb1⟩;clear e1 e2;obtain ⟨e1,e2⟩:=N6 ((hb1.block b hbl).trans hbx'))
    | (refine ⟨trivial,?_⟩;gi_at_call 102;refine (CallsIn.inRound l (callsIn_wide.2 (Y1 _ _ _ _ _ hx1.1 HQ.out))).mono ?_;rintro e W2 ⟨rfl,hb2⟩;have hI2:=hI.abides (bN hb1 hb2);have hc2:=hI2.2.2.1.cell;have hrow2:=hI2.2.1;have hbx2:=hI2.1)
    | (gi_at_lookup;refine wpListIn_lookup_own_unit _ rfl _ _ 177 rfl 3 181 (Maps.int_keyed Tryz.underlying3) Tryz.underlying177 (Tryz.zeroValue181 _) (w.heap.size+1+1) acc.length _ rfl hI2.2.2.2.1 _ (.int .i64 (-1-xt.f)) rfl (Maps.keyOf_int_mk Tryz.underlying3 HWF.out) ?_;rw [HHAS.out];have hI3:=hI2.abides (bA (bW _) (.cells #[] 181));have hc3:=hI3.2.2.1.cell))
    refine ⟨G3 (bA (bN hb1 hb2) _) _,KpT.of_below hwW (bA (bN hb1 hb2) _),v,?_⟩
    first
     | (rw [HS2.out];exact hI2.abides (bA (bW _) _))
     | (rw [show List.map Tr.t (pre++[⟨xt,xa,xn,xc⟩])=List.map Tr.t pre++[xt] by simp,HS2.out];exact hI2.abides (bA (bW _) _))
   ·have HS2:Hid (B0 (List.map Tr.t pre++[xt])=acc++[-1-xt.f]):=by show _=_;rw [HS.out,a2f,if_pos hq,if_neg hin]
    have HHAS:Hid (Maps.has (H:=Unit) (Maps.setOf (.agg []) (a1R acc)) (.int .i64 (-1-xt.f))=false):=by show _=_;rw [a4H];exact decide_eq_false hin
    clear hq
    have hlen:acc.length≤90000000000:=by omega
    gi_wp2_with (first
    | (refine ⟨trivial,?_⟩;gi_at_call 77;refine (CallsIn.inRound l (callsIn_wide.2 (a4t HQ.out _ _ _ _))).mono ?_;rintro e W1 ⟨rfl,hb1⟩;clear e1 e2;obtain ⟨e1,e2⟩:=N6 ((hb1.block b hbl).trans hbx'))
    | (refine ⟨trivial,?_⟩;gi_at_call 102;refine (CallsIn.inRound l (callsIn_wide.2 (Y1 _ _ _ _ _ hx1.1 HQ.out))).mono ?_;rintro e W2 ⟨rfl,hb2⟩;have hI2:=hI.abides (bN hb1 hb2);have hc2:=hI2.2.2.1.cell;have hrow2:=hI2.2.1;have hbx2:=hI2.1)
    | (gi_at_lookup;refine wpListIn_lookup_own_unit _ rfl _ _ 177 rfl 3 181 (Maps.int_keyed Tryz.underlying3) Tryz.underlying177 (Tryz.zeroValue181 _) (w.heap.size+1+1) acc.length _ rfl hI2.2.2.2.1 _ (.int .i64 (-1-xt.f)) rfl (Maps.keyOf_int_mk Tryz.underlying3 HWF.out) ?_;rw [HHAS.out];have hI3:=hI2.abides (bA (bW _) (.cells #[] 181));have hc3:=hI3.2.2.1.cell)
    | (gi_at_mapUpdate;refine wpListIn_mapUpdate_own _ rfl _ _ _ 177 rfl 3 181 (Maps.int_keyed Tryz.underlying3) Tryz.underlying177 _ (w.heap.size+1+1) acc.length _ rfl hI3.2.2.2.1 (by unfold maxLen;omega) _ _ (.int .i64 (-1-xt.f)) rfl rfl (Maps.keyOf_int_mk Tryz.underlying3 HWF.out) _ [] unitElem_mk ?_;intro W4 hown4 hgrow4;obtain ⟨m1,m2,m3,m4⟩:=a9B hI3 hgrow4;have hc4:=m1.cell)
    | (gi_at_builtin;refine wpListIn_append_own _ rfl _ _ 45 rfl (w.heap.size+5) 3 i0 (.int .i64 0) 1 8 Tryz.underlying45 hi1 hi2 hi3 hi4 rfl (by decide) _ _ _ rfl (m2.alloc _) ⟨W4.heap.size,0,none⟩ 1 1 [.int .i64 (-1-xt.f)] rfl rfl (cell_one_new _ _ _) (by simp [Value.oneCell']) (by unfold maxLen;omega) (by omega) (by simp;omega) ?_;intro v' w5 hown5 hgrow5 _;obtain ⟨g',cap',rfl⟩:=ownsRow_succ hown5;obtain ⟨r1,r2,r3,r4⟩:=b0G hI3 hown4 hgrow4 hown5 hgrow5;have hc5:=r1.cell;have hf5:=r1.frozen))
    have hW3:Below W.heap.size W (W2.alloc (.cells #[] 181)):=bA (bN hb1 hb2) _
    refine ⟨(G3 hW3 _).trans ?_,(KpT.of_below hwW hW3).trans r3,.slice (some ⟨g',0,none⟩) (acc.length+1) cap',?_⟩
    ·first | exact r2 | (rw [hsz];exact r2)
    ·first
      | (rw [HS2.out];exact r4)
      | (rw [show List.map Tr.t (pre++[⟨xt,xa,xn,xc⟩])=List.map Tr.t pre++[xt] by simp,HS2.out];exact r4)
  ·have HS2:Hid (B0 (List.map Tr.t pre++[xt])=acc):=by show _=_;rw [HS.out,a2f,if_neg hq]
   have HQ:=K3 hq
   gi_wp2_with (refine ⟨trivial,?_⟩;gi_at_call 77;refine (CallsIn.inRound l (callsIn_wide.2 (b3t HQ.out _ _ _ _))).mono ?_;rintro e W1 ⟨rfl,hb1⟩)
   refine ⟨G3 hb1 _,KpT.of_below hwW hb1,v,?_⟩
   first
    | (rw [HS2.out];exact hI.abides hb1)
    | (rw [show List.map Tr.t (pre++[⟨xt,xa,xn,xc⟩])=List.map Tr.t pre++[xt] by simp,HS2.out];exact hI.abides hb1)
 case done =>
  rintro D xs W hD hS ⟨v,hI⟩ hK
  obtain ⟨h1,h2,h3,h4,h5,h6⟩:=hI
  have hc:=h1.cell
  gi_wp2
  refine ⟨by simp,.inl ⟨_,_,rfl,run_takeDeferred hK,?_⟩⟩
  refine ⟨_,results_tmp rfl _ _ _,v,rfl,?_,?_⟩
  ·rw [←hS]
   exact p7 (ownsRow_putObj h2 _ hK rfl) (by omega)
  ·exact h5.trans (V7 _ (by omega) hK rfl).1
theorem b3z {U:Nat→Prop} {t:Tm} {a:Option Addr} {n c:Nat} {w:World} (h:Tat U w t a n c) (hm:t.size≤90000000000) :
  Calls Tryz.prog 96 #[.agg #[.int .i64 t.f,.slice a n c]] w fun e W'=>∃ va vc,e = .returned (.slice va (B0 t.flat).length vc)∧Pr.ok (fun b=>w.heap.size≤b) W' ⟨va,(B0 t.flat).length,vc,B0 t.flat⟩∧Below w.heap.size w W':=by
 refine Calls.mono (callsIn_wide.1 (b5A t a n c w h hm)) ?_
 rintro e W' ⟨v,rfl,ho,hb⟩
 obtain ⟨va,vc,rfl,e2,e3,e4,e5⟩:=A3 ho
 refine ⟨va,vc,rfl,⟨rfl,e2,e3,e4,?_⟩,hb⟩
 rcases e5 with h | ⟨b,off,ha,hlt,hc⟩
 ·exact .inl h
 ·refine .inr ⟨b,off,ha,?_,hlt,hc⟩
  subst ha
  rcases ho.2 with ⟨h3,_⟩ | ⟨g,cap,cur,h3,hb',_⟩
  ·cases h3
  ·cases h3;exact hb'
def Tm.wt:Tm→Nat
 | ⟨_,l⟩=>1+(l.map Tm.wt).sum
def Tm.wts (l:List Tm):Nat:=(l.map Tm.wt).sum
theorem b0s:Tm.wts []=0:=rfl
theorem a0z (t:Tm) (ts:List Tm):Tm.wts (t::ts)=t.wt+Tm.wts ts:=by simp [Tm.wts]
theorem Tm.wt_eq (t:Tm):t.wt=1+Tm.wts t.l:=by cases t with | mk f l=>rw [Tm.wt];rfl
theorem Tm.wts_mem {l:List Tm} {s:Tm} (h:s∈l):s.wt≤Tm.wts l:=by
 induction l with
 | nil=>cases h
 | cons y ys ih =>
  rw [a0z]
  rcases List.mem_cons.1 h with rfl | h
  ·omega
  ·have:=ih h;omega
theorem Tm.wts_len (l:List Tm):l.length≤Tm.wts l:=by
 induction l with
 | nil=>simp [b0s]
 | cons y ys ih=>rw [a0z,y.wt_eq,List.length_cons];omega
theorem Tm.size_wt (t:Tm):t.size≤t.wt:=by
 induction t using Tm.ind with
 | h f l ih =>
  rw [Tm.size_eq,Tm.wt_eq]
  have h1:∀ l:List Tm,(∀ s∈l,s.size≤s.wt)→(l.flatMap Tm.flat).length≤Tm.wts l:=by
   intro l hl
   induction l with
   | nil=>simp
   | cons y ys ih2 =>
    have h1:=hl y (by simp)
    unfold Tm.size at h1
    rw [List.flatMap_cons,List.length_append,a0z]
    have:=ih2 (fun s hs=>hl s (List.mem_cons_of_mem _ hs))
    omega
  unfold Tm.ps
  split
  ·simp
  ·have:=h1 l ih;show 1+(l.flatMap Tm.flat).length≤1+Tm.wts l;omega
theorem b2c {w:World} {b:Nat} {x y:Value} {t:TypeId} {fl:Nat×Nat} (h:w.heap[b]?=some (.cells #[x,y] t fl)):w.cell? ⟨b,0,none⟩=some x∧w.cell? ⟨b,1,none⟩=some y:=by
 constructor<;>simp [World.cell?,h]
end Go.Proofs.YtekboofbedakcaaGreat
namespace Go.Proofs.YtekboofbedakcaaGreat
open Go.RowKit
set_option linter.unusedVariables false
set_option linter.unusedSimpArgs false
def a8Z:List (Int→Int→Int)→Int→Int→Int
 | [],most,_=>most
 | c::cs,most,deep=>if most<0 then most else a8Z cs (c most deep) deep
def f0:Tm→Int→Int→Int
 | ⟨f,l⟩,most,deep=>if deep<0∨f < -1000∨1000<f∨20<l.length then -1 else a8Z (l.map fun s=>fun m d=>f0 s m d) (most-1) (deep-1)
def F6 (l:List Tm) (most deep:Int):Int:=a8Z (l.map fun s=>fun m d=>f0 s m d) most deep
theorem a1v (f:Int) (l:List Tm) (most deep:Int):f0 ⟨f,l⟩ most deep=if deep<0∨f < -1000∨1000<f∨20<l.length then -1 else F6 l (most-1) (deep-1):=by rw [f0];rfl
theorem Y2 (most deep:Int):F6 [] most deep=most:=rfl
theorem K8 (t:Tm) (ts:List Tm) (most deep:Int):F6 (t::ts) most deep=if most<0 then most else F6 ts (f0 t most deep) deep:=rfl
theorem a2S (l:List Tm) {m:Int} (d:Int) (h:m<0):F6 l m d=m:=by
 cases l with
 | nil=>rw [Y2]
 | cons t ts=>rw [K8,if_pos h]
theorem O3 (t:Tm):∀ most deep,0≤most → -1≤f0 t most deep∧f0 t most deep<most∧(0≤f0 t most deep→f0 t most deep+t.wt≤most):=by
 induction t using Tm.ind with
 | h f l ih =>
  intro most deep hm
  rw [a1v]
  split
  ·exact ⟨by omega,by omega,by omega⟩
  ·have:∀ (l:List Tm) (m d:Int),(∀ t∈l,∀ most deep,0≤most → -1≤f0 t most deep∧f0 t most deep<most∧(0≤f0 t most deep→f0 t most deep+t.wt≤most)) → -1≤m → -1≤F6 l m d∧F6 l m d≤m∧(0≤F6 l m d→F6 l m d+Tm.wts l≤m):=by
    intro l
    induction l with
    | nil=>intro m d _ h;rw [Y2,b0s];exact ⟨h,Int.le_refl _,by omega⟩
    | cons y ys ih2 =>
     intro m d hl h
     rw [K8,a0z]
     split
     ·exact ⟨by omega,by omega,by omega⟩
     ·have h1:=hl y (by simp) m d (by omega)
      have h2:=ih2 (f0 y m d) d (fun s hs=>hl s (List.mem_cons_of_mem _ hs)) h1.1
      refine ⟨h2.1,by omega,fun h3=>?_⟩
      have:=h2.2.2 h3
      have:=h1.2.2 (by omega)
      omega
   have h1:=this l (most-1) (deep-1) ih (by omega)
   refine ⟨h1.1,by omega,fun h2=>?_⟩
   have:=h1.2.2 h2
   rw [Tm.wt_eq]
   show _+((1+Tm.wts l:Nat):Int)≤_
   omega
set_option maxRecDepth 100000 in
set_option maxHeartbeats 1000000 in
theorem b1J:∀ (t:Tm) (U:Nat→Prop) (a:Option Addr) (n c:Nat) (most deep:Int) (w:World),Tat U w t a n c→0≤most→most≤60 → -1≤deep→deep≤20 →
  Calls Tryz.prog 6 #[.agg #[.int .i64 t.f,.slice a n c],.int .i64 most,.int .i64 deep] w fun e w'=>e = .returned (.int .i64 (f0 t most deep))∧Below w.heap.size w w':=by
 intro t
 induction t using Tm.ind with
 | h f l ih =>
  intro U a n c most deep w ht hm1 hm2 hd1 hd2
  obtain ⟨w1,hw1⟩:∃ w1,w1=w.alloc (.cells #[.int .i64 f,.slice a n c] 25):=⟨_,rfl⟩
  have b1:Below w.heap.size w w1:=by rw [hw1];exact bA (bW _) _
  have x1:w1.heap[w.heap.size]?=some (.cells #[.int .i64 f,.slice a n c] 25 (0,0)):=by rw [hw1];exact World.alloc_heap_new _ _
  have hl:Las U w1 l a n c:=ht.las.bw b1
  have HL:=K3 hl.len
  have hn:n≤9223372036854775807:=by have:=HL.out;unfold maxLen at this;omega
  have HX:Hid (∀ V,Below w1.heap.size w1 V→V.cell? ⟨w.heap.size,0,none⟩=some (.int .i64 f)∧V.cell? ⟨w.heap.size,1,none⟩=some (.slice a n c)):=fun V hb=>b2c ((hb.block _ (Array.getElem?_eq_some_iff.1 x1).1).trans x1)
  have HLs:Hid (∀ V,Below w1.heap.size w1 V→Las U V l a n c):=fun V hb=>hl.bw hb
  have HI:=K3 ih
  have HW:=K3 hw1
  have HD:Hid (f0 (.mk f l) most deep=if deep<0∨f < -1000∨1000<f∨20<l.length then -1 else F6 l (most-1) (deep-1)):=by show _=_;rw [a1v]
  obtain ⟨z,hz⟩:∃ z,z=f0 (.mk f l) most deep:=⟨_,rfl⟩
  rw [←hz] at HD ⊢
  obtain ⟨c1,c2⟩:=HX.out w1 (bW _)
  clear hz hw1 x1 hl ht ih
  simp only
  by_cases hbad:deep<0∨f < -1000∨1000<f∨20<n
  ·have HE:Hid (z = -1):=by show _=_;rw [HD.out,if_pos (by have:=HL.out.1;omega)]
   rw [HE.out]
   have HB0:Hid (Below w.heap.size w w1):=b1
   by_cases q1:deep<0
   ·go_enter Tryz.func6,Tryz.ntmps6
    go_wp2
    go_ret
    exact ⟨rfl,bA (bW _) _⟩
   ·by_cases q2:f < -1000
    ·go_enter Tryz.func6,Tryz.ntmps6
     go_wp2
     go_ret
     exact ⟨rfl,bA (bW _) _⟩
    ·by_cases q3:1000<f
     ·go_enter Tryz.func6,Tryz.ntmps6
      go_wp2
      go_ret
      exact ⟨rfl,bA (bW _) _⟩
     ·have q4:20<n:=by omega
      go_enter Tryz.func6,Tryz.ntmps6
      go_wp2
      go_ret
      exact ⟨rfl,bA (bW _) _⟩
  ·have HE:Hid (z=F6 l (most-1) (deep-1)):=by show _=_;rw [HD.out,if_neg (by have:=HL.out.1;omega)]
   have q1:¬ deep<0:=by omega
   have q2:¬ f < -1000:=by omega
   have q3:¬ 1000<f:=by omega
   have q4:¬ 20<n:=by omega
   clear hbad HD
   go_enter Tryz.func6,Tryz.ntmps6
   go_wp2_with fail
   rw [←HW.out]
   go_loopw [1,7] (fun u i wr=>∃ (k:Nat) (m:Int),u = .int .i64 m∧i = .int .i64 (k:Int)∧k≤n ∧ -1≤m∧m≤60∧Below w1.heap.size w1 wr∧F6 (l.drop k) m (deep-1)=z) (fun u i _=>n-(intOf i).toNat)
   case atStart=>exact ⟨0,most-1,rfl,rfl,by omega,by omega,by omega,bW _,by rw [HE.out];simp⟩
   case round =>
    obtain ⟨k,m,rfl,rfl,hk,hm3,hm4,hbr,hsm⟩:=hrel
    have HSM:=K3 hsm
    obtain ⟨d1,d2⟩:=HX.out wr hbr
    clear hsm c1 c2
    by_cases hlt:k<n
    ·by_cases hmn:0≤m
     ·obtain ⟨b,off,s,a',n',c',rfl,hU,hlt',hs,hT,e1,e2⟩:=(HLs.out wr hbr).at hlt
      have HS:=K3 hs
      have hbd:=O3 s m (deep-1) hmn
      have HR:Hid (F6 (l.drop (k+1)) (f0 s m (deep-1)) (deep-1)=z):=by
       show _=_
       rw [←HSM.out,a0N HS.out,K8,if_neg (by omega)]
      have HCall:Hid (Calls Tryz.prog 6 #[.agg #[.int .i64 s.f,.slice a' n' c'],.int .i64 m,.int .i64 (deep-1)] wr fun e w'=>e = .returned (.int .i64 (f0 s m (deep-1)))∧Below wr.heap.size wr w'):=HI.out s (List.mem_of_getElem? HS.out) U a' n' c' m (deep-1) wr hT hmn hm4 (by omega) (by omega)
      obtain ⟨y,hy⟩:∃ y,y=f0 s m (deep-1):=⟨_,rfl⟩
      rw [←hy] at HR HCall hbd
      clear hs hT hy
      go_wp2_with (go_at_call 6;refine HCall.out.mono ?_;rintro e w2 ⟨rfl,hb2⟩)
      go_roundw
      case rel=>exact ⟨k+1,y,rfl,by go_num,by omega,by omega,by omega,bN hbr hb2,HR.out⟩
      case measure=>simp [intOf];omega
     ·have HZ:Hid (z=m):=by show _=_;rw [←HSM.out,a2S _ _ (by omega)]
      go_wp2
      go_ret
      exact ⟨by rw [HZ.out];rfl,bN b1 hbr⟩
    ·have HZ:Hid (z=m):=by
      show _=_
      rw [←HSM.out,List.drop_eq_nil_of_le (by have:=HL.out.1;omega),Y2]
     go_wp2
     go_ret
     exact ⟨by rw [HZ.out];rfl,bN b1 hbr⟩
end Go.Proofs.YtekboofbedakcaaGreat
namespace Go.Proofs.YtekboofbedakcaaGreat
open Go.RowKit
set_option linter.unusedVariables false
set_option maxRecDepth 100000
def Tm.rng:Tm→Prop
 | ⟨f,l⟩=>(-9223372036854775808≤f∧f≤9223372036854775807)∧∀ t∈l,Tm.rng t
theorem Tm.rng_iff (t:Tm):t.rng↔(-9223372036854775808≤t.f∧t.f≤9223372036854775807)∧∀ s∈t.l,s.rng:=by cases t;rw [Tm.rng]
theorem a4v {U:Nat→Prop} {w:World}:∀ {l:List Tm} {xs:List Value},(∀ t∈l,∀ a n c,Tat U w t a n c→Rep (fun b _=>U b) w t.cv [.int .i64 t.f,.slice a n c])→Ecs U w l xs→Sq ((l.map Tm.cv).map fun c=>Rep (fun b _=>U b) w c) xs
 | [],xs,_,h=>Ecs.nil_iff.1 h
 | t::ts,xs,ht,h=>by
  obtain ⟨a,n,c,ys,e,h1,h2⟩:=Ecs.cons_iff.1 h
  exact ⟨[.int .i64 t.f,.slice a n c],ys,by rw [e];rfl,ht t (by simp) a n c h1,a4v (fun s hs=>ht s (List.mem_cons_of_mem _ hs)) h2⟩
theorem a3A {U:Nat→Prop} {w:World} {a:Option Addr} {xs:List Value} (h:Cu U w a xs):At (fun b _=>U b) w a xs:=by
 rcases h with h | ⟨b,off,h1,h2,h3,h4⟩
 ·exact .inl h
 ·exact .inr ⟨b,off,h1,fun i hi=>⟨h2,h4 i hi⟩⟩
theorem a8F {U:Nat→Prop} {w:World}:∀ {t:Tm} {a:Option Addr} {n c:Nat},Tat U w t a n c→Rep (fun b _=>U b) w t.cv [.int .i64 t.f,.slice a n c]:=by
 intro t
 induction t using Tm.ind with
 | h f l ih =>
  intro a n c h
  obtain ⟨_,h2,h3,h4,h5,xs,h6,h7⟩:=L9.1 h
  rw [Tm.cv_eq]
  refine s8.2 ⟨[.int .i64 f],[.slice a n c],rfl,F3 _ _,[.slice a n c],[],rfl,I0.2 ⟨a,n,c,rfl,by rw [List.length_map];exact h2,h3,h4,h5,xs,a3A h6,a4v (fun t ht a n c=>ih t ht) h7⟩,rfl⟩
theorem R0 {U:Nat→Prop} {w:World} {t:Tm} {a:Option Addr} {n c:Nat} (h:Tat U w t a n c):VRep (fun b _=>U b) w t.cw (.agg #[.int .i64 t.f,.slice a n c]):=by
 have:=a8F h
 rw [Tm.cv_eq] at this
 exact ⟨_,rfl,this⟩
theorem a4o {U:Nat→Nat→Prop} {w:World}:∀ {l:List Tm} {xs:List Value},(∀ t∈l,∀ ys,Rep U w t.cv ys→∃ a n c,ys=[.int .i64 t.f,.slice a n c]∧Tat (fun _=>True) w t a n c)→Sq ((l.map Tm.cv).map fun c=>Rep U w c) xs→Ecs (fun _=>True) w l xs
 | [],xs,_,h=>Ecs.nil_iff.2 h
 | t::ts,xs,ht,⟨ys,zs,e,h1,h2⟩=>by
  obtain ⟨a,n,c,e1,h3⟩:=ht t (by simp) ys h1
  exact Ecs.cons_iff.2 ⟨a,n,c,zs,by rw [e,e1];rfl,h3,a4o (fun s hs=>ht s (List.mem_cons_of_mem _ hs)) h2⟩
theorem a8p {U:Nat→Nat→Prop} {w:World}:∀ {t:Tm} {xs:List Value},t.rng→Rep U w t.cv xs→∃ a n c,xs=[.int .i64 t.f,.slice a n c]∧Tat (fun _=>True) w t a n c:=by
 intro t
 induction t using Tm.ind with
 | h f l ih =>
  intro xs hr h
  rw [Tm.rng_iff] at hr
  rw [Tm.cv_eq] at h
  obtain ⟨y1,y2,e1,h1,y3,y4,e2,h2,h3⟩:=s8.1 h
  obtain ⟨rfl,_⟩:=t7.1 h1
  obtain ⟨a,n,c,rfl,g2,g3,g4,g5,zs,g6,g7⟩:=I0.1 h2
  have h3:y4=[]:=h3
  subst h3
  refine ⟨a,n,c,by rw [e1,e2];rfl,L9.2 ⟨hr.1,by rw [List.length_map] at g2;exact g2,g3,g4,g5,zs,?_,a4o (fun t ht ys hy=>ih t ht (hr.2 t ht) hy) g7⟩⟩
  rcases g6 with g6 | ⟨b,off,g6,g8⟩
  ·exact .inl g6
  ·by_cases hz:zs=[]
   ·exact .inl hz
   ·refine .inr ⟨b,off,g6,trivial,?_,fun i hi=>(g8 i hi).2⟩
    have hpos:0<zs.length:=List.length_pos_iff.2 hz
    have:=(g8 0 hpos).2
    rw [List.getElem?_eq_getElem hpos] at this
    exact World.block_lt_of_cell? w _ this
theorem k9 {U:Nat→Nat→Prop} {w:World} {t:Tm} {v:Value} (hr:t.rng) (h:VRep U w t.cw v):∃ a n c,v = .agg #[.int .i64 t.f,.slice a n c]∧Tat (fun _=>True) w t a n c:=by
 obtain ⟨xs,h1,h2⟩:∃ xs:List Value,v = .agg xs.toArray∧Rep U w t.cw xs:=h
 rw [←Tm.cv_eq] at h2
 obtain ⟨a,n,c,h3,h4⟩:=a8p hr h2
 exact ⟨a,n,c,by rw [h1,h3],h4⟩
theorem a7w (W:World) {t s:Tm} (ht:t.rng) (hs:s.rng):AFun Tryz.prog W 19 [t.cw,s.cw] (.val (.b (A9 t s))):=by
 refine ⟨r9 Tryz.func19 rfl rfl,.inl rfl,rfl,?_⟩
 rintro U w vs hW ⟨u1,us1,rfl,h1,u2,us2,rfl,h2,h3⟩
 have h3:us2=[]:=h3
 subst h3
 obtain ⟨a,n,c,rfl,h4⟩:=k9 ht h1
 obtain ⟨a',n',c',rfl,h5⟩:=k9 hs h2
 refine (b2w t s a a' n c n' c' w h4 h5).mono ?_
 rintro e w' ⟨rfl,hb⟩
 exact ⟨_,rfl,b5.2 ⟨rfl,rfl⟩,hb⟩
theorem D7 (W:World) {t:Tm} (ht:t.rng) (hm:t.size≤90000000000):AFun Tryz.prog W 25 [t.cw] (.val t.strip.cw):=by
 refine ⟨r9 Tryz.func25 rfl rfl,.inl rfl,rfl,?_⟩
 rintro U w vs hW ⟨u1,us1,rfl,h1,h3⟩
 have h3:us1=[]:=h3
 subst h3
 obtain ⟨a,n,c,rfl,h4⟩:=k9 ht h1
 refine (b1e t a n c w h4 hm).mono ?_
 rintro e w' h
 obtain ⟨a',n',c',rfl,h5,hb⟩:=h.tat h4.wf
 refine ⟨_,rfl,?_,hb⟩
 have:=R0 h5
 rw [Tm.strip_f] at this
 exact this.mono fun b o h => .inr h
theorem a5t {U:Nat→Nat→Prop} {w:World}:∀ (l:List Int),Sq ((l.map CV.i).map fun c=>Rep U w c) (l.map (Value.int .i64))
 | []=>rfl
 | z::l=>⟨[.int .i64 z],l.map (Value.int .i64),rfl,F3 _ _,a5t l⟩
theorem b3n (W:World) {t:Tm} (ht:t.rng) (hm:t.size≤90000000000):AFun Tryz.prog W 96 [t.cw] (.val (.lst ((B0 t.flat).map CV.i))):=by
 refine ⟨r9 Tryz.func96 rfl rfl,.inl rfl,rfl,?_⟩
 rintro U w vs hW ⟨u1,us1,rfl,h1,h3⟩
 have h3:us1=[]:=h3
 subst h3
 obtain ⟨a,n,c,rfl,h4⟩:=k9 ht h1
 refine (b3z h4 hm).mono ?_
 rintro e w' ⟨va,vc,rfl,hp,hb⟩
 obtain ⟨p1,p2,p3,p4,p5⟩:=hp
 refine ⟨_,rfl,d8.2 ⟨va,_,vc,rfl,by simp,p2,p3,p4,(B0 t.flat).map (Value.int .i64),?_,a5t _⟩,hb⟩
 exact (a3A p5).keep fun b o v h1 h2=>⟨.inr h1,h2⟩
theorem M9 (W:World) (t:Tm) (most deep:Int) (ht:t.rng) (h0:0≤most) (h1:most≤60) (h2 : -1≤deep) (h3:deep≤20):AFun Tryz.prog W 6 [t.cw,.i most,.i deep] (.val (.i (f0 t most deep))):=by
 refine ⟨r9 Tryz.func6 rfl rfl,.inl rfl,rfl,?_⟩
 rintro U w vs hW ⟨u1,us1,rfl,g1,u2,us2,rfl,g2,u3,us3,rfl,g3,g4⟩
 have g4:us3=[]:=g4
 subst g4
 obtain ⟨a,n,c,rfl,h4⟩:=k9 ht g1
 obtain ⟨rfl,_⟩:=b5.1 g2
 obtain ⟨rfl,_⟩:=b5.1 g3
 refine (b1J t _ a n c most deep w h4 h0 h1 h2 h3).mono ?_
 rintro e w' ⟨rfl,hb⟩
 exact ⟨_,rfl,b5.2 ⟨rfl,rfl⟩,hb⟩
end Go.Proofs.YtekboofbedakcaaGreat
namespace Go.Proofs.YtekboofbedakcaaGreat
set_option linter.unusedVariables false
structure Bd where
 v:Int
 t:Tm
noncomputable abbrev Bd.cw (b:Bd):CV := .row [.i b.v,b.t.cw]
noncomputable def Bd.cv (b:Bd):CV:=b.cw
theorem Bd.size_all (l:List Bd):∀ c∈l.map Bd.cv,c.size=3:=by
 intro c hc
 obtain ⟨b,_,rfl⟩:=List.mem_map.1 hc
 rfl
theorem Bd.map_at {l:List Bd} {i:Nat} {b:Bd} (h:l[i]?=some b):(l.map Bd.cv)[i]?=some b.cw:=by rw [List.getElem?_map,h];rfl
def b7:List Bd→Int→Option Tm
 | [],_=>none
 | b::l,v=>if b.v=v then some b.t else b7 l v
theorem a3j {l:List Bd} {v:Int} (h:∀ b∈l,b.v≠v):b7 l v=none:=by
 induction l with
 | nil=>rfl
 | cons b l ih =>
  rw [b7,if_neg (h b (by simp)),ih (fun x hx=>h x (List.mem_cons_of_mem _ hx))]
theorem b3F {l:List Bd} {v:Int} {k:Nat} {b:Bd} (hb:l[k]?=some b) (hv:b.v=v) (h:∀ i c,i<k→l[i]?=some c→c.v≠v):b7 l v=some b.t:=by
 induction l generalizing k with
 | nil=>simp at hb
 | cons x l ih =>
  cases k with
  | zero=>simp at hb;subst hb;rw [b7,if_pos hv]
  | succ k =>
   rw [b7,if_neg (h 0 x (by omega) rfl)]
   exact ih (k:=k) (by simpa using hb) (fun i c hi hc=>h (i+1) c (by omega) (by simpa using hc))
def K2 (v:Int):Tm:=⟨-1-v,[]⟩
def t9 (l:List Bd) (v:Int):Tm:=(b7 l v).getD (K2 v)
def o5 (img:Int→Tm):Tm→Tm
 | ⟨f,l⟩=>if f<0 then (img (-1-f)).strip else ⟨f,l.map (o5 img)⟩
theorem p8 {img:Int→Tm} {t:Tm} (h:t.f<0):o5 img t=(img (-1-t.f)).strip:=by cases t;rw [o5,if_pos h]
theorem k8 {img:Int→Tm} {t:Tm} (h:¬ t.f<0):o5 img t=⟨t.f,t.l.map (o5 img)⟩:=by cases t;rw [o5,if_neg h]
end Go.Proofs.YtekboofbedakcaaGreat
namespace Go.Proofs.YtekboofbedakcaaGreat
open Go.RowKit
set_option linter.unusedVariables false
section
variable {P:Program} {w0:World} {U0:UX} {nt:Nat} {ops:Array Oper} {o:Oper} {S:Nat→Option AV} {gs:List Nat} {d:Nat}
theorem b6Y {d':Nat} (hg:Go w0 U0 nt ops o gs S) (hd:o.dst=some d') (hn:Nat.blt d' nt=true) (h5:Nat.blt d' 100000=true):AOp P w0 U0 nt ops o gs [] S [(d',.tup [])]:=by
 intro s hs _ a w ⟨D,hv,h⟩ Q K hK
 rw [if_neg (by rw [hg s hs a w D hv h];simp),hd]
 exact hK _ _ ⟨D,hv,h.put (bL hn) (bL h5) (by unfold AVRep;exact ⟨[],rfl,rfl⟩)⟩
theorem Z2 {P:Program} {w0:World} {U0:UX} {nt:Nat} {ops:Array Oper} {o:Oper} {S:Nat→Option AV} {gs:List Nat} {d':Nat} (p:Go w0 U0 nt ops o gs S:=by exact gd) (q:o.dst=some d':=by exact rfl) (r:Nat.blt d' nt=true:=by exact rfl) (t:Nat.blt d' 100000=true:=by exact rfl):AOp P w0 U0 nt ops o gs [] S [(d',.tup [])]:=b6Y p q r t
theorem o7 {j:Nat} {c:Bool} (hg:o.guard=some (j,c)) (hj:(ops[j]?).bind (·.dst)=some d) (h5:Nat.blt d 100000=true) (hS:S d=some (.tup [])):Go w0 U0 nt ops o [d] S:=fun s hs a w D hv h=>by
 obtain ⟨v,h1,h2⟩:=h.slot d _ ((hs d (by simp)).trans hS) (bL h5)
 obtain ⟨vs,h3,h4⟩:∃ vs:List Value,v = .tuple vs.toArray∧VReps (Us w0 U0 D) w [] vs:=h2
 simp [Region.wanted,hg,yielded,hj,h1,h3]
end
end Go.Proofs.YtekboofbedakcaaGreat
namespace Go.Proofs.YtekboofbedakcaaGreat
open Go.RowKit
set_option linter.unusedVariables false
set_option linter.unusedSimpArgs false
theorem X4 (b off j:Nat):(⟨b,off,none⟩:Addr).add j=⟨b,off+j,none⟩:=by unfold Addr.add;split<;>simp_all
section
variable {P:Program} {w0:World} {U0:UX} {nt:Nat} {ops:Array Oper} {o:Oper} {S:Nat→Option AV} {gs:List Nat} {d:Nat} {s:AS} {a:Act} {w:World} {D:Nat→Nat→Prop} {hv:Nat→Value}
theorem B4 {e:TypeId} {z:Nat} (hi:(P.info? e).map (·.size)=some z):(sizeOf e).run P w = .ok z w:=by
 cases hi':P.info? e with
 | none=>rw [hi'] at hi;simp at hi
 | some i=>rw [hi'] at hi;simp at hi;simp [sizeOf,typeInfo,hi',hi]
theorem SimG.mrow (h:SimG w0 U0 nt s a w D hv) {n e z:Nat} {l:List CV} (h1:look s n=some (.mrow e z l)) (hn:RN n):∃ xs,w.ownsRow 0 e z (hv n) l.length xs∧0<z∧(∀ c∈l,c.size=z)∧Sq (l.map fun c=>Rep (Us w0 U0 D) w c) xs:=by
 have:OC (Us w0 U0 D) w hv (b6 s) (.mrow e z l) (hv n):=h.obj n _ h1 (by unfold RN at hn;unfold n7;omega)
 exact this
theorem a0v {e z:Nat} {v:Value} {k:Nat} {xs:List Value} (h:w.ownsRow 0 e z v k xs) (hk:0<k):∃ g cap cur,v = .slice (some ⟨g,0,none⟩) k cap∧w.heap[g]?=some (.cells cur e (0,0))∧k≤cap∧cap≤maxLen∧cur.size=cap*z∧cur.toList.take (k*z)=xs∧o8 v=g∧hb v=some g:=by
 rcases h.2 with ⟨_,rfl⟩ | ⟨g,cap,cur,rfl,_,h3,h4,h5,h6,h7⟩
 ·omega
 ·exact ⟨g,cap,cur,rfl,h3,h4,h5,h6,h7,rfl,rfl⟩
section
variable (hg:Gd w0 U0 nt ops o gs S) (hd:o.dst=some d) (hn:Nat.blt d nt=true) (h5:Nat.blt d 100000=true)
include hg hd hn h5
theorem b7C {x:Operand} {t e:TypeId} {ts:Array TypeId} {n lo len z:Nat} (ho:o.op = .call { callee := .builtin .len,args := #[x],argTypes:=ts }) (ht:ts[0]?=some t) (hu:P.underlying t=some (.slice e)) (hx:ev S x=some (.sl n lo len z)):AOp P w0 U0 nt ops o (gs++rd x) [] S [(d,.val (.i len))]:=
 d7 hg hd hn h5 (fun k hk=>List.mem_append_left _ hk) fun s hs a w D hv hm=>by
  obtain ⟨_,ao,m,cap,ao',h1,h2,_⟩:RN n∧SlV (hv n) lo len z (a.eval x):=j6 hm (fun k hk=>hs k (List.mem_append_right _ hk)) hx
  refine ⟨.int .i64 len,?_,m7 rfl⟩
  generalize a.eval=ρ at h2 ⊢
  simp [execOp,ho,resolve,invoke,builtin,Builtin.len_,ht,h2,goInt,run_underlying hu,go_sem]
theorem aIm {x y:Operand} {ty e e':TypeId} {l:List CV} {i:Int} {k n lo len z:Nat} {kd:IntKind} {n' q' p'} (ho:o.op = .indexAddr ty x y) (hu:P.underlying ty=some (.slice e)) (hi:(P.info? e).map (·.size)=some z) (hx:ev S x=some (.sl n lo len z)) (hy:ev S y=some ⟨0,.sc (.int kd i),n',q',p'⟩) (hm':S n=some (.mrow e' z l)) (hk:i+(lo:Int)=(k:Int)∧lo≤k∧k<lo+len∧lo+len≤l.length):AOp P w0 U0 nt ops o (gs++(rd x++(rd y++[n]))) [] S [(d,.el n (k*z) [k])]:=
 d7 hg hd hn h5 (fun k hk=>List.mem_append_left _ hk) fun s hs a w D hv hm=>by
  obtain ⟨hij,hlo,hj,hl⟩:=hk
  obtain ⟨j,rfl⟩:∃ j,k=lo+j:=⟨k-lo,by omega⟩
  obtain ⟨hrn,ao,m,cap,ao',h1,h2,h3,h4,h6,_⟩:RN n∧SlV (hv n) lo len z (a.eval x):=j6 hm (fun k hk=>hs k (List.mem_append_right _ (List.mem_append_left _ hk))) hx
  have e2:=s6 hm (fun k hk=>hs k (List.mem_append_right _ (List.mem_append_right _ (List.mem_append_left _ hk)))) hy
  obtain ⟨xs,g1,_⟩:=hm.mrow ((hs n (by simp)).trans hm') hrn
  obtain ⟨g,cap',cur,f1,f2,f3,f4,f6,f7,f8,f9⟩:=a0v g1 (by omega)
  rw [f1] at h1
  injection h1 with h1 h7 h8
  subst h1;subst h7;subst h8
  have ha:ao'=some ⟨g,lo*z,none⟩:=h6 (by omega) g rfl
  subst ha
  have hij:i=(j:Int):=by omega
  have hj:j<len:=by omega
  subst hij
  have hsz:=B4 (P:=P) (w:=w) hi
  refine ⟨.pointer (some ⟨g,(lo+j)*z,none⟩),?_,?_⟩
  ·have hadd:(⟨g,lo*z,none⟩:Addr).add (j*z)=⟨g,(lo+j)*z,none⟩:=by rw [X4,Nat.add_mul]
   generalize a.eval=ρ at h2 e2 ⊢
   simp [execOp,ho,Instr.indexAt,asIntOf,h2,e2,run_underlying hu,hj,hsz,hadd]
  ·exact ⟨hrn,by show _=Value.pointer (some ⟨o8 (hv n),_,none⟩);rw [f8]⟩
theorem b3R {x:Operand} {ty:TypeId} {fs:Array Field} {i:Nat} {f:Field} {n q p z} (ho:o.op = .fieldAddr ty x i) (hu:P.underlying ty=some (.struct fs)) (hf:fs[i]?=some f) (hz:(P.info? f.type).map (·.size)=some z) (hz0:Nat.beq z 0=false) (hx:ev S x=some (.el n q p)):AOp P w0 U0 nt ops o (gs++rd x) [] S [(d,.el n (q+f.offset) (p++[i]))]:=
 d7 hg hd hn h5 (fun k hk=>List.mem_append_left _ hk) fun s hs a w D hv hm=>by
  obtain ⟨hrn,h1⟩:RN n∧a.eval x = .pointer (some ⟨o8 (hv n),q,none⟩):=j6 hm (fun k hk=>hs k (List.mem_append_right _ hk)) hx
  have hsz:=B4 (P:=P) (w:=w) hz
  have hz1:z≠0:=fun e=>by rw [e] at hz0;cases hz0
  refine ⟨.pointer (some ⟨o8 (hv n),q+f.offset,none⟩),?_,hrn,rfl⟩
  have hadd:=X4 (o8 (hv n)) q f.offset
  generalize a.eval=ρ at h1 ⊢
  simp [execOp,ho,Instr.fieldAt,run_underlying hu,hf,Instr.sureAddr,h1,fieldPlace,hsz,hz1,hadd]
omit hg hd hn h5 in
theorem b4X {U:Nat→Nat→Prop} {e z k j m q:Nat} {v:Value} {l:List CV} {c c':CV} {p:List Nat} {xs:List Value} (h:w.ownsRow 0 e z v l.length xs) (hsq:Sq (l.map fun c=>Rep U w c) xs) (hz:∀ c∈l,c.size=z) (hc:l[j]?=some c) (hat:c.at p=some (m,c')) (hq:q=j*z+m) :
  ∃ g cap cur ys zs us,v = .slice (some ⟨g,0,none⟩) l.length cap∧o8 v=g∧hb v=some g∧w.heap[g]?=some (.cells cur e (0,0))∧l.length≤cap∧cap≤maxLen∧cur.size=cap*z∧cur.toList.take (l.length*z)=xs∧cur.toList=ys++zs++us∧ys.length=q∧Rep U w c' zs:=by
 have hjl:j<l.length:=by
  rcases Nat.lt_or_ge j l.length with h | h
  ·exact h
  ·rw [List.getElem?_eq_none h] at hc;cases hc
 obtain ⟨g,cap,cur,f1,f2,f3,f4,f6,f7,f8,f9⟩:=a0v h (by omega)
 obtain ⟨y1,z1,u1,e1,e2,e3⟩:=b4H hz hsq hc
 obtain ⟨y2,z2,u2,e4,e5,e6⟩:=a5A hat e3
 refine ⟨g,cap,cur,y1++y2,z2,u2++(u1++cur.toList.drop (l.length*z)),f1,f8,f9,f2,f3,f4,f6,f7,?_,by rw [List.length_append,e2,e5,hq],e6⟩
 conv=>lhs;rw [←List.take_append_drop (l.length*z) cur.toList,f7,e1,e4]
 simp
theorem b4U {x:Operand} {ty:TypeId} {ds:TypeDesc} {e z z' j m n q:Nat} {l:List CV} {c c':CV} {p:List Nat} (ho:o.op = .load ty x) (hu:P.underlying ty=some ds) (hi:(P.info? ty).map (·.size)=some z') (hx:ev S x=some (.el n q (j::p))) (hm':S n=some (.mrow e z l)) (hc:l[j]?=some c) (hat:c.at p=some (m,c')) (hq:q=j*z+m) (hk:K1 ds=Nat.beq c'.k 2) (hz:c'.size=z'):AOp P w0 U0 nt ops o (gs++(rd x++[n])) [] S [(d,.val c')]:=
 d7 hg hd hn h5 (fun k hk=>List.mem_append_left _ hk) fun s hs a w D hv hm=>by
  obtain ⟨hrn,h1⟩:RN n∧a.eval x = .pointer (some ⟨o8 (hv n),q,none⟩):=j6 hm (fun k hk=>hs k (List.mem_append_right _ (List.mem_append_left _ hk))) hx
  obtain ⟨xs,g1,g2,g3,g4⟩:=hm.mrow ((hs n (by simp)).trans hm') hrn
  obtain ⟨g,cap,cur,ys,zs,us,f1,f2,f3,f4,f6,f7,f8,f9,f10,f11,f12⟩:=b4X (k:=0) g1 g4 g3 hc hat hq
  rw [f2] at h1
  obtain ⟨v,h6,h7,h8⟩:=q8 hu hi hk hz f12 (b:=g) (off:=q) (fun i hi=>by rw [←f11];exact H0 (xs:=cur.toList) (by rw [Array.toArray_toList];exact f4) f10 i hi)
  refine ⟨v,?_,i7 h7⟩
  generalize a.eval=ρ at h1 ⊢
  simp [execOp,ho,Instr.loadAt,Instr.sureAddr,h1,h6]
theorem b6g {x y:Operand} {t e:TypeId} {z:Nat} {k:IntKind} {i:Int} {j n lo len:Nat} {n' q' p'} (ho:o.op = .slice t x (some y) none none) (hu:P.underlying t=some (.slice e)) (hi:(P.info? e).map (·.size)=some z) (hx:ev S x=some (.sl n lo len z)) (hy:ev S y=some ⟨0,.sc (.int k i),n',q',p'⟩) (hij:i=(j:Int)) (hj:j≤len):AOp P w0 U0 nt ops o (gs++(rd x++rd y)) [] S [(d,.sl n (lo+j) (len-j) z)]:=
 d7 hg hd hn h5 (fun k hk=>List.mem_append_left _ hk) fun s hs a w D hv hm=>by
  obtain ⟨hrn,ao,m,cap,ao',h1,h2,h3,h4,h6,h7⟩:RN n∧SlV (hv n) lo len z (a.eval x):=j6 hm (fun k hk=>hs k (List.mem_append_right _ (List.mem_append_left _ hk))) hx
  have e2:=s6 hm (fun k hk=>hs k (List.mem_append_right _ (List.mem_append_right _ hk))) hy
  have hsz:=B4 (P:=P) (w:=w) hi
  refine ⟨.slice (if cap-lo=j then ao' else ao'.map (·.add (j*z))) (len-j) (cap-lo-j),?_,hrn,ao,m,cap,_,h1,by rw [Nat.sub_sub];rfl,by show lo+j+(len-j)≤cap;omega,fun h8=>?_,fun h8=>?_,?_⟩
  ·have hb:=T1 (P:=P) (w:=w) (k:=k) (j:=j) (y:=len) (code := .sliceB) hj
   subst hij
   generalize a.eval=ρ at h2 e2 ⊢
   simp [execOp,ho,Instr.sliceAt,Instr.slice,run_underlying hu,h2,e2,Instr.sliceBounds,hb,hsz]
  ·have h8:lo+j=0:=h8
   have hj0:j=0:=by omega
   subst hj0
   rw [h4 (by omega)]
   split
   ·rfl
   ·cases ao with
    | none=>rfl
    | some ad=>simp [Addr.add]
  ·have h8:lo+j<cap:=h8
   intro g hg'
   rw [if_neg (by omega),h6 (by omega) g hg']
   show some ((⟨g,lo*z,none⟩:Addr).add (j*z))=some ⟨g,(lo+j)*z,none⟩
   rw [X4,Nat.add_mul]
  ·split
   ·exact h7
   ·rw [Option.map_eq_none_iff];exact h7
theorem b5b {x y:Operand} {t e:TypeId} {z:Nat} {k:IntKind} {i:Int} {j n lo len:Nat} {n' q' p'} (ho:o.op = .slice t x none (some y) none) (hu:P.underlying t=some (.slice e)) (hi:(P.info? e).map (·.size)=some z) (hx:ev S x=some (.sl n lo len z)) (hy:ev S y=some ⟨0,.sc (.int k i),n',q',p'⟩) (hij:i=(j:Int)) (hj:j≤len):AOp P w0 U0 nt ops o (gs++(rd x++rd y)) [] S [(d,.sl n lo j z)]:=
 d7 hg hd hn h5 (fun k hk=>List.mem_append_left _ hk) fun s hs a w D hv hm=>by
  obtain ⟨hrn,ao,m,cap,ao',h1,h2,h3,h4,h6,h7⟩:RN n∧SlV (hv n) lo len z (a.eval x):=j6 hm (fun k hk=>hs k (List.mem_append_right _ (List.mem_append_left _ hk))) hx
  have e2:=s6 hm (fun k hk=>hs k (List.mem_append_right _ (List.mem_append_right _ hk))) hy
  have hsz:=B4 (P:=P) (w:=w) hi
  have K3:(if cap-lo=0 then ao' else ao'.map (·.add (0*z)))=ao':=by
   split
   ·rfl
   ·cases ao' with
    | none=>rfl
    | some ad=>simp [Addr.add]
  refine ⟨.slice ao' j (cap-lo),?_,hrn,ao,m,cap,ao',h1,rfl,by show lo+j≤cap;omega,h4,h6,h7⟩
  have hb:=T1 (P:=P) (w:=w) (k:=k) (j:=j) (y:=cap-lo) (code := .sliceAcap) (by omega)
  subst hij
  generalize a.eval=ρ at h2 e2 ⊢
  simp [execOp,ho,Instr.sliceAt,Instr.slice,run_underlying hu,h2,e2,Instr.sliceBounds,hb,hsz,K3]<;>simpa using K3
end
theorem zU {P:Program} {w0:World} {U0:UX} {nt:Nat} {ops:Array Oper} {o:Oper} {S:Nat→Option AV} {gs:List Nat} {d:Nat} {x:Operand} {t:TypeId} {e:TypeId} {ts:Array TypeId} {n:Nat} {lo:Nat} {len:Nat} {z:Nat} (p:Gd w0 U0 nt ops o gs S:=by exact gN rfl) (q:o.dst=some d:=by exact rfl) (r:Nat.blt d nt=true:=by exact rfl) (u:Nat.blt d 100000=true:=by exact rfl) (v:o.op = .call { callee := .builtin .len,args := #[x],argTypes:=ts }:=by exact rfl) (y:ts[0]?=some t:=by exact rfl) (A:P.underlying t=some (.slice e):=by exact rfl) (B:ev S x=some (.sl n lo len z):=by exact rfl):AOp P w0 U0 nt ops o (gs++rd x) [] S [(d,.val (.i len))]:=b7C p q r u v y A B
theorem zV {P:Program} {w0:World} {U0:UX} {nt:Nat} {ops:Array Oper} {o:Oper} {S:Nat→Option AV} {gs:List Nat} {d:Nat} {x:Operand} {y:Operand} {ty:TypeId} {e:TypeId} {e':TypeId} {l:List CV} {i:Int} {k:Nat} {n:Nat} {lo:Nat} {len:Nat} {z:Nat} {kd:IntKind} {n'} {q'} {p'} (p:Gd w0 U0 nt ops o gs S:=by exact gN rfl) (q:o.dst=some d:=by exact rfl) (r:Nat.blt d nt=true:=by exact rfl) (t:Nat.blt d 100000=true:=by exact rfl) (u:o.op = .indexAddr ty x y:=by exact rfl) (v:P.underlying ty=some (.slice e):=by exact rfl) (A:(P.info? e).map (·.size)=some z:=by exact rfl) (B:ev S x=some (.sl n lo len z):=by exact rfl) (C:ev S y=some ⟨0,.sc (.int kd i),n',q',p'⟩:=by exact rfl) (E:S n=some (.mrow e' z l):=by exact rfl) (F:i+(lo:Int)=(k:Int)∧lo≤k∧k<lo+len∧lo+len≤l.length:=by first | rfl | omega | (simp only [List.length_set,List.length_map,List.length_append,List.length_cons,List.length_nil]<;>omega) | (simp<;>omega)):AOp P w0 U0 nt ops o (gs++(rd x++(rd y++[n]))) [] S [(d,.el n (k*z) [k])]:=aIm p q r t u v A B C E F
theorem zW {P:Program} {w0:World} {U0:UX} {nt:Nat} {ops:Array Oper} {o:Oper} {S:Nat→Option AV} {gs:List Nat} {d:Nat} {x:Operand} {ty:TypeId} {ds:TypeDesc} {e:Nat} {z:Nat} {z':Nat} {j:Nat} {m:Nat} {n:Nat} {q:Nat} {l:List CV} {c:CV} {c':CV} {p:List Nat} (r:Gd w0 U0 nt ops o gs S:=by exact gN rfl) (t:o.dst=some d:=by exact rfl) (u:Nat.blt d nt=true:=by exact rfl) (y:Nat.blt d 100000=true:=by exact rfl) (A:o.op = .load ty x:=by exact rfl) (B:P.underlying ty=some ds:=by exact rfl) (C:(P.info? ty).map (·.size)=some z':=by exact rfl) (E:ev S x=some (.el n q (j::p)):=by exact rfl) (F:S n=some (.mrow e z l):=by exact rfl) (G:l[j]?=some c) (H:c.at p=some (m,c'):=by exact rfl) (hq:q=j*z+m:=by first | rfl | omega | (simp only [List.length_set,List.length_map,List.length_append,List.length_cons,List.length_nil]<;>omega) | (simp<;>omega)) (hk:K1 ds=Nat.beq c'.k 2:=by exact rfl) (hz:c'.size=z':=by exact rfl):AOp P w0 U0 nt ops o (gs++(rd x++[n])) [] S [(d,.val c')]:=b4U r t u y A B C E F G H hq hk hz
theorem zbb {P:Program} {w0:World} {U0:UX} {nt:Nat} {ops:Array Oper} {o:Oper} {S:Nat→Option AV} {gs:List Nat} {d:Nat} {x:Operand} {ty:TypeId} {fs:Array Field} {i:Nat} {f:Field} {n} {q} {p} {z} (r:Gd w0 U0 nt ops o gs S:=by exact gN rfl) (t:o.dst=some d:=by exact rfl) (u:Nat.blt d nt=true:=by exact rfl) (v:Nat.blt d 100000=true:=by exact rfl) (y:o.op = .fieldAddr ty x i:=by exact rfl) (A:P.underlying ty=some (.struct fs):=by exact rfl) (B:fs[i]?=some f:=by exact rfl) (C:(P.info? f.type).map (·.size)=some z:=by exact rfl) (E:Nat.beq z 0=false:=by exact rfl) (F:ev S x=some (.el n q p):=by exact rfl):AOp P w0 U0 nt ops o (gs++rd x) [] S [(d,.el n (q+f.offset) (p++[i]))]:=b3R r t u v y A B C E F
theorem zbC {P:Program} {w0:World} {U0:UX} {nt:Nat} {ops:Array Oper} {o:Oper} {S:Nat→Option AV} {gs:List Nat} {d:Nat} {x:Operand} {y:Operand} {t:TypeId} {e:TypeId} {z:Nat} {k:IntKind} {i:Int} {j:Nat} {n:Nat} {lo:Nat} {len:Nat} {n'} {q'} {p'} (p:Gd w0 U0 nt ops o gs S:=by exact gN rfl) (q:o.dst=some d:=by exact rfl) (r:Nat.blt d nt=true:=by exact rfl) (u:Nat.blt d 100000=true:=by exact rfl) (v:o.op = .slice t x (some y) none none:=by exact rfl) (A:P.underlying t=some (.slice e):=by exact rfl) (B:(P.info? e).map (·.size)=some z:=by exact rfl) (C:ev S x=some (.sl n lo len z):=by exact rfl) (E:ev S y=some ⟨0,.sc (.int k i),n',q',p'⟩:=by exact rfl) (F:i=(j:Int):=by first | rfl | omega | (simp only [List.length_set,List.length_map,List.length_append,List.length_cons,List.length_nil]<;>omega) | (simp<;>omega)) (G:j≤len:=by first | rfl | omega | (simp only [List.length_set,List.length_map,List.length_append,List.length_cons,List.length_nil]<;>omega) | (simp<;>omega)):AOp P w0 U0 nt ops o (gs++(rd x++rd y)) [] S [(d,.sl n (lo+j) (len-j) z)]:=b6g p q r u v A B C E F G
theorem zbE {P:Program} {w0:World} {U0:UX} {nt:Nat} {ops:Array Oper} {o:Oper} {S:Nat→Option AV} {gs:List Nat} {d:Nat} {x:Operand} {y:Operand} {t:TypeId} {e:TypeId} {z:Nat} {k:IntKind} {i:Int} {j:Nat} {n:Nat} {lo:Nat} {len:Nat} {n'} {q'} {p'} (p:Gd w0 U0 nt ops o gs S:=by exact gN rfl) (q:o.dst=some d:=by exact rfl) (r:Nat.blt d nt=true:=by exact rfl) (u:Nat.blt d 100000=true:=by exact rfl) (v:o.op = .slice t x none (some y) none:=by exact rfl) (A:P.underlying t=some (.slice e):=by exact rfl) (B:(P.info? e).map (·.size)=some z:=by exact rfl) (C:ev S x=some (.sl n lo len z):=by exact rfl) (E:ev S y=some ⟨0,.sc (.int k i),n',q',p'⟩:=by exact rfl) (F:i=(j:Int):=by first | rfl | omega | (simp only [List.length_set,List.length_map,List.length_append,List.length_cons,List.length_nil]<;>omega) | (simp<;>omega)) (G:j≤len:=by first | rfl | omega | (simp only [List.length_set,List.length_map,List.length_append,List.length_cons,List.length_nil]<;>omega) | (simp<;>omega)):AOp P w0 U0 nt ops o (gs++(rd x++rd y)) [] S [(d,.sl n lo j z)]:=b5b p q r u v A B C E F G
theorem a8u {α:Type} {l:List α} {j:Nat} {c x:α} (h:x∈l.set j c):x∈l∨x=c:=by
 rcases List.mem_or_eq_of_mem_set h with h | h
 ·exact .inl h
 ·exact .inr h
theorem b2s (hg:Gd w0 U0 nt ops o gs S) (hd:o.dst=none) {x y:Operand} {ty:TypeId} {e z z' j m n q:Nat} {l:List CV} {c c' c2 v:CV} {p:List Nat} {m1 q1 p1} (ho:o.op = .store ty x y) (hi:(P.info? ty).map (·.size)=some z') (hx:ev S x=some (.el n q (j::p))) (hm':S n=some (.mrow e z l)) (hy:ev S y=some ⟨0,v,m1,q1,p1⟩) (hc:l[j]?=some c) (hat:c.at p=some (m,c')) (hup:c.upO p v=some c2) (hq:q=j*z+m) (hz:v.size=z') :
  AOp P w0 U0 nt ops o (gs++(rd x++(rd y++[n]))) [] S [(n,.mrow e z (l.set j c2))]:=by
 intro s hs hN a w ⟨D,hv,h⟩ Q K hK
 rw [if_pos (hg s (fun k hk=>hs k (List.mem_append_left _ hk)) a w D hv h)]
 have hm:=(hs n (by simp)).trans hm'
 obtain ⟨hrn,h1⟩:RN n∧a.eval x = .pointer (some ⟨o8 (hv n),q,none⟩):=j6 h (fun k hk=>hs k (List.mem_append_right _ (List.mem_append_left _ hk))) hx
 have h2:=C2 h (fun k hk=>hs k (List.mem_append_right _ (List.mem_append_right _ (List.mem_append_left _ hk)))) hy
 obtain ⟨xs,g1,g2,g3,g4⟩:=h.mrow hm hrn
 have hjl:j<l.length:=by
  rcases Nat.lt_or_ge j l.length with h | h
  ·exact h
  ·rw [List.getElem?_eq_none h] at hc;cases hc
 obtain ⟨g,cap,cur,f1,f2,f3,f4,f6,f7,f8,f9⟩:=a0v g1 (by omega)
 rw [f8] at h1
 have hl:l=l.take j++c::l.drop (j+1):=by
  rw [List.getElem?_eq_getElem hjl] at hc
  rw [←Option.some.inj hc,List.getElem_cons_drop,List.take_append_drop]
 have g4':=g4
 rw [hl,List.map_append] at g4'
 obtain ⟨y1,r1,e1,s1,z1,u1,e2,s2,s3⟩:=G7 g4'
 obtain ⟨u1',u2⟩:=a0m (U:=Us w0 U0 D) (w:=w) (xs:=z1) hat hup
 obtain ⟨y2,z2,u3,e3,e4,e5,e6⟩:=u2 s2
 have hy1:y1.length=j*z:=by rw [F7 (n:=CV.size) (fun c _ xs h=>h.len) s1,w8 (fun c hc=>g3 c (List.mem_of_mem_take hc)),List.length_take,Nat.min_eq_left (by omega)]
 have hvl:=h2.cells.len
 have hcur:cur.toList=(y1++y2)++z2++(u3++u1++cur.toList.drop (l.length*z)):=by
  conv=>lhs;rw [←List.take_append_drop (l.length*z) cur.toList,f7,e1,e2,e3]
  simp
 have hrun:=C0 (P:=P) (ys:=y1++y2) (zs:=z2) (us:=u3++u1++cur.toList.drop (l.length*z)) (q:=q) (z:=z') hi (by rw [←hcur,Array.toArray_toList];exact f2) (by rw [List.length_append,hy1,e4,hq]) (v:=a.eval y) rfl (by rw [hvl,e5]) (by rw [hvl,hz]) h2.cells.one
 have he:(execOp a.eval o).run P w = .ok .skip (w.setRow g (y1++y2++(a.eval y).cells.toList++(u3++u1++cur.toList.drop (l.length*z))).toArray):=by
  generalize a.eval=ρ at h1 hrun ⊢
  simp [execOp,ho,Instr.storeAt,Instr.sureAddr,h1,hrun]
 unfold Oper.wp
 rw [he,Oper.upon_skip,hd]
 have hok:n7 n:=by unfold RN at hrn;unfold n7;omega
 refine hK _ _ ⟨_,_,h.store (av := .mrow e z (l.set j c2)) hok hm (by simp) (by simp) rfl (fun g' hn o _=>hn o (by simp)) (by simp) f9 f2 fun w' hw hkp=>?_⟩
 have hnew:=(e6 _ h2.cells).keep hkp
 have hsz2:c2.size=z:=by
  have a1:=hnew.len
  have a2:=s2.len
  rw [e3,g3 c (List.mem_of_getElem? hc)] at a2
  simp only [List.length_append] at a1 a2
  omega
 refine ⟨y1++(y2++(a.eval y).cells.toList++u3)++u1,⟨?_,.inr ⟨g,cap,_,?_,Nat.zero_le _,hw,?_,f4,?_,?_⟩⟩,g2,fun x hx=>?_,?_⟩
 ·have a1:=g1.1
  rw [e1,e2,e3] at a1
  simp only [List.length_append] at a1 ⊢
  show _=(l.set j c2).length*z
  rw [List.length_set]
  omega
 ·show hv n = .slice _ (l.set j c2).length cap
  rw [List.length_set];exact f1
 ·show (l.set j c2).length≤cap
  rw [List.length_set];exact f3
 ·have:=congrArg List.length hcur
  rw [Array.length_toList,f6] at this
  simp only [List.size_toArray,List.length_append] at this ⊢
  show _=cap*z
  omega
 ·show List.take ((l.set j c2).length*z) _=_
  rw [List.length_set]
  have a1:=g1.1
  rw [e1,e2,e3] at a1
  simp only [List.length_append] at a1
  have e7:y1++y2++(a.eval y).cells.toList++(u3++u1++cur.toList.drop (l.length*z))=(y1++(y2++(a.eval y).cells.toList++u3)++u1)++cur.toList.drop (l.length*z):=by simp
  rw [e7,List.take_append_of_le_length (by simp only [List.length_append];omega),List.take_of_length_le (by simp only [List.length_append];omega)]
 ·rcases a8u hx with hx | rfl
  ·exact g3 x hx
  ·exact hsz2
 ·show Sq ((l.set j c2).map fun c=>Rep (Us w0 U0 D) w' c) _
  have hs':l.set j c2=l.take j++c2::l.drop (j+1):=by
   conv=>lhs;rw [hl]
   rw [List.set_append_right _ _ (by simp;omega)]
   simp [Nat.min_eq_left (Nat.le_of_lt hjl)]
  rw [hs',List.map_append,List.append_assoc]
  exact D6 (Sq.keep hkp s1) ⟨_,u1,rfl,hnew,Sq.keep hkp s3⟩
theorem zbi {P:Program} {w0:World} {U0:UX} {nt:Nat} {ops:Array Oper} {o:Oper} {S:Nat→Option AV} {gs:List Nat} {x:Operand} {y:Operand} {ty:TypeId} {e:Nat} {z:Nat} {z':Nat} {j:Nat} {m:Nat} {n:Nat} {q:Nat} {l:List CV} {c:CV} {c':CV} {c2:CV} {v:CV} {p:List Nat} {m1} {q1} {p1} (r:Gd w0 U0 nt ops o gs S:=by exact gN rfl) (t:o.dst=none:=by exact rfl) (u:o.op = .store ty x y:=by exact rfl) (A:(P.info? ty).map (·.size)=some z':=by exact rfl) (B:ev S x=some (.el n q (j::p)):=by exact rfl) (C:S n=some (.mrow e z l):=by exact rfl) (E:ev S y=some ⟨0,v,m1,q1,p1⟩:=by exact rfl) (F:l[j]?=some c) (G:c.at p=some (m,c'):=by exact rfl) (H:c.upO p v=some c2:=by exact rfl) (hq:q=j*z+m:=by first | rfl | omega | (simp only [List.length_set,List.length_map,List.length_append,List.length_cons,List.length_nil]<;>omega) | (simp<;>omega)) (hz:v.size=z':=by exact rfl):AOp P w0 U0 nt ops o (gs++(rd x++(rd y++[n]))) [] S [(n,.mrow e z (l.set j c2))]:=b2s r t u A B C E F G H hq hz
end
end Go.Proofs.YtekboofbedakcaaGreat
