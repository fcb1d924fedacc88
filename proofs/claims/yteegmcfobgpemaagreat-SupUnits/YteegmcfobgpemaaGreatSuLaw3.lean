/-
 SupUnits: a unit of a greater side and a lesser one rewrites an atom that has it inside.
-/
import Derived.Test.YteegmcfobgpemaaGreatMg12
import Derived.Test.YteegmcfobgpemaaGreatMg9
import Derived.Test.YteegmcfobgpemaaGreatAbShp
namespace Go.Proofs.YteegmcfobgpemaaGreat
open List (append_nil filter_cons length_append length_cons length_map length_nil map_cons map_nil mem_singleton sum_cons sum_nil)
open Go.RowKit
set_option linter.unusedVariables false
set_option linter.unusedSimpArgs false
set_option maxRecDepth 100000
def Q0 (c:List Lt):Nat:=(c.filter Lt.neg).length
theorem a0W (a b:List Lt):Q0 (a++b)=Q0 a+Q0 b:=by unfold Q0;rw [List.filter_append,length_append]
theorem b0n (g:Lt->Lt) (hg:∀ l,(g l).neg=l.neg) (c:List Lt):Q0 (c.map g)=Q0 c:=by
 unfold Q0;rw [List.filter_map,length_map];congr 2;funext l;exact hg l
theorem a9C (σ:Int->Tm) (c:List Lt):Q0 (c.map (Lt.rep σ))=Q0 c:=b0n (Lt.rep σ) (fun _=>rfl) c
theorem a4l (c:List Lt):Q0 (c.map Lt.strip)=Q0 c:=b0n Lt.strip (fun _=>rfl) c
theorem c3k (c:List Lt):Q0 c<=c.length:=List.length_filter_le _ _
theorem a9i {c:List Lt} {n:Nat} {l:Lt} (h:c[n]?=some l):Q0 (a2p c n)+(if l.neg=true then 1 else 0)=Q0 c:=by
 have e:c=c.take n++l::c.drop (n+1):=by conv=>lhs;rw [<-List.take_append_drop n c,U3 h]
 conv=>rhs;rw [e]
 unfold a2p;rw [a0W,a0W];unfold Q0;rw [filter_cons];cases l.neg<;>simp<;>omega
theorem c3O {c d:List Lt} {n:Nat}:(rnC c d)[n]?=(d[n]?).map (Lt.rep (shV (Y2 c+1))):=by unfold rnC;rw [List.getElem?_map]
theorem b8I {free:Bool} {c d z:List Lt} (h:z∈a4n free c d):Q0 z=Q0 c+Q0 d:=by
 obtain ⟨m,hm,_,rfl⟩:=b2C h;have hk:=a8q hm;rw [a9C];unfold E6;rw [a0W,a0W,a4l,a4l];obtain ⟨l,h1,_,h3⟩:=hk.fr;obtain ⟨k,k1,_⟩:=hk.ti;have a1:=a9i h1;rw [h3,if_neg (by simp)] at a1;have a2:=a9i k1;have a3:Q0 (rnC c d)=Q0 d:=a9C _ d;have a4:v9 (rnC c d) m.ti.n=k.neg:=by unfold v9;rw [k1]
 rw [a4];have a5:Q0 [(⟨k.neg,(C8 m.fr.b m.pl m.ti.a).getD ⟨0,[]⟩,m.ti.b⟩:Lt)]=if k.neg=true then 1 else 0:=by unfold Q0;rw [filter_cons];cases k.neg<;>rfl
 rw [a5];omega
theorem b9f (l:Lt) (h:l.neg=true):P3 [l]=[0]:=by
 have h1:hvK [l] 1=(0,wtL l):=by unfold hvK;show (if l.neg=true/\(hvK [l] 0).2<wtL l then _ else _)=_;rw [if_pos ⟨h,b9q l⟩];rfl
 unfold P3;show (if (hvK [l] 1).1>=0 then _ else _)=_;rw [h1,if_pos (show (0:Int)>=0 by decide)];show [(hvK [l] 1).1]=[0];rw [h1]
def T7 (b:Tm):Nat->Tm
 | 0=>b
 | k+1=>⟨7,[T7 b k]⟩
def u9 (t:Tm):Tm:=⟨9,[t]⟩
def u6 (t:Tm):Tm:=⟨6,[t]⟩
theorem a7z {f:Int} {t:Tm} (hf:0<=f/\f<=100) (h:t.rng/\t.ok):(⟨f,[t]⟩:Tm).rng/\(⟨f,[t]⟩:Tm).ok:=by
 refine ⟨(Tm.rng_iff _).2 ⟨⟨?_,?_⟩,fun s hs=>?_⟩,(Tm.ok_iff _).2 ⟨by simp,fun s hs=>?_⟩⟩
 ·show _<=f;omega
 ·show f<=_;omega
 ·rw [show (⟨f,[t]⟩:Tm).l=[t] from rfl,mem_singleton] at hs;rw [hs];exact h.1
 ·rw [show (⟨f,[t]⟩:Tm).l=[t] from rfl,mem_singleton] at hs;rw [hs];exact h.2
theorem G8 {f:Int} {t:Tm} (hf:0<=f):(⟨f,[t]⟩:Tm).size=1+t.size:=by
 rw [Tm.size_sym (show ¬ (⟨f,[t]⟩:Tm).f<0 by show ¬ f<0;omega)];simp
theorem a0g {f:Int} {t:Tm} (hf:0<=f) (σ:Int->Tm):a8 σ ⟨f,[t]⟩=⟨f,[a8 σ t]⟩:=by
 rw [d8 (show ¬ (⟨f,[t]⟩:Tm).f<0 by show ¬ f<0;omega)];rfl
theorem b1I {f:Int} {t:Tm} (hf:0<=f):(⟨f,[t]⟩:Tm).pa 0=some t:=by
 unfold Tm.pa;rw [if_pos (by omega),Tm.ps_of_sym (by show 0<=f;exact hf)];rfl
theorem b3p {f:Int} {t s:Tm} {n:Int} (h:(⟨f,[t]⟩:Tm).pa n=some s):s=t:=by
 obtain ⟨m,rfl,h1,h2⟩:=b7b h;cases m with
 | zero=>cases h1;rfl
 | succ m=>simp at h1
theorem b7k {b:Tm} (h:b.rng/\b.ok):∀ k,(T7 b k).rng/\(T7 b k).ok
 | 0=>h
 | k+1=>a7z (by omega) (b7k h k)
theorem a3T (b:Tm):∀ k,(T7 b k).size=k+b.size
 | 0=>by rw [Nat.zero_add];rfl
 | k+1=>by
  show (⟨7,[T7 b k]⟩:Tm).size=_;rw [G8 (by decide),a3T b k];omega
theorem b1L (σ:Int->Tm) (b:Tm):∀ k,a8 σ (T7 b k)=T7 (a8 σ b) k
 | 0=>rfl
 | k+1=>by
  show a8 σ ⟨7,[T7 b k]⟩=⟨7,[T7 (a8 σ b) k]⟩;rw [a0g (by decide),b1L σ b k]
theorem b3c {b:Tm} (hb:b.rng):∀ (k:Nat) (p:List Int) (s:Tm),atP p (T7 b k)=some s->s.f=7\/s.size<=b.size
 | 0,p,s,h => .inr (a2U h hb).2
 | k+1,[],s,h=>by
  have h:some (⟨7,[T7 b k]⟩:Tm)=some s:=h;cases h;exact .inl rfl
 | k+1,n::p,s,h=>by
  have h:(Tm.pa (⟨7,[T7 b k]⟩:Tm) n).bind (atP p)=some s:=h;cases hp:Tm.pa (⟨7,[T7 b k]⟩:Tm) n with
  | none=>rw [hp] at h;cases h
  | some x =>
   rw [hp,Option.bind_some] at h;rw [b3p hp] at h;exact b3c hb k p s h
theorem b9Q {b:Tm} (hb:b.rng) {k:Nat} {p:List Int} {s:Tm} (h:atP p (u9 (T7 b k))=some s):s.f=9\/s.f=7\/s.size<=b.size:=by
 cases p with
 | nil =>
  have h:some (u9 (T7 b k))=some s:=h;cases h;exact .inl rfl
 | cons n p =>
  have h:(Tm.pa (⟨9,[T7 b k]⟩:Tm) n).bind (atP p)=some s:=h;cases hp:Tm.pa (⟨9,[T7 b k]⟩:Tm) n with
  | none=>rw [hp] at h;cases h
  | some x =>
   rw [hp,Option.bind_some] at h;rw [b3p hp] at h;exact .inr (b3c hb k p s h)
def zsP:Nat->List Int
 | 0=>[]
 | k+1=>0::zsP k
theorem c0o {b:Tm} (hb:¬ b.f<0):∀ (k:Nat) (pl:List Int),(pl++zsP k,b)∈sy (T7 b k) pl
 | 0,pl=>by
  rw [show T7 b 0=b from rfl,Z0,if_neg hb,show zsP 0=[] from rfl,append_nil];exact List.mem_cons_self
 | k+1,pl=>by
  show (pl++0::zsP k,b)∈sy ⟨7,[T7 b k]⟩ pl;rw [Z0,if_neg (by show ¬ (7:Int)<0;decide),show (⟨7,[T7 b k]⟩:Tm).l=[T7 b k] from rfl,H3,M0,append_nil];refine List.mem_cons_of_mem _ ?_;have:=c0o hb k (pl++[((0:Nat):Int)]);rw [List.append_assoc] at this;exact this
theorem c2F {b:Tm} (hb:¬ b.f<0) (k:Nat):(0::zsP k,b)∈sy (u9 (T7 b k)) []:=by
 show _∈sy ⟨9,[T7 b k]⟩ [];rw [Z0,if_neg (by show ¬ (9:Int)<0;decide),show (⟨9,[T7 b k]⟩:Tm).l=[T7 b k] from rfl,H3,M0,append_nil];exact List.mem_cons_of_mem _ (c0o hb k [((0:Nat):Int)])
theorem b7E (σ:Int->Tm) (t:Tm):t.size<=(a8 σ t).size:=by
 induction t using Tm.ind with
 | h f l ih =>
  by_cases hf:f<0
  ·rw [Tm.size_var (show (⟨f,l⟩:Tm).f<0 from hf)];exact Tm.size_pos _
  ·have e:a8 σ (⟨f,l⟩:Tm)=⟨f,l.map (a8 σ)⟩:=d8 hf;rw [e,Tm.size_sym (show ¬ (⟨f,l⟩:Tm).f<0 from hf),Tm.size_sym (show ¬ (⟨f,l.map (a8 σ)⟩:Tm).f<0 from hf)];have:∀ L:List Tm,(∀ t∈L,t.size<=(a8 σ t).size)->(L.map Tm.size).sum<=((L.map (a8 σ)).map Tm.size).sum:=fun L=>by
    induction L with
    | nil=>intro _;exact Nat.le_refl _
    | cons x L ih =>
     intro h;rw [map_cons,map_cons,map_cons,sum_cons,sum_cons];have a1:=h x (by simp);have a2:=ih fun t ht=>h t (List.mem_cons_of_mem _ ht);omega
   have:=this l ih;show 1+(l.map Tm.size).sum<=1+((l.map (a8 σ)).map Tm.size).sum;omega
def cU (a:Tm):List Lt:=[⟨false,u6 a,a⟩]
def dU (a:Tm) (k:Nat):List Lt:=[⟨true,u9 (T7 (u6 a) k),t6⟩]
theorem a8i {f:Int} (hf:0<=f) (t:Tm):(⟨f,[t]⟩:Tm).vs=t.vs:=by
 unfold Tm.vs vsL;rw [Tm.flat_eq,Tm.ps_of_sym (t:=⟨f,[t]⟩) (by show 0<=f;exact hf)];rw [filter_cons,if_neg (by show ¬ decide (f<0)=true;rw [decide_eq_true_eq];omega)];simp
theorem c0w (b:Tm):∀ k,(T7 b k).vs=b.vs
 | 0=>rfl
 | k+1=>by
  show (⟨7,[T7 b k]⟩:Tm).vs=_;rw [a8i (by decide),c0w b k]
theorem c1e (a:Tm):∀ v∈cvs (cU a),v∈a.vs:=fun v hv=>by
 simp only [cvs,cU,List.flatMap_cons,List.flatMap_nil,append_nil] at hv;rcases List.mem_append.1 hv with h | h
 ·rw [show (u6 a).vs=a.vs from a8i (by decide) a] at h;exact h
 ·exact h
theorem c0Y (a:Tm) (k:Nat):∀ v∈cvs (dU a k),v∈a.vs:=fun v hv=>by
 simp only [cvs,dU,List.flatMap_cons,List.flatMap_nil,append_nil] at hv;rcases List.mem_append.1 hv with h | h
 ·rw [show (u9 (T7 (u6 a) k)).vs=(T7 (u6 a) k).vs from a8i (by decide) _,c0w,show (u6 a).vs=a.vs from a8i (by decide) a] at h;exact h
 ·have:t6.vs=[]:=by simp [t6,Tm.vs,vsL,Tm.flat]
  rw [this] at h;cases h
theorem kU (a:Tm):kb (u6 a) a=1:=b7R (p:=[0]) (by show (Tm.pa (⟨6,[a]⟩:Tm) 0).bind (atP [])=_;rw [b1I (by decide)];rfl) (by simp)
theorem k9 (t:Tm):kb (u9 t) t6=1:=by
 rw [a5A];refine ⟨?_,.inl ?_⟩
 ·intro v;have:t6.vs=[]:=by simp [t6,Tm.vs,vsL,Tm.flat]
  rw [this];simp
 ·have h1:(u9 t).size=1+t.size:=G8 (by decide);have h2:=t.size_pos;have h3:t6.size=1:=by simp [t6,Tm.size,Tm.flat]
  omega
theorem rnU (a:Tm) (k:Nat):rnC (cU a) (dU a k)=[⟨true,u9 (T7 (u6 (a8 (shV (Y2 (cU a)+1)) a)) k),t6⟩]:=by
 unfold rnC dU;simp only [map_cons,map_nil,Lt.rep];have e1:∀ σ:Int->Tm,a8 σ (u9 (T7 (u6 a) k))=u9 (T7 (u6 (a8 σ a)) k):=fun σ=>by show a8 σ ⟨9,[T7 (u6 a) k]⟩=⟨9,[_]⟩;rw [a0g (by decide),b1L];congr 3;exact a0g (by decide) σ
 rw [e1,a5g]
theorem wcU (a:Tm):B7 C9 (cU a) (P3 (cU a))=[⟨0,u6 a,a⟩]:=by
 rw [show P3 (cU a)=[0] from a7S _ rfl];show a4j C9 (cU a) 0++[]=_;rw [append_nil];show ([⟨0,u6 a,a⟩,⟨0,a,u6 a⟩]:List Wy).filter (fun w=>C9 w.a w.b)=_;simp [filter_cons,(B0 (kU a)).1,(B0 (kU a)).2]
theorem wdU (t:Tm):B7 C9 [⟨true,u9 t,t6⟩] (P3 [⟨true,u9 t,t6⟩])=[⟨0,u9 t,t6⟩]:=by
 rw [b9f _ rfl];show a4j C9 [⟨true,u9 t,t6⟩] 0++[]=_;rw [append_nil];show ([⟨0,u9 t,t6⟩,⟨0,t6,u9 t⟩]:List Wy).filter (fun w=>C9 w.a w.b)=_;simp [filter_cons,(B0 (k9 t)).1,(B0 (k9 t)).2]
theorem prU {a:Tm} {k:Nat} (hk:k<=3) (ha:a.ten) (h8:a.size<=8) (hv:∀ v∈a.vs,v<1000):Pr2 false (cU a) (dU a k):=by
 have h6:(u6 a).ten:=⟨a7z (by omega) ha.1,by have:(u6 a).size=1+a.size:=G8 (by decide);omega⟩
 have h9:(u9 (T7 (u6 a) k)).s16:=⟨a7z (by omega) (b7k h6.1 k),by
  have e1:(u9 (T7 (u6 a) k)).size=1+(T7 (u6 a) k).size:=G8 (by decide);have e2:=a3T (u6 a) k;have e3:(u6 a).size=1+a.size:=G8 (by decide);omega⟩
 have cs:∀ l∈cU a,l.s16:=fun l hl=>by rw [show cU a=[⟨false,u6 a,a⟩] from rfl,mem_singleton] at hl;subst hl;exact ⟨P4 h6,P4 ha⟩
 have ds:∀ l∈dU a k,l.s16:=fun l hl=>by rw [show dU a k=[⟨true,u9 (T7 (u6 a) k),t6⟩] from rfl,mem_singleton] at hl;subst hl;exact ⟨h9,P4 b7p⟩
 have lE:∀ v∈cvs (cU a),v<1000:=fun v h=>hv v (c1e a v h);have hdv:∀ v∈cvs (dU a k),v<1000:=fun v h=>hv v (c0Y a k v h);have hr:=b2a (N:=1000) (by omega) lE ds hdv;refine ⟨⟨1000,by omega,lE,hdv⟩,by simp [cU],by simp [dU],cs,ds,fun m hm=>?_⟩;have gW:=a8q hm;have hm:m∈W0 (v9 (cU a)) (B7 C9 (cU a) (P3 (cU a))) (B7 C9 (rnC (cU a) (dU a k)) (P3 (rnC (cU a) (dU a k)))):=hm;obtain ⟨m1,_,m3,_⟩:=b2T hm;rw [wcU,mem_singleton] at m1;rw [rnU,wdU,mem_singleton] at m3;obtain ⟨a',oJ⟩:∃ a',a'=a8 (shV (Y2 (cU a)+1)) a:=⟨_,rfl⟩
 rw [<-oJ] at m3;have mH:=(gW.ts hr).1;have bI:=gW.at_;rw [m3] at bI mH;have bI:atP m.pl (u9 (T7 (u6 a') k))=some m.pt:=bI;have mH:(u9 (T7 (u6 a') k)).s16:=mH;have vT:m.pt.s16:=⟨⟨(a2U bI mH.1.1).1,a7u bI mH.1.2⟩,Nat.le_trans (a2U bI mH.1.1).2 mH.2⟩
 have ha8:(u6 a').size<=9:=by
  have e3:(u6 a').size=1+a'.size:=G8 (by decide);have:=a2T (cU a);have e4:a'.size=a.size:=by rw [oJ,a3v (by omega)]
  omega
 have h6r:(u6 a').rng:=by
  have h1:=((Tm.rng_iff _).1 mH.1.1).2 (T7 (u6 a') k) (by show _∈[_];simp);have key:∀ j,(T7 (u6 a') j).rng->(u6 a').rng:=fun j=>by
   induction j with
   | zero=>exact id
   | succ j ih=>intro h;exact ih (((Tm.rng_iff _).1 h).2 (T7 (u6 a') j) (by show _∈[_];simp))
  exact key k h1
 rw [m1];show PrOk (u6 a) m.pt;refine ⟨P4 h6,vT,fun τ hu=>⟨h6,?_⟩⟩;have gA:∀ f:Int,0<=f->f≠6->m.pt.f=f->False:=fun f hf0 hf hpf=>by rw [B4,d8 (show ¬ (u6 a).f<0 by show ¬ (6:Int)<0;decide),d8 (show ¬ m.pt.f<0 by omega)] at hu;injection hu with e1 _;exact hf (by rw [<-hpf,<-e1];rfl)
 rcases b9Q h6r bI with h | h | h
 ·exact (gA 9 (by decide) (by decide) h).elim
 ·exact (gA 7 (by decide) (by decide) h).elim
 ·exact ⟨vT.1,by omega⟩
theorem c3y {a:Tm} {k:Nat} (hk:k<=3) (ha:a.ten) (h8:a.size<=8) (hv:∀ v∈a.vs,v<1000):∃ z∈a4n false (cU a) (dU a k),wtC z+1=wtC [(⟨false,u9 (T7 (u6 a) k),t6⟩:Lt)]:=by
 have hp:=prU hk ha h8 hv;obtain ⟨T,hT⟩:∃ T,T=Y2 (cU a):=⟨_,rfl⟩
 have hT0:=a2T (cU a);rw [<-hT] at hT0;obtain ⟨a',oJ⟩:∃ a',a'=a8 (shV (T+1)) a:=⟨_,rfl⟩
 obtain ⟨m,qI⟩:∃ m:Mt,m=⟨⟨0,u6 a,a⟩,⟨0,u9 (T7 (u6 a') k),t6⟩,0::zsP k,u6 a'⟩:=⟨_,rfl⟩
 have hm:m∈mtM false (cU a) (rnC (cU a) (dU a k)):=by show m∈W0 (v9 (cU a)) (B7 C9 (cU a) (P3 (cU a))) (B7 C9 (rnC (cU a) (dU a k)) (P3 (rnC (cU a) (dU a k))));rw [wcU,rnU,wdU,<-hT,<-oJ];refine List.mem_flatMap.2 ⟨⟨0,u6 a,a⟩,by simp,?_⟩;unfold mtN;rw [if_neg (by show ¬ v9 (cU a) 0=true;simp [v9,cU])];refine List.mem_flatMap.2 ⟨⟨0,u9 (T7 (u6 a') k),t6⟩,by simp,List.mem_map.2 ⟨(0::zsP k,u6 a'),c2F (by show ¬ (6:Int)<0;decide) k,qI.symm⟩⟩
 have rB:=hp.pr m hm;have gW:=a8q hm
 obtain ⟨τ,hτ⟩:∃ τ:Int->Tm,τ=fun v=>if v<=T then q7 v else q7 (v-(T+1)):=⟨_,rfl⟩
 have yE:∀ v∈a.vs,v<=T:=fun v h=>by rw [hT];exact b9T (b7U (c:=cU a) (l:=⟨false,u6 a,a⟩) (by simp [cU]) v h)
 have t1:a8 τ a=a.strip:=by rw [<-a2R a];exact D7 fun v h=>by rw [hτ];simp only;rw [if_pos (yE v h)]
 have t2:a8 τ a'=a.strip:=by
  rw [oJ,c1E τ (by omega),<-a2R a];exact D7 fun v h=>by have:=o5 a v h;rw [hτ];simp only;rw [if_neg (by omega)];congr 1;omega
 have hu:uni τ [(u6 a,u6 a')]:=by rw [B4];show a8 τ ⟨6,[a]⟩=a8 τ ⟨6,[a']⟩;rw [a0g (by decide),a0g (by decide),t1,t2]
 have rB:PrOk (u6 a) (u6 a'):=by rw [qI] at rB;exact rB
 have h2:(mgT (u6 a) (u6 a')).2=true:=by
  cases e:(mgT (u6 a) (u6 a')).2 with
  | true=>rfl
  | false=>exact absurd hu ((rB.tell.no e).2 τ)
 have hmg:=rB.tell.yes h2;have kC:(a8 (mgS (u6 a) (u6 a')) a).size=a.size:=by have g1:=b7E (mgS (u6 a) (u6 a')) a;have g2:=b7E τ (a8 (mgS (u6 a) (u6 a')) a);have g3:a8 τ (a8 (mgS (u6 a) (u6 a')) a)=a8 τ a:=hmg.rep hu a;rw [g3,t1,Tm.strip_size] at g2;omega
 have eI:C9 (a8 (mgS (u6 a) (u6 a')) (u6 a)) (a8 (mgS (u6 a) (u6 a')) a)=true:=by refine (B0 ?_).1;rw [b7I _ (by rw [kU];decide),kU]
 have kL:C9 (a8 (mgS (u6 a) (u6 a')) (u9 (T7 (u6 a') k))) (a8 (mgS (u6 a) (u6 a')) t6)=true:=by refine (B0 ?_).1;rw [b7I _ (by rw [k9];decide),k9]
 obtain ⟨z,z1,z2,z3⟩:=gW.put hp.cs hp.rn;have hz:(E6 m (cU a) (rnC (cU a) (dU a k))).map (Lt.rep (mgS m.fr.a m.pt))∈a4n false (cU a) (dU a k):=by refine List.mem_filterMap.2 ⟨m,hm,?_⟩;unfold a2X;rw [if_pos];rw [qI];exact ⟨h2,eI,kL⟩
 refine ⟨_,hz,?_⟩;have ej:E6 m (cU a) (rnC (cU a) (dU a k))=[⟨true,z,t6⟩]:=by unfold E6;rw [z1];rw [qI,rnU];rfl
 rw [ej];have bH:z=u9 (T7 a.strip k):=by
  rw [qI] at z1;have z1:C8 a (0::zsP k) (u9 (T7 (u6 a') k))=some z:=z1;have key:∀ j,C8 a (zsP j) (T7 (u6 a') j)=some (T7 a.strip j):=fun j=>by
   induction j with
   | zero=>rfl
   | succ j ih =>
    show (Tm.pa (⟨7,[T7 (u6 a') j]⟩:Tm) 0).bind (fun s=>(C8 a (zsP j) s).map fun v=>(⟨7,_⟩:Tm))=_;rw [b1I (by decide),Option.bind_some,ih];rfl
  have:C8 a (0::zsP k) (u9 (T7 (u6 a') k))=some (u9 (T7 a.strip k)):=by show (Tm.pa (⟨9,[T7 (u6 a') k]⟩:Tm) 0).bind (fun s=>(C8 a (zsP k) s).map fun v=>(⟨9,_⟩:Tm))=_;rw [b1I (by decide),Option.bind_some,key];rfl
  rw [this] at z1;exact (Option.some.inj z1).symm
 have jD:m.fr.a=u6 a/\m.pt=u6 a':=by rw [qI];exact ⟨rfl,rfl⟩
 rw [jD.1,jD.2,bH];have e1:(a8 (mgS (u6 a) (u6 a')) (u9 (T7 a.strip k))).size=1+(k+a.size):=by show (a8 (mgS (u6 a) (u6 a')) ⟨9,[T7 a.strip k]⟩).size=_;rw [a0g (by decide),G8 (by decide),b1L,a3T,L4,kC]
 have e2:(u9 (T7 (u6 a) k)).size=1+(k+(1+a.size)):=by show (⟨9,[T7 (u6 a) k]⟩:Tm).size=_;rw [G8 (by decide),a3T];congr 2;exact G8 (by decide)
 unfold wtC;simp only [map_cons,map_nil,sum_cons,sum_nil,Lt.rep];rw [e1,e2,a5g];omega
theorem b9j (f:Int) (t:Tm):(⟨f,[t]⟩:Tm).cw = .row [.i f,.lst [t.cw]]:=by
 show CV.row [.i f,.lst [Tm.cv t]]=_;rw [Tm.cv_eq]
def b0U (L:List (List Lt)) (n:Int) (k:Nat):Bool:=(L.take k).any fun z=>decide ((wtC z:Int)=n)
theorem b6C {L:List (List Lt)} {n:Int} {k:Nat} {z:List Lt} (h:L[k]?=some z):b0U L n (k+1)=(b0U L n k||decide ((wtC z:Int)=n)):=by
 unfold b0U;rw [List.take_add_one,h,List.any_append];simp
set_option maxHeartbeats 16000000 in
theorem a6Z (W:World) (c:List Lt) (b:Int) (hrc:okC c) (hb:0<=b/\b<=255):AFun Tryz.prog W 5 [.lst (c.map Lt.cv),.sc (.int .u8 b)] (.val (.b true)):=by
 refine c9 (rs:=[.b true]) Tryz.func5 Tryz.ntmps5 rfl rfl rfl rfl ?_;intro w U hW;refine aS (aR ?_);refine nc ze ?_;refine aS (aS (aR ?_));refine nc (zk (z:=a9c w)) (nc zZ ?_);refine aC rfl (fun hc=>by cases hc) (fun _=>aK ?_);have rA:=b1f w c 1 8 (by decide) (by decide) (by decide) hrc;cases hF:a0c c 1 8 with
 | false =>
  rw [hF] at rA;refine aS (aS (aR ?_));refine nc zl (nc (zk (z:=rA)) (nc zZ (nc zl (nc zq (nc zq (nc zq (nc zp ?_)))))));refine aC rfl (fun hc=>?_) (fun hc=>by cases hc);refine aS (aR ?_);refine nc ze ?_;exact aT (And.intro (.inr rfl) rfl)
 | true =>
 rw [hF] at rA;obtain ⟨eF,hct⟩:=b6R (by decide) (by decide) hF;have hokc:∀ l∈c,l.a.ok/\l.b.ok:=fun l hl=>⟨(hct l hl).1.1.2,(hct l hl).2.1.2⟩
 have mK:(c.map Lt.cv).length=c.length:=length_map ..;by_cases h0:c.length=0
 ·have g0:decide ((((c.map Lt.cv).length:Nat):Int)=0)=true:=decide_eq_true (by omega);refine aS (aS (aR ?_));refine nc zl (nc (zk (z:=rA)) (nc zZ (nc zl (nc (zl (p:=gb)) (nc (zo (r:=gb)) (nc (zD (r:=gb)) (nc zr ?_)))))));refine aC rfl (fun hc=>?_) (fun hc=>by rw [g0] at hc;cases hc);refine aS (aR ?_);refine nc ze ?_;exact aT (And.intro (.inr rfl) rfl)
 have g0:decide ((((c.map Lt.cv).length:Nat):Int)=0)=false:=decide_eq_false (by omega);refine aS (aS (aR ?_));refine nc zl (nc (zk (z:=rA)) (nc zZ (nc zl (nc (zl (p:=gb)) (nc (zo (r:=gb)) (nc (zD (r:=gb)) (nc zr ?_)))))));refine aC rfl (fun hc=>by rw [g0] at hc;cases hc) (fun _=>aK ?_);obtain ⟨x,hx⟩:∃ x,c[0]?=some x:=⟨c[0]'(by omega),List.getElem?_eq_getElem _⟩
 have kS:=Lt.map_at hx;have cH:=List.mem_of_getElem? hx;have lF:=Lt.size_all c;obtain ⟨_,h3⟩:=a2i (by decide) (by decide) hF;have uA:=h3 x cH;have hxt:=(hct x cH).1;obtain ⟨xn,a,xb⟩:=x;obtain ⟨⟨pT,_,a3⟩,_⟩:=uA;have h8:a.size<=8:=by have a3:((a.size:Nat):Int)<=8:=a3;omega
 have bB:∀ v∈a.vs,v<1000:=c2Q (fun s hs=>(Tm.sm_flat pT.1 s hs).1);have bI:a.ten:=hxt;obtain ⟨N,hN⟩:∃ N:Nat,b.tmod 4=(N:Int):=⟨(b.tmod 4).toNat,by have:=Int.tmod_nonneg 4 hb.1;omega⟩
 have hN3:N<=3:=by have:=Int.tmod_lt_of_pos b (show (0:Int)<4 by decide);omega
 have hU:=c3y hN3 bI h8 bB;have hp:=prU hN3 bI h8 bB;have hi:=fun w=>a3m w (cU a) (dU a N) hp;have xK:=fun z (hz:z∈a4n false (cU a) (dU a N))=>b8F hp hz;have jW:=fun z (hz:z∈a4n false (cU a) (dU a N))=>b8I hz;have mP:=b5E (free:=false) (c:=cU a) (d:=dU a N) (by simp [cU]) (by simp [dU]) hp.rn;obtain ⟨L,hL⟩:∃ L,L=a4n false (cU a) (dU a N):=⟨_,rfl⟩
 rw [<-hL] at hU hi xK jW mP;obtain ⟨A,hA⟩:∃ A,A=a.cw:=⟨_,rfl⟩
 obtain ⟨T,hT⟩:∃ T:Nat->CV,T=fun k=>(T7 (u6 a) k).cw:=⟨_,rfl⟩
 have hT0:T 0 = .row [.i 6,.lst [A]]:=by rw [hT,hA];exact b9j 6 a
 have yR:∀ k,T (k+1) = .row [.i 7,.lst [T k]]:=fun k=>by rw [hT];exact b9j 7 _
 have hTf:∀ k,∃ f l,T k = .row [.i f,.lst l]:=fun k=>by rw [hT];exact ⟨_,_,rfl⟩
 have eC:(cU a).map Lt.cv=[.row [.b false,.row [.i 6,.lst [A]],A]]:=by rw [hA];show [CV.row [.b false,(u6 a).cw,a.cw]]=_;rw [show (u6 a).cw=_ from b9j 6 a]
 have eD:(dU a N).map Lt.cv=[.row [.b true,.row [.i 9,.lst [T N]],.row [.i 0,.lst []]]]:=by rw [hT];show [CV.row [.b true,(u9 (T7 (u6 a) N)).cw,t6.cw]]=_;rw [show (u9 (T7 (u6 a) N)).cw=_ from b9j 9 _];rfl
 have eW:[(⟨false,u9 (T7 (u6 a) N),t6⟩:Lt)].map Lt.cv=[.row [.b false,.row [.i 9,.lst [T N]],.row [.i 0,.lst []]]]:=by rw [hT];show [CV.row [.b false,(u9 (T7 (u6 a) N)).cw,t6.cw]]=_;rw [show (u9 (T7 (u6 a) N)).cw=_ from b9j 9 _];rfl
 rw [eC,eD] at hi;have yS:=fun w=>a2w w [(⟨false,u9 (T7 (u6 a) N),t6⟩:Lt)] (by simp) (by
  have:=(hp.ds ⟨true,u9 (T7 (u6 a) N),t6⟩ (by simp [dU])).1.2;have h1:t6.size=1:=by simp [t6,Tm.size,Tm.flat]
  unfold wtC;simp only [map_cons,map_nil,sum_cons,sum_nil];have:(u9 (T7 (u6 a) N)).size<=16:=this;omega) (fun l hl=>by
  rw [mem_singleton] at hl;subst hl;have:=hp.ds ⟨true,u9 (T7 (u6 a) N),t6⟩ (by simp [dU]);exact ⟨this.1.1.1,this.2.1.1⟩)
 rw [eW] at yS;obtain ⟨Wt,hWt⟩:∃ Wt:Nat,Wt=wtC [(⟨false,u9 (T7 (u6 a) N),t6⟩:Lt)]:=⟨_,rfl⟩
 rw [<-hWt] at hU yS;have hWs:Wt<=100:=by
  have:=(hp.ds ⟨true,u9 (T7 (u6 a) N),t6⟩ (by simp [dU])).1.2;have h1:t6.size=1:=by simp [t6,Tm.size,Tm.flat]
  rw [hWt];unfold wtC;simp only [map_cons,map_nil,sum_cons,sum_nil];have:(u9 (T7 (u6 a) N)).size<=16:=this;omega
 have jA:(c.map Lt.cv)[0]?=some (.row [.b xn,A,.row [.i xb.f,.lst (xb.l.map Tm.cv)]]):=by rw [kS,hA]
 obtain ⟨af,al,hAf⟩:∃ f l,A = .row [.i f,.lst l]:=by rw [hA];exact ⟨_,_,rfl⟩
 clear hA;refine aS (aR ?_);refine nc zl (nc (zk (z:=b6E w c (by omega) hokc)) (nc ze ?_));subst hAf;refine aS (aR ?_);refine nc zl (nc (zt (j:=0) (H:=jA) (hz:=lF)) (nc zbH (nc zu (nc zy (nc zC (nc zw (nc zx ?_)))))));refine aS (aD (by kernel_rfl) (by kernel_rfl) ?_);refine nc zj (nc zl (nc (zt (j:=0) (H:=jA) (hz:=lF)) (nc zbH (nc zu (nc (zbN b0J) (nc zy (nc ze ?_)))))));refine ⟨by kernel_rfl,?_⟩;refine aS (aR ?_);refine nc zj (nc zw (nc zx ?_));refine aS (aS (aR ?_));refine nc ze ?_;refine aB (n5 N (fun k=>[(1,AV.val (.sc (.int .u8 b))),(7,.val (.lst [.row [.b false,.row [.i 6,.lst [.row [.i af,.lst al]]],.row [.i af,.lst al]]])),(8,.bp 8 0 []),(100008,.bx (T k)),(9,.val (.i (k:Int)))]) (a7 ⟨rfl,rfl,rfl,by rw [hT0];rfl,rfl,trivial⟩) ?_);intro k hk;refine aS (aS (aR ?_));refine nc zl (nc zl (nc zbQ (nc zbR (nc zi ?_))));refine aC rfl (fun kA=>aK ?_) (fun kA=>aE ?_)
 ·have kA:=of_decide_eq_true kA;have hkN:k<N:=by have:((k:Nat):Int)<b.tmod 4:=kA;omega
  obtain ⟨tf,tl,hTk⟩:=hTf k;have yR:=yR k;rw [hTk] at yR |-;refine aS (aB (aR ?_));refine nc zj (nc zy (nc zC (nc zx ?_)));refine aR ?_;refine nc zl (nc zA (nc ze ?_));refine ⟨hkN,?_⟩;show Wk _ _ _ _ [(1,AV.val (.sc (.int .u8 b))),(7,.val (.lst [.row [.b false,.row [.i 6,.lst [.row [.i af,.lst al]]],.row [.i af,.lst al]]])),(8,.bp 8 0 []),(100008,.bx (T (k+1))),(9,.val (.i ((k+1:Nat):Int)))];rw [yR];exact a7 ⟨rfl,rfl,rfl,rfl,rfl,trivial⟩
 ·have kA:=of_decide_eq_false kA;have hkN:k=N:=by have:¬ ((k:Nat):Int)<b.tmod 4:=kA;omega
  subst hkN;obtain ⟨tf,tl,hTk⟩:=hTf k;rw [hTk] at hi yS |-;refine aS (aR ?_);refine nc zl (nc zj (nc zy (nc (zbN [.i 0,.lst []]) (nc (zbN b0J) (nc zy (nc (zk (z:=hi w)) (nc ze ?_)))))));refine aS (aR ?_);refine nc ze ?_;have hLs:=a9A L;have hLm:(L.map clC).length=L.length:=length_map ..;have tK:b0U L ((Wt:Int)-1) L.length=true:=by obtain ⟨z,hz,hzw⟩:=hU;unfold b0U;rw [List.take_length,List.any_eq_true];exact ⟨z,hz,decide_eq_true (by omega)⟩
  refine aS (aS (aR ?_));refine nc ze ?_;refine aB (n5 L.length (fun i=>[(8,AV.bp 8 0 []),(100008,.bx (.row [.i tf,.lst tl])),(10,.val (.lst (L.map clC))),(11,.val (.b (b0U L ((Wt:Int)-1) i))),(12,.val (.i (i:Int)))]) (a7 ⟨rfl,rfl,rfl,rfl,rfl,trivial⟩) ?_);intro i cN;refine aS (aS (aR ?_));refine nc zl (nc zl (nc zo (nc zi ?_)));refine aC rfl (fun kA=>aK ?_) (fun kA=>aE ?_)
  ·have dJ:i<L.length:=by have:=of_decide_eq_true kA;omega
   obtain ⟨z,hz⟩:∃ z,L[i]?=some z:=⟨L[i],List.getElem?_eq_getElem dJ⟩
   have jC:(L.map clC)[i]?=some (.lst (z.map Lt.cv)):=by rw [List.getElem?_map,hz];rfl
   have hzm:=List.mem_of_getElem? hz;obtain ⟨pV,xL⟩:=xK z hzm;have jB:=jW z hzm;have xM:z.length=1:=by simp [cU,dU] at pV;omega
   have oO:=b6C (n:=(Wt:Int)-1) hz;have hzw:wtC z<=1000000:=by
    match z,xM,xL with
    | [y],_,xL =>
     have:=xL y (by simp);unfold wtC;simp only [map_cons,map_nil,sum_cons,sum_nil];omega
   have hwz:=a2w w z (by omega) (by omega) (fun l hl=>⟨(xL l hl).1.1.1,(xL l hl).1.2.1⟩);obtain ⟨y,rfl⟩:∃ y,z=[y]:=by
    match z,xM with
    | [y],_=>exact ⟨y,rfl⟩
   have hyn:y.neg=true:=by
    have e1:Q0 (cU a)=0:=rfl;have e2:Q0 (dU a k)=1:=rfl;rw [e1,e2] at jB;cases e:y.neg with
    | true=>rfl
    | false=>unfold Q0 at jB;rw [filter_cons,e] at jB;simp at jB
   have eM:([y].map Lt.cv)[0]?=some (.row [.b true,y.a.cw,y.b.cw]):=by show some (Lt.cv y)=_;rw [<-hyn];rfl
   have eX:=Lt.size_all [y];refine aS (aB (aS (aS (aR ?_))));refine nc zl (nc zl (nc (zt (j:=i) (H:=jC) (hz:=hLs)) (nc zu (nc zo (nc z9 (nc zl (nc (zl (p:=gb)) (nc (zl (p:=gb)) (nc (zt (j:=i) (r:=gb) (H:=jC) (hz:=hLs)) (nc (zu (r:=gb)) (nc (zt (j:=0) (r:=gb) (H:=eM) (hz:=eX)) (nc (zbH (r:=gb)) (nc (zu (r:=gb)) (nc (zZ (r:=gb)) (nc zr ?_)))))))))))))));refine aC rfl (fun hc=>by cases hc) (fun _=>aK ?_);obtain ⟨h,hh⟩:∃ h,h=b0U L ((Wt:Int)-1) i:=⟨_,rfl⟩
   rw [<-hh] at oO |-;cases h with
   | true =>
    refine aD (by kernel_rfl) (by kernel_rfl) ?_;refine nc zl (nc zl (nc zq (nc zq (nc zq (nc zq (nc zq (nc zq (nc zq (nc zq (nc zq (nc zq (nc zq (nc zq (nc zq (nc zp (nc ze ?_))))))))))))))));refine ⟨by kernel_rfl,?_⟩;refine aR ?_;refine nc zl (nc zA (nc ze ?_));refine ⟨dJ,?_⟩;show Wk _ _ _ _ [(8,AV.bp 8 0 []),(100008,.bx (.row [.i tf,.lst tl])),(10,.val (.lst (L.map clC))),(11,.val (.b (b0U L ((Wt:Int)-1) (i+1)))),(12,.val (.i ((i+1:Nat):Int)))];rw [oO];exact a7 ⟨rfl,rfl,rfl,rfl,rfl,trivial⟩
   | false =>
    refine aD (by kernel_rfl) (by kernel_rfl) ?_;refine nc zl (nc zl (nc (zl (p:=gb)) (nc (zl (p:=gb)) (nc (zt (j:=i) (r:=gb) (H:=jC) (hz:=hLs)) (nc (zu (r:=gb)) (nc (zk (p:=gb) (z:=hwz)) (nc (zj (p:=gb)) (nc (zy (p:=gb)) (nc (zbN [.i 0,.lst []] (u:=gb)) (nc (zbN b0J (u:=gb)) (nc (zy (p:=gb)) (nc (zk (p:=gb) (z:=yS w)) (nc (zB (r:=gb)) (nc (zD (r:=gb)) (nc zr (nc ze ?_))))))))))))))));refine ⟨by kernel_rfl,?_⟩;refine aR ?_;refine nc zl (nc zA (nc ze ?_));refine ⟨dJ,?_⟩;show Wk _ _ _ _ [(8,AV.bp 8 0 []),(100008,.bx (.row [.i tf,.lst tl])),(10,.val (.lst (L.map clC))),(11,.val (.b (b0U L ((Wt:Int)-1) (i+1)))),(12,.val (.i ((i+1:Nat):Int)))];rw [oO,Bool.false_or];exact a7 ⟨rfl,rfl,rfl,rfl,rfl,trivial⟩
  ·have dJ:i=L.length:=by have:=of_decide_eq_false kA;omega
   subst dJ;rw [tK];refine aS (aR ?_);refine nc zl (nc ze ?_);exact aT (And.intro (.inr rfl) rfl)
theorem b5q {n:Nat} {c:CV} (h:Shp Tryz.prog n 4 c):∃ b,c = .b b:=by
 cases n with
 | zero=>exact h.elim
 | succ n =>
  rw [Shp,Tryz.underlying4] at h;exact h
theorem b5W {n:Nat} {c:CV} (h:Shp Tryz.prog n 22 c):∃ l:List Lt,c = .lst (l.map Lt.cv)/\okC l:=by
 cases n with
 | zero=>exact h.elim
 | succ n =>
  rw [Shp,Tryz.underlying22] at h;obtain ⟨l,rfl,hl⟩:=h;obtain ⟨m,h1,h2⟩:=a3Y Lt.cv (fun l=>l.a.rng/\l.b.rng) (l:=l) (fun x hx=>by
   have hx:=hl x hx;cases n with
   | zero=>exact hx.elim
   | succ n =>
    have hx:Shp Tryz.prog (n+1) 52 x:=hx;rw [Shp,Tryz.underlying52] at hx;obtain ⟨l,rfl,hl,hf⟩:=hx
    match l,hl with
    | [x,y,z],_ =>
     obtain ⟨b,rfl⟩:=b5q (hf 0 _ x rfl rfl);obtain ⟨t,rfl,ht⟩:=b1U n (hf 1 _ y rfl rfl);obtain ⟨u,rfl,hu⟩:=b1U n (hf 2 _ z rfl rfl);exact ⟨⟨b,t,u⟩,rfl,ht,hu⟩)
  exact ⟨m,by rw [h1],h2⟩
end Go.Proofs.YteegmcfobgpemaaGreat
