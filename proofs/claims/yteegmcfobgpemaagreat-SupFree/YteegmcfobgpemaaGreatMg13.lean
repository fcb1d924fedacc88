/-
 SuVnt SuSub
-/
import Derived.Test.YteegmcfobgpemaaGreatMg12
namespace Go.Proofs.YteegmcfobgpemaaGreat
open List (flatMap_map getElem?_map length_append length_cons length_map length_nil map_append map_congr_left map_cons map_flatMap map_map mem_map mem_of_getElem?)
open Go.RowKit
set_option linter.unusedVariables false
set_option linter.unusedSimpArgs false
set_option maxRecDepth 100000
structure ReN(ρ ρ':Int->Int):Prop where
 up:∀v,0<=v->0<=ρ v
 back:∀v,0<=v->ρ' (ρ v)=v
abbrev C1(ρ:Int->Int):Int->Tm:=λv=>n7 (ρ v)
section
variable{ρ ρ':Int->Int}
theorem ReN.two(h:ReN ρ ρ')(τ:Int->Tm)(t:Tm):a8 τ (a8 (C1 ρ) t)=a8 (λv=>τ (ρ v)) t:=
 b1r τ ρ λv hv=>h.up v (l9 t v hv)
theorem ReN.down(h:ReN ρ ρ')(τ:Int->Tm)(t:Tm):a8 (λv=>τ (ρ' v)) (a8 (C1 ρ) t)=a8 τ t:=by
 rw[h.two];exact y9 λv hv=>by show τ (ρ' (ρ v))=τ v;rw[h.back v (l9 t v hv)]
theorem ReN.home(h:ReN ρ ρ')(t:Tm):a8 (λv=>n7 (ρ' v)) (a8 (C1 ρ) t)=t.strip:=by rw[h.down n7,a3D]
theorem ReN.size(h:ReN ρ ρ')(t:Tm):(a8 (C1 ρ) t).size=t.size:=b0N (g:=ρ) λv hv=>h.up v (l9 t v hv)
theorem ReN.kb(h:ReN ρ ρ')(x y:Tm):kb (a8 (C1 ρ) x) (a8 (C1 ρ) y)=kb x y:=by
 by_cases h1:Go.Proofs.YteegmcfobgpemaaGreat.kb x y=2
 ·rw[h1];apply Classical.byContradiction;intro h2;have h3:=a9t (λv=>n7 (ρ' v)) h2;rw[h.home,h.home,a5l,h1]at h3;exact h2 h3.symm
 ·exact a9t _ h1
structure TwR(ρ:Int->Int)(σ σ':Int->Tm):Prop where
 to:∃ α,∀t:Tm,a8 α (a8 σ t)=a8 σ' (a8 (C1 ρ) t)
 back:∃ β,∀t:Tm,a8 β (a8 σ' (a8 (C1 ρ) t))=a8 σ t
theorem b8u(hr:ReN ρ ρ'){a b:Tm}(ha:a.ten)(hb:b.ten)(tA:(a8 (C1 ρ) a).ten)(hb':(a8 (C1 ρ) b).ten):(mgT (a8 (C1 ρ) a) (a8 (C1 ρ) b)).2=(mgT a b).2/\((mgT a b).2=true->TwR ρ (mgS a b) (mgS (a8 (C1 ρ) a) (a8 (C1 ρ) b))):=by
 have hT:=a2d ha hb;have hT':=a2d tA hb';have up:∀ τ,uni τ [(a,b)]->uni (λv=>τ (ρ' v)) [(a8 (C1 ρ) a,a8 (C1 ρ) b)]:=fun τ h=>by rw[C9]at h |-;rw[hr.down τ,hr.down τ,h]
 have dn:∀ τ,uni τ [(a8 (C1 ρ) a,a8 (C1 ρ) b)]->uni (λv=>τ (ρ v)) [(a,b)]:=fun τ h=>by rw[C9]at h |-;rw[<-hr.two τ,<-hr.two τ,h]
 have e:(mgT (a8 (C1 ρ) a) (a8 (C1 ρ) b)).2=(mgT a b).2:=by
  cases h:(mgT a b).2 with
  | true =>
   cases h':(mgT (a8 (C1 ρ) a) (a8 (C1 ρ) b)).2 with
   | true=>rfl
   | false=>exact absurd (up _ (hT.yes h).uni) ((hT'.no h').2 _)
  | false =>
   cases h':(mgT (a8 (C1 ρ) a) (a8 (C1 ρ) b)).2 with
   | false=>rfl
   | true=>exact absurd (dn _ (hT'.yes h').uni) ((hT.no h).2 _)
 refine⟨e,λh=>?_⟩;have m:=hT.yes h;have m':=hT'.yes (e.trans h);exact⟨⟨_,λt=>by unfold mgS;rw[m.rep (dn _ m'.uni) t,<-hr.two]⟩,⟨_,λt=>by unfold mgS;rw[m'.rep (up _ m.uni) (a8 (C1 ρ) t),hr.down]⟩⟩
theorem TwR.vnt{σ σ':Int->Tm}(h:TwR ρ σ σ')(L:List Lt):b9k (L.map (Lt.rep σ)) ((L.map (Lt.rep (C1 ρ))).map (Lt.rep σ'))=true:=by
 unfold b9k;rw[Bool.and_eq_true,decide_eq_true_eq,a2m,a2m,a2m];refine⟨rfl,?_⟩;obtain⟨α,ha⟩:=h.to;obtain⟨β,hb⟩:=h.back;rw[<-a8w,<-a8w,<-a8w];exact b7t (σ:=α) (τ:=β) (by rw[ha,t7]) (by rw[hb,t7])
theorem TwR.kb{σ σ':Int->Tm}(h:TwR ρ σ σ')(x y:Tm):kb (a8 σ' (a8 (C1 ρ) x)) (a8 σ' (a8 (C1 ρ) y))=kb (a8 σ x) (a8 σ y):=by
 obtain⟨α,ha⟩:=h.to;obtain⟨β,hb⟩:=h.back;by_cases h1:Go.Proofs.YteegmcfobgpemaaGreat.kb (a8 σ x) (a8 σ y)=2
 ·rw[h1];apply Classical.byContradiction;intro h2;have h3:=a9t β h2;rw[hb,hb,h1]at h3;exact h2 h3.symm
 ·have h3:=a9t α h1;rw[ha,ha]at h3;exact h3
theorem c2M(hr:ReN ρ ρ')(A B:List Tm):a4C (A.map (a8 (C1 ρ))) (B.map (a8 (C1 ρ)))=a4C A B:=by
 rw[Bool.eq_iff_iff,a5R,a5R];refine⟨λh=>?_,b3D _⟩;have h1:=b3D (λv=>n7 (ρ' v)) h;have e:∀L:List Tm,(L.map (a8 (C1 ρ))).map (a8 λv=>n7 (ρ' v))=L.map Tm.strip:=λL=>by rw[map_map];exact map_congr_left λt _=>hr.home t
 rw[e,e]at h1;exact(a7t (λs=>a7q s A) (λs=>a7q s B)).1 h1
theorem b9A(l:Lt):H6 (Lt.rep (C1 ρ) l)=(H6 l).map (a8 (C1 ρ)):=by
 unfold H6;show(if l.neg=true then _ else _)=_;cases l.neg<;>rfl
theorem c2x(hr:ReN ρ ρ')(c:List Lt):∀k,hvK (c.map (Lt.rep (C1 ρ))) k=hvK c k
 | 0=>rfl
 | k+1=>by
  have ih:=c2x hr c k;have hw:∀l:Lt,wtL (Lt.rep (C1 ρ) l)=wtL l:=λl=>by unfold wtL;show(((a8 (C1 ρ) l.a).size:Nat):Int)+(((a8 (C1 ρ) l.b).size:Nat):Int)=_;rw[hr.size,hr.size]
  unfold hvK;rw[getElem?_map,ih];cases c[k]? with
  | none=>rfl
  | some l =>
   show(if l.neg=true/\(hvK c k).2<wtL (Lt.rep (C1 ρ) l) then((k:Int),wtL (Lt.rep (C1 ρ) l))else hvK c k)=_;rw[hw]
theorem b8R(hr:ReN ρ ρ')(c:List Lt):W0 (c.map (Lt.rep (C1 ρ)))=W0 c:=by
 have hg:∀i,a1Z (c.map (Lt.rep (C1 ρ))) i=a1Z c i:=λi=>by
  unfold a1Z c2n;rw[getElem?_map];cases c[i.toNat]? with
  | none=>rfl
  | some x =>
   simp only[Option.map_some,List.any_map];congr 3;funext l;show a4C (H6 (Lt.rep (C1 ρ) l)) (H6 (Lt.rep (C1 ρ) x))=_;rw[b9A,b9A,c2M hr]
 unfold W0 gsK;rw[length_map,c2x hr];simp only[hg]
theorem c1k(hr:ReN ρ ρ')(a b:Tm):A0 (a8 (C1 ρ) a) (a8 (C1 ρ) b)=A0 a b:=by unfold A0;rw[hr.kb]
noncomputable def wyR(ρ:Int->Int)(w:Wy):Wy:=⟨w.n,a8 (C1 ρ) w.a,a8 (C1 ρ) w.b⟩
noncomputable def mtR(ρ:Int->Int)(m:Mt):Mt:=⟨wyR ρ m.fr,wyR ρ m.ti,m.pl,a8 (C1 ρ) m.pt⟩
theorem b8Y(hr:ReN ρ ρ')(c:List Lt)(L:List Int):C3 A0 (c.map (Lt.rep (C1 ρ))) L=(C3 A0 c L).map (wyR ρ):=by
 unfold C3;rw[map_flatMap];refine N1 λn _=>?_;unfold a4k;rw[getElem?_map];cases c[n.toNat]? with
 | none=>rfl
 | some l =>
  show([⟨n,a8 (C1 ρ) l.a,a8 (C1 ρ) l.b⟩,⟨n,a8 (C1 ρ) l.b,a8 (C1 ρ) l.a⟩]:List Wy).filter (λw=>A0 w.a w.b)=_;rw[show([⟨n,a8 (C1 ρ) l.a,a8 (C1 ρ) l.b⟩,⟨n,a8 (C1 ρ) l.b,a8 (C1 ρ) l.a⟩]:List Wy)=(wy2 n l).map (wyR ρ)from rfl,List.filter_map];congr 2;funext w;exact c1k hr w.a w.b
theorem c2S{l:List Tm}(hr:ReN ρ ρ')(h:∀t∈l,∀pl,sy (a8 (C1 ρ) t) pl=(sy t pl).map λq=>(q.1,a8 (C1 ρ) q.2)):∀(i:Nat) (pl:List Int),syL (l.map (a8 (C1 ρ))) i pl=(syL l i pl).map λq=>(q.1,a8 (C1 ρ) q.2):=by
 induction l with
 | nil=>intro i pl;rfl
 | cons t l ih =>
  intro i pl;rw[map_cons,I0,I0,map_append,h t (by simp),ih λs hs=>h s (List.mem_cons_of_mem _ hs)]
theorem c4z(hr:ReN ρ ρ')(t:Tm):∀pl,sy (a8 (C1 ρ) t) pl=(sy t pl).map λq=>(q.1,a8 (C1 ρ) q.2):=by
 induction t using Tm.ind with
 | h f l ih =>
  intro pl;by_cases hf:f<0
  ·rw[X9 (⟨f,l⟩:Tm),if_pos hf];have e:(a8 (C1 ρ) (⟨f,l⟩:Tm)).f<0:=by rw[i9 (show(⟨f,l⟩:Tm).f<0 from hf),Tm.strip_f,s7];have:=hr.up (-1-f) (by omega);show -1-ρ (-1-f)<0;omega
   rw[X9,if_pos e];rfl
  ·have e:a8 (C1 ρ) (⟨f,l⟩:Tm)=⟨f,l.map (a8 (C1 ρ))⟩:=c9 hf;rw[X9 (⟨f,l⟩:Tm),if_neg hf,map_cons,e,X9,if_neg hf];show _::syL (l.map (a8 (C1 ρ))) 0 pl=_::_;rw[c2S hr ih]
theorem b9i(c:List Lt)(n:Int):x7 (c.map (Lt.rep (C1 ρ))) n=x7 c n:=by
 unfold x7;rw[getElem?_map];cases c[n.toNat]?<;>rfl
theorem c3H(hr:ReN ρ ρ')(c:List Lt)(S T:List Wy):U5 (x7 (c.map (Lt.rep (C1 ρ)))) (S.map (wyR ρ)) (T.map (wyR ρ))=(U5 (x7 c) S T).map (mtR ρ):=by
 unfold U5;rw[flatMap_map,map_flatMap];refine N1 λf _=>?_;unfold mtN;rw[show(wyR ρ f).n=f.n from rfl,b9i];split
 ·rfl
 ·unfold mtF;rw[flatMap_map,map_flatMap];refine N1 λi _=>?_;unfold mtI;rw[show(wyR ρ i).a=a8 (C1 ρ) i.a from rfl,c4z hr,map_map,map_map];rfl
theorem c3I(hr:ReN ρ ρ')(c D:List Lt):mtM false (c.map (Lt.rep (C1 ρ))) (D.map (Lt.rep (C1 ρ)))=(mtM false c D).map (mtR ρ):=by
 show U5 _ (C3 A0 _ (W0 _)) (C3 A0 _ (W0 _))=_;rw[b8R hr,b8R hr,b8Y hr,b8Y hr,c3H hr];rfl
theorem c2m{t s:Tm}{n:Int}(h:t.pa n=some s):(a8 (C1 ρ) t).pa n=some (a8 (C1 ρ) s):=by
 obtain⟨m,rfl,h1,h2⟩:=b9D h;rw[c9 h2];unfold Tm.pa;rw[if_pos (by omega),Int.toNat_natCast,Tm.ps_of_sym (t:=⟨t.f,_⟩) (by show 0<=t.f;omega),getElem?_map,h1];rfl
theorem b9j(hr:ReN ρ ρ')(u:Tm):∀(p:List Int) (t z:Tm),E3 u p t=some z->E3 (a8 (C1 ρ) u) p (a8 (C1 ρ) t)=some (a8 (C1 ρ) z)
 | [],t,z,h=>by
  have h:some u.strip=some z:=h;cases h;show some (a8 (C1 ρ) u).strip=_;rw[t7,B8]
 | k::p,t,z,h=>by
  rw[E3]at h |-;cases hp:t.pa k with
  | none=>rw[hp]at h;cases h
  | some x =>
   rw[hp,Option.bind_some]at h;cases hv:E3 u p x with
   | none=>rw[hv]at h;cases h
   | some v =>
    rw[hv,Option.map_some]at h;have h:=Option.some.inj h;subst h;have hf:=a6j hp;rw[c2m hp,Option.bind_some,b9j hr u p x v hv,Option.map_some,c9 hf,c9 (t:=⟨t.f,_⟩) hf];have e:∀L:List Tm,(L.map (a8 (C1 ρ))).map Tm.strip=(L.map Tm.strip).map (a8 (C1 ρ)):=λL=>by rw[map_map,map_map];refine map_congr_left λs _=>?_;show(a8 (C1 ρ) s).strip=a8 (C1 ρ) s.strip;rw[t7,B8]
    have e1:∀j,((t.l.map (a8 (C1 ρ))).take j).map Tm.strip=((t.l.take j).map Tm.strip).map (a8 (C1 ρ)):=λj=>by rw[<-List.map_take];exact e _
    have e2:∀j,((t.l.map (a8 (C1 ρ))).drop j).map Tm.strip=((t.l.drop j).map Tm.strip).map (a8 (C1 ρ)):=λj=>by rw[<-List.map_drop];exact e _
    show some (Tm.mk t.f (((t.l.map (a8 (C1 ρ))).take k.toNat).map Tm.strip++a8 (C1 ρ) v::((t.l.map (a8 (C1 ρ))).drop (k.toNat+1)).map Tm.strip))=some ⟨t.f,((t.l.take k.toNat).map Tm.strip++v::(t.l.drop (k.toNat+1)).map Tm.strip).map (a8 (C1 ρ))⟩;rw[e1,e2,map_append,map_cons]
theorem c4R(hr:ReN ρ ρ')(l:Lt):(Lt.rep (C1 ρ) l).strip=Lt.rep (C1 ρ) l.strip:=by
 unfold Lt.rep Lt.strip;simp only[t7,B8]
theorem c1n(hr:ReN ρ ρ'){c D:List Lt}{m:Mt}{z:Tm}(hz:E3 m.fr.b m.pl m.ti.a=some z):D6 (mtR ρ m) (c.map (Lt.rep (C1 ρ))) (D.map (Lt.rep (C1 ρ)))=(D6 m c D).map (Lt.rep (C1 ρ)):=by
 unfold D6;have e:∀L:List Lt,(L.map (Lt.rep (C1 ρ))).map Lt.strip=(L.map Lt.strip).map (Lt.rep (C1 ρ)):=λL=>by rw[map_map,map_map];exact map_congr_left λl _=>c4R hr l
 show(a1a (c.map _) m.fr.n.toNat).map Lt.strip++((a1a (D.map _) m.ti.n.toNat).map Lt.strip++[⟨x7 (D.map _) m.ti.n,(E3 (a8 (C1 ρ) m.fr.b) m.pl (a8 (C1 ρ) m.ti.a)).getD ⟨0,[]⟩,a8 (C1 ρ) m.ti.b⟩])=_;rw[b9G,b9G,e,e,b9i,b9j hr _ _ _ _ hz,hz,map_append,map_append];rfl
theorem c2J(hr:ReN ρ ρ'){c D:List Lt}(hc:∀l∈c,l.ten)(hD:∀l∈D,l.ten)(lZ:∀l∈c,(Lt.rep (C1 ρ) l).ten)(mO:∀l∈D,(Lt.rep (C1 ρ) l).ten):VL (a3h A0 c D (mtM false c D)) (a3h A0 (c.map (Lt.rep (C1 ρ))) (D.map (Lt.rep (C1 ρ))) (mtM false (c.map (Lt.rep (C1 ρ))) (D.map (Lt.rep (C1 ρ))))):=by
 rw[c3I hr];unfold a3h;rw[List.filterMap_map];refine VL.filt _ λm hm=>?_;have hk:=a6C hm;have s16c:∀l∈c,l.s16:=λl hl=>⟨C7 (hc l hl).1,C7 (hc l hl).2⟩
 have s16d:∀l∈D,l.s16:=λl hl=>⟨C7 (hD l hl).1,C7 (hD l hl).2⟩
 obtain⟨z,hz,_⟩:=hk.put s16c s16d;have qP:=hk.ft hc;have htt:=hk.tt hD;have uJ:=a9A hk.at_ htt.1;have t1:(a8 (C1 ρ) m.fr.a).ten:=by
  obtain⟨l,h1,h2,_⟩:=hk.fr;have:=lZ l (mem_of_getElem? h1);rcases h2 with⟨e1,_⟩ | ⟨e1,_⟩
  ·rw[e1];exact this.1
  ·rw[e1];exact this.2
 have t2:(a8 (C1 ρ) m.pt).ten:=by
  have cJ:atP m.pl (a8 (C1 ρ) m.ti.a)=some (a8 (C1 ρ) m.pt):=by
   have:∀(p:List Int) (t s:Tm),atP p t=some s->atP p (a8 (C1 ρ) t)=some (a8 (C1 ρ) s):=λp=>by
    induction p with
    | nil=>intro t s h;have h:some t=some s:=h;cases h;rfl
    | cons k p ih =>
     intro t s h;rw[atP]at h |-;cases hp:t.pa k with
     | none=>rw[hp]at h;cases h
     | some x =>
      rw[hp]at h;rw[c2m hp];exact ih x s h
   exact this _ _ _ hk.at_
  refine a9A cJ ?_;obtain⟨l,h1,h2⟩:=hk.ti;have:=mO l (mem_of_getElem? h1);rcases h2 with⟨e1,_⟩ | ⟨e1,_⟩
  ·rw[e1];exact this.1
  ·rw[e1];exact this.2
 obtain⟨e,ht⟩:=b8u hr qP.1 uJ t1 t2;show VL (a1m A0 c D m).toList (a1m A0 (c.map _) (D.map _) (mtR ρ m)).toList;unfold a1m;show VL _ (Option.toList (if(mgT (a8 (C1 ρ) m.fr.a) (a8 (C1 ρ) m.pt)).2=true/\A0 (a8 (mgS (a8 (C1 ρ) m.fr.a) (a8 (C1 ρ) m.pt)) (a8 (C1 ρ) m.fr.a)) (a8 (mgS (a8 (C1 ρ) m.fr.a) (a8 (C1 ρ) m.pt)) (a8 (C1 ρ) m.fr.b))=true/\A0 (a8 (mgS (a8 (C1 ρ) m.fr.a) (a8 (C1 ρ) m.pt)) (a8 (C1 ρ) m.ti.a)) (a8 (mgS (a8 (C1 ρ) m.fr.a) (a8 (C1 ρ) m.pt)) (a8 (C1 ρ) m.ti.b))=true then some ((D6 (mtR ρ m) (c.map (Lt.rep (C1 ρ))) (D.map (Lt.rep (C1 ρ)))).map (Lt.rep (mgS (a8 (C1 ρ) m.fr.a) (a8 (C1 ρ) m.pt))))else none));rw[e,c1n hr hz];by_cases h:(mgT m.fr.a m.pt).2=true
 ·have hw:=ht h;have hl:∀x y,A0 (a8 (mgS (a8 (C1 ρ) m.fr.a) (a8 (C1 ρ) m.pt)) (a8 (C1 ρ) x)) (a8 (mgS (a8 (C1 ρ) m.fr.a) (a8 (C1 ρ) m.pt)) (a8 (C1 ρ) y))=A0 (a8 (mgS m.fr.a m.pt) x) (a8 (mgS m.fr.a m.pt) y):=λx y=>by unfold A0;rw[hw.kb]
  rw[hl,hl];by_cases h2:(mgT m.fr.a m.pt).2=true/\A0 (a8 (mgS m.fr.a m.pt) m.fr.a) (a8 (mgS m.fr.a m.pt) m.fr.b)=true/\A0 (a8 (mgS m.fr.a m.pt) m.ti.a) (a8 (mgS m.fr.a m.pt) m.ti.b)=true
  ·rw[if_pos h2,if_pos h2];exact VL.one (hw.vnt _)
  ·rw[if_neg h2,if_neg h2];exact VL.nil
 ·rw[if_neg λk=>h k.1,if_neg λk=>h k.1];exact VL.nil
end
theorem S4{α β:Type}{f g:α->List β}:∀{A B:List α},A.Sublist B->(∀x∈A,(f x).Sublist (g x))->(A.flatMap f).Sublist (B.flatMap g)
 | _,_,.slnil,_=>List.Sublist.slnil
 | _,_,.cons b h,hx=>by
  rw[List.flatMap_cons];exact(S4 h hx).trans (List.sublist_append_right _ _)
 | _,_,.cons_cons a h,hx=>by
  rw[List.flatMap_cons,List.flatMap_cons];exact(hx a (by simp)).append (S4 h λx hm=>hx x (List.mem_cons_of_mem _ hm))
theorem c0M(c:List Lt):(W0 c).Sublist (upL c.length):=by
 unfold W0;split
 ·rename_i h;refine List.singleton_sublist.2 (mem_map.2 ⟨(hvK c c.length).1.toNat,List.mem_range.2 ?_,by omega⟩);have:=(b8X c c.length).2;omega
 ·unfold gsK upL;exact(List.filter_sublist ..).map _
theorem b3w(c:List Lt):(C3 (ldM false) c (lkM false c)).Sublist (C3 (ldM true) c (lkM true c)):=by
 refine S4 (c0M c) λn _=>?_;unfold a4k;split
 ·rename_i l _;have e:(wy2 n l).filter (λw=>ldM true w.a w.b)=wy2 n l:=List.filter_eq_self.2 λ_ _=>rfl;rw[e];exact List.filter_sublist ..
 ·exact List.Sublist.slnil
theorem c1F(c d:List Lt):(Q2 false c d).Sublist (Q2 true c d):=by
 have hm:(mtM false c (rnC c d)).Sublist (mtM true c (rnC c d)):=by
  refine S4 (b3w c) λf _=>?_;unfold mtN;split
  ·exact List.Sublist.slnil
  ·exact S4 (b3w _) λi _=>List.Sublist.refl _
 unfold Q2 a3h;rw[a2y,a2y];refine S4 hm λm _=>?_;unfold a1m;split
 ·rename_i h;rw[if_pos ⟨h.1,rfl,rfl⟩];exact List.Sublist.refl _
 ·exact List.nil_sublist _
def fI(P:List Lt->Bool):List (List Lt)->Nat
 | []=>0
 | y::Q=>if P y=true then 0 else fI P Q+1
theorem c2B(P:List Lt->Bool):∀Q:List (List Lt),(∀j,j<fI P Q->∃y,Q[j]?=some y/\P y=false)/\(fI P Q<Q.length->∃y,Q[fI P Q]?=some y/\P y=true)
 | []=>⟨λj h=>absurd h (by show ¬ j<0;omega),λh=>absurd h (by show ¬ (0:Nat)<0;omega)⟩
 | y::Q=>by
  obtain⟨h1,h2⟩:=c2B P Q;by_cases h:P y=true
  ·have e:fI P (y::Q)=0:=by unfold fI;rw[if_pos h]
   rw[e];exact⟨λj hj=>absurd hj (by omega),λ_=>⟨y,rfl,h⟩⟩
  ·have e:fI P (y::Q)=fI P Q+1:=by show(if P y=true then 0 else fI P Q+1)=_;rw[if_neg h]
   rw[e];refine⟨λj hj=>?_,λhj=>?_⟩
   ·cases j with
    | zero=>exact⟨y,rfl,by simpa using h⟩
    | succ j =>
     obtain⟨z,g1,g2⟩:=h1 j (by omega);exact⟨z,by simpa using g1,g2⟩
   ·rw[length_cons]at hj;obtain⟨z,g1,g2⟩:=h2 (by omega);exact⟨z,by simpa using g1,g2⟩
theorem a5N{P:List Lt->Bool}{z:List Lt}(hz:P z=true){R:List (List Lt)}:∀{Q:List (List Lt)},(z::R).Sublist Q->fI P Q<Q.length/\R.Sublist (Q.drop (fI P Q+1))
 | [],h=>by cases h
 | y::Q,h=>by
  by_cases hy:P y=true
  ·have e:fI P (y::Q)=0:=by unfold fI;rw[if_pos hy]
   rw[e];refine⟨by simp,?_⟩;show R.Sublist Q;cases h with
   | cons _ h=>exact(List.sublist_cons_self _ _).trans h
   | cons_cons _ h=>exact h
  ·have e:fI P (y::Q)=fI P Q+1:=by show(if P y=true then 0 else fI P Q+1)=_;rw[if_neg hy]
   rw[e];cases h with
   | cons _ h =>
    obtain⟨h1,h2⟩:=a5N hz h;exact⟨by rw[length_cons];omega,h2⟩
   | cons_cons _ h=>exact absurd hz hy
def gK(p q:List (List Lt)):Nat->Nat
 | 0=>0
 | i+1=>match p[i]? with
  | some z=>gK p q i+fI (λy=>M0 z y) (q.drop (gK p q i))+1
  | none=>gK p q i
theorem b9B{p q:List (List Lt)}(h:p.Sublist q):∀i,i<=p.length->(p.drop i).Sublist (q.drop (gK p q i))/\gK p q i<=q.length
 | 0,_=>⟨h,Nat.zero_le _⟩
 | i+1,hi=>by
  obtain⟨h1,h2⟩:=b9B h i (by omega);obtain⟨z,hz⟩:∃z,p[i]?=some z:=⟨p[i],List.getElem?_eq_getElem (by omega)⟩
  have e:gK p q (i+1)=gK p q i+fI (λy=>M0 z y) (q.drop (gK p q i))+1:=by show(match p[i]? with | some z=>_ | none=>_)=_;rw[hz]
  rw[Q4 hz]at h1;obtain⟨g1,g2⟩:=a5N (P:=λy=>M0 z y) (a2D.2 rfl) h1;rw[e];rw[List.length_drop]at g1;rw[List.drop_drop]at g2;exact⟨by rw[Nat.add_assoc];exact g2,by omega⟩
theorem c4C{p q:List (List Lt)}(h:p.Sublist q){i:Nat}{z:List Lt}(hz:p[i]?=some z):∃f,gK p q (i+1)=gK p q i+f+1/\gK p q i+f<q.length/\(∀j,j<f->∃y,q[gK p q i+j]?=some y/\M0 z y=false)/\∃y,q[gK p q i+f]?=some y/\M0 z y=true:=by
 have hi:i<p.length:=by
  rcases Nat.lt_or_ge i p.length with h | h
  ·exact h
  ·rw[List.getElem?_eq_none h]at hz;cases hz
 obtain⟨h1,h2⟩:=b9B h i (by omega);rw[Q4 hz]at h1;obtain⟨g1,g2⟩:=a5N (P:=λy=>M0 z y) (a2D.2 rfl) h1;obtain⟨a1,a2⟩:=c2B (λy=>M0 z y) (q.drop (gK p q i));refine⟨fI (λy=>M0 z y) (q.drop (gK p q i)),?_,?_,λj hj=>?_,?_⟩
 ·show(match p[i]? with | some z=>_ | none=>_)=_;rw[hz]
 ·rw[List.length_drop]at g1;omega
 ·obtain⟨y,b1,b2⟩:=a1 j hj;rw[List.getElem?_drop]at b1;exact⟨y,b1,b2⟩
 ·obtain⟨y,b1,b2⟩:=a2 g1;rw[List.getElem?_drop]at b1;exact⟨y,b1,b2⟩
def Tm.e8(t:Tm):Prop:=t.ten/\t.size<=8
theorem c3o{s E:Nat}(hE:E<=14)(h:Big E s):s<=583:=by
 have h:=h.up hE;unfold Big at h;have e1:(2:Nat) ^ 14=16384:=by decide
 have e2:(3:Nat) ^ 14=4782969:=by decide
 rw[e1,e2]at h;omega
theorem c1v{a b:Tm}(ha:a.e8)(hb:b.e8){v:Int}(hv:0<=v):(f0 (mgT a b).1 v).size<=583:=by
 have hT:=a2d ha.1 hb.1;have oU:∀u:Tm,u.f<0->u.size<=583:=λu hu=>by rw[Tm.size_var hu];omega
 cases h2:(mgT a b).2 with
 | false =>
  rw[(hT.no h2).1];exact oU _ (by show(n7 v).f<0;rw[s7];omega)
 | true =>
  have hm:=hT.yes h2;obtain⟨r,g1,g2⟩:=b1p [(a,b)] (by simp) (a5f ha.1 hb.1);cases r with
  | none=>exact absurd hm.uni (g1 rfl _)
  | some s =>
   obtain⟨k1,k2,k3⟩:=g2 s rfl;rw[k1.one hm hv];by_cases hf:(f0 s v).f<0
   ·exact oU _ hf
   ·obtain⟨q,hq,_,e⟩:=k3 v hv hf;rw[<-e];refine c3o ?_ (a0a (R6 _) k3 (λv _=>L2 k2 v) ⟨q,hq,rfl⟩);have e1:K9 [(a,b)]=(a.flat++b.flat)++[]:=rfl;have e2:=T4 a;have e3:=T4 b;have e4:=ha.2;have e5:=hb.2;rw[e1,List.append_nil,a2i];omega
theorem c2u{c d:List Lt}(hd:∀l∈d,l.a.e8/\l.b.e8)(h:∀l∈rnC c d,l.ten):∀l∈rnC c d,l.a.e8/\l.b.e8:=λl hl=>by
 have hs:=h l hl;obtain⟨x,hx,rfl⟩:=mem_map.1 hl;have g1:=a1y c;exact⟨⟨hs.1,by show(a8 _ x.a).size<=8;rw[O1 (by omega)];exact(hd x hx).1.2⟩,hs.2,by show(a8 _ x.b).size<=8;rw[O1 (by omega)];exact(hd x hx).2.2⟩
theorem b4y{free:Bool}{c d:List Lt}(hp:Pr2 free c d)(hl:c.length+d.length<=13)(hc:∀l∈c,l.a.e8/\l.b.e8)(hd:∀l∈rnC c d,l.a.e8/\l.b.e8){z:List Lt}(h:z∈Q2 free c d):okC5 z:=by
 obtain⟨iJ,dO⟩:=a8J hp h;obtain⟨m,hm,_,rfl⟩:=a4S h;have hk:=a6C hm;have hf:m.fr.a.e8/\m.fr.b.e8:=by
  obtain⟨l,h1,h2,_⟩:=hk.fr;have:=hc l (mem_of_getElem? h1);rcases h2 with⟨e1,e2⟩ | ⟨e1,e2⟩
  ·rw[e1,e2];exact this
  ·rw[e1,e2];exact⟨this.2,this.1⟩
 have ht:m.ti.a.e8/\m.ti.b.e8:=by
  obtain⟨l,h1,h2⟩:=hk.ti;have:=hd l (mem_of_getElem? h1);rcases h2 with⟨e1,e2⟩ | ⟨e1,e2⟩
  ·rw[e1,e2];exact this
  ·rw[e1,e2];exact⟨this.2,this.1⟩
 have uJ:m.pt.e8:=⟨a9A hk.at_ ht.1.1,Nat.le_trans (a9r hk.at_ ht.1.1.1.1).2 ht.1.2⟩
 have hs:∀l∈D6 m c (rnC c d),l.a.size<=16/\l.b.size<=16:=λl hl=>by
  unfold D6 at hl;have st:∀x:Lt,x.a.e8/\x.b.e8->x.strip.a.size<=16/\x.strip.b.size<=16:=λx hx=>by
   refine⟨?_,?_⟩
   ·show x.a.strip.size<=16;rw[Tm.strip_size];have:=hx.1.2;omega
   ·show x.b.strip.size<=16;rw[Tm.strip_size];have:=hx.2.2;omega
  rcases List.mem_append.1 hl with hl | hl
  ·obtain⟨x,hx,rfl⟩:=mem_map.1 hl;exact st x (hc x (Z7 hx))
  ·rcases List.mem_append.1 hl with hl | hl
   ·obtain⟨x,hx,rfl⟩:=mem_map.1 hl;exact st x (hd x (Z7 hx))
   ·rw[List.mem_singleton]at hl;subst hl;obtain⟨z,g1,g2,g3⟩:=hk.put hp.cs hp.rn;rw[g1];have:=ht.1.2;have:=ht.2.2;have:=hf.2.2;exact⟨by show z.size<=16;omega,by show m.ti.b.size<=16;omega⟩
 refine⟨by omega,λl hl=>?_⟩;obtain⟨r,_,_⟩:=dO l hl;obtain⟨x,hx,rfl⟩:=mem_map.1 hl;have iT:∀t:Tm,t.size<=16->(a8 (mgS m.fr.a m.pt) t).size<=29550:=λt ht=>by have h1:=b4s (M:=583) (by omega) (λv hv=>c1v hf.1 uJ hv) t;have h2:=Nat.mul_le_mul_left 583 ht;have h3:(a8 (mgS m.fr.a m.pt) t).size<=583*t.size:=h1;omega
 exact⟨⟨r.1.1,r.1.2,iT _ (hs x hx).1⟩,r.2.1,r.2.2,iT _ (hs x hx).2⟩
theorem c2Z{c d:List Lt}{b:Int}(hb:0<=b/\b<=255)(hc:∀l∈c,l.ten)(hd:∀l∈d,l.ten)(fU:∀v∈cvs c,v<1000)(tX:∀v∈cvs d,v<1000):VL (Q2 false c d) (Q2 false (c.map (Lt.rep (shV b))) (d.map (Lt.rep (shV b))))/\(∀l∈c.map (Lt.rep (shV b)),l.ten)/\(∀l∈d.map (Lt.rep (shV b)),l.ten)/\(∀v∈cvs (c.map (Lt.rep (shV b))),v<1255)/\∀v∈cvs (d.map (Lt.rep (shV b))),v<1255:=by
 have vsh:∀(k:Int),0<=k->∀t:Tm,(a8 (shV k) t).vs=t.vs.map λv=>v+k:=λk hk t=>b4P (λv=>v+k) t λv hv=>by have:=l9 t v hv;omega
 have csh:∀(k:Int),0<=k->∀e:List Lt,cvs (e.map (Lt.rep (shV k)))=(cvs e).map λv=>v+k:=λk hk e=>by unfold cvs;rw[flatMap_map,map_flatMap];refine N1 λl _=>?_;show(a8 (shV k) l.a).vs++(a8 (shV k) l.b).vs=_;rw[vsh k hk,vsh k hk,map_append]
 have lt5:∀e:List Lt,(∀v∈cvs e,v<1000)->∀v∈cvs (e.map (Lt.rep (shV b))),v<1255:=λe he v hv=>by rw[csh b hb.1]at hv;obtain⟨u,hu,rfl⟩:=mem_map.1 hv;have:=he u hu;omega
 have tsh:∀(k:Int),0<=k/\k<=10000->∀e:List Lt,(∀l∈e,l.ten)->(∀v∈cvs e,v<100000)->∀l∈e.map (Lt.rep (shV k)),l.ten:=λk hk e he hv l hl=>by obtain⟨x,hx,rfl⟩:=mem_map.1 hl;have s1:=a9x (C7 (he x hx).1) (b:=k) (N:=100000) hk.1 (by omega) λv h=>hv v (b2l hx v h);have s2:=a9x (C7 (he x hx).2) (b:=k) (N:=100000) hk.1 (by omega) λv h=>hv v (b1Z hx v h);exact⟨⟨s1.1,by show(a8 _ x.a).size<=10;rw[O1 hk.1];exact(he x hx).1.2⟩,s2.1,by show(a8 _ x.b).size<=10;rw[O1 hk.1];exact(he x hx).2.2⟩
 have T0:=a1y c;have T1:=a3C (N:=1000) (by omega) fU;obtain⟨c',lZ⟩:∃c',c'=c.map (Lt.rep (shV b)):=⟨_,rfl⟩
 obtain⟨d',aZ⟩:∃d',d'=d.map (Lt.rep (shV b)):=⟨_,rfl⟩
 have mL:=lt5 c fU;have mM:=lt5 d tX;have lB:=tsh b ⟨hb.1,by omega⟩ c hc λv hv=>by have:=fU v hv;omega
 have iY:=tsh b ⟨hb.1,by omega⟩ d hd λv hv=>by have:=tX v hv;omega
 rw[<-lZ]at mL lB |-;rw[<-aZ]at mM iY |-;refine⟨?_,lB,iY,mL,mM⟩;have U0:=a1y c';have U1:=a3C (N:=1255) (by omega) mL;have dD:U6 c<=U6 c':=by
  apply Classical.byContradiction;intro kA;have h1:U6 c<U6 c:=a3C (N:=U6 c) (by omega) λv hv=>by
   have h2:v+b∈cvs c':=by rw[lZ,csh b hb.1];exact mem_map.2 ⟨v,hv,rfl⟩
   have:=b4W h2;omega
  omega
 obtain⟨T,hT⟩:∃T,T=U6 c:=⟨_,rfl⟩
 obtain⟨U,hU⟩:∃U,U=U6 c':=⟨_,rfl⟩
 rw[<-hT]at T0 T1 dD;rw[<-hU]at U0 U1 dD;obtain⟨ρ,hρ⟩:∃ ρ:Int->Int,ρ=λv=>if v<=T then v+b else v+(b+(U-T)):=⟨_,rfl⟩
 have hr:ReN ρ (λu=>if u<=T+b then u-b else u-(b+(U-T))):=by
  refine⟨λv hv=>?_,λv hv=>?_⟩
  ·rw[hρ];simp only;split<;>omega
  ·rw[hρ];simp only;split<;>split<;>omega
 have ec:c'=c.map (Lt.rep (C1 ρ)):=by
  rw[lZ];refine map_congr_left λl hl=>?_;have e:∀t:Tm,(∀v∈t.vs,v∈cvs c)->a8 (shV b) t=a8 (C1 ρ) t:=λt ht=>y9 λv hv=>by have:=b4W (ht v hv);show n7 _=n7 _;rw[hρ];simp only;rw[if_pos (by omega)]
  unfold Lt.rep;rw[e _ (b2l hl),e _ (b1Z hl)]
 have ed:rnC c' d'=(rnC c d).map (Lt.rep (C1 ρ)):=by
  unfold rnC;rw[aZ,map_map,map_map,<-hT,<-hU];refine map_congr_left λl hl=>?_;have e:∀t:Tm,a8 (shV (U+1)) (a8 (shV b) t)=a8 (C1 ρ) (a8 (shV (T+1)) t):=λt=>by rw[b9m _ hb.1,b9m _ (by omega)];refine y9 λv hv=>?_;have:=l9 t v hv;show n7 _=n7 _;rw[hρ];simp only;rw[if_neg (by omega)];congr 1;omega
  show Lt.rep _ (Lt.rep _ l)=Lt.rep _ (Lt.rep _ l);unfold Lt.rep;simp only[e]
 have hD:∀l∈rnC c d,l.ten:=by unfold rnC;rw[<-hT];exact tsh (T+1) ⟨by omega,by omega⟩ d hd λv hv=>by have:=tX v hv;omega
 have mO:∀l∈rnC c' d',l.ten:=by unfold rnC;rw[<-hU];exact tsh (U+1) ⟨by omega,by omega⟩ d' iY λv hv=>by have:=mM v hv;omega
 have:=c2J hr hc hD (λl hl=>lB _ (by rw[ec];exact mem_map.2 ⟨l,hl,rfl⟩)) (λl hl=>mO _ (by rw[ed];exact mem_map.2 ⟨l,hl,rfl⟩));rw[<-ec,<-ed]at this;exact this
end Go.Proofs.YteegmcfobgpemaaGreat
