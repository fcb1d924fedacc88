/-
 AbNilF EqUni EqFns EqFac SuWalk SuSym SuWays SuMeet SuPut
-/
import Derived.Test.YteegmcfobgpemaaGreatMg10
import Derived.Test.YteegmcfobgpemaaGreatMg3
import Derived.Test.YteegmcfobgpemaaGreatMg4
import Derived.Test.YteegmcfobgpemaaGreatMg2
namespace Go.Proofs.YteegmcfobgpemaaGreat
open List (append_assoc append_nil cons_append flatMap_append getElem?_eq_getElem getElem?_eq_none getElem?_map length_append length_cons length_drop length_map length_nil length_take map_append map_drop map_take mem_cons mem_map mem_of_getElem? mem_of_mem_drop mem_of_mem_take nil_append not_mem_nil take_add_one take_append_drop take_length)
open Go.RowKit
set_option linter.unusedVariables false
set_option linter.unusedSimpArgs false
set_option maxRecDepth 100000
section
variable{P:Program}{w0:World}{U0:UX}{nt:Nat}{s:AS}
theorem c1R(k n e0 z:Nat)(hk:Nat.ble 500000 k=true)(hn:(Nat.ble 200000 n&&Nat.blt n 400000)=true)(hz:Nat.blt 0 z=true)(hs:look s k=some ⟨0,.lst [],1,0,[]⟩)(hr:A6 s [(n,[])]=true)(oB:V4 s n=true):Wk w0 U0 nt s ((k,.sl n 0 0 z)::(n,.mrow e0 z [])::s):=by
 rintro a w ⟨D,hv,h⟩;have hk5:=Nat.le_of_ble_eq_true hk;have kN:=rnB hn;have fV:RN n:=RW.rn kN;unfold RW at kN;have sS:look s n=none:=by
  cases e:look s n with
  | none=>rfl
  | some av =>
   unfold V4 at oB;rw[List.all_eq_true]at oB;have:=oB _ (E0 e);simp[Nat.beq_refl]at this
 have jL:W6 s n:=(q9 hr (n,[]) (by simp)).nr;obtain⟨kG,gJ⟩:∃kG:Nat->Value,kG=λx=>if x=n then .slice none 0 0 else hv x:=⟨_,rfl⟩
 have kR:∀x,x≠n->kG x=hv x:=λx hx=>by rw[gJ];simp only[if_neg hx]
 have bM:kG n=.slice none 0 0:=by rw[gJ];simp
 obtain⟨s',gC⟩:∃s',s'=(k,AV.sl n 0 0 z)::(n,AV.mrow e0 z [])::s:=⟨_,rfl⟩
 rw[<-gC];have kB:∀x,x≠k->x≠n->look s' x=look s x:=λx h1 h2=>by rw[gC,lN (Ne.symm h1),lN (Ne.symm h2)]
 have oE:look s' k=some (.sl n 0 0 z):=by rw[gC,lS]
 have oF:look s' n=some (.mrow e0 z []):=by rw[gC,lN (by omega),lS]
 have hl:∀q e,v8 s' q e↔v8 s q e:=λq e=>by
  unfold v8;by_cases e1:q=k
  ·omega
  ·by_cases e2:q=n
   ·subst e2;rw[oF,sS];constructor<;>(rintro⟨h1,_⟩;cases h1)
   ·rw[kB q e1 e2]
 have kM:a9 s'=a9 s:=by funext q;simp only[a9,hl]
 have lD:∀{k' av v},look s k'=some av->AVRep (Us w0 U0 D) w hv (a9 s) av v->AVRep (Us w0 U0 D) w kG (a9 s) av v:=fun{k' av v} h1 h2 =>
  h2.move (λ_ _ _ h1 h2=>⟨h1,h2⟩) (λ_ h=>h) λh3=>kR _ (a2F fV (jL k' av h1).1 h3)
 refine⟨D,kG,h.below,h.dfr,h.size,λd av g1 g2=>?_,λm o av g1 g2 g3 g4=>?_,λm o o' av av' g1 g2 g3 g4 g5=>?_,λk' av g1 g2=>?_,λk' av g g1 g2 g3 g4=>?_,λk' k2 av av' g g1 g2 g3 g4 g5 g6 g7 g8=>?_,λk' v g1=>?_,h.dlt⟩
 ·rw[kB d (by omega) (by omega)]at g1;rw[kM];obtain⟨v,h1,h2⟩:=h.slot d av g1 g2;exact⟨v,h1,lD g1 h2⟩
 ·have fG:=H4 g4;unfold n4 at fG;unfold BN at g4;rw[kB (100000+m) (by omega) (by omega)]at g3;rw[kM,kR (100000+m) (by omega)];by_cases e:i7 m o=k
  ·rw[e,oE]at g1;cases g1;obtain⟨v,h1,h2,h3⟩:=h.fld m o _ (by rw[e];exact hs) g2 g3 g4;have hv0:v=.slice none 0 0:=by obtain⟨q1,q2⟩:VRep (Us w0 U0 D) w (.lst []) v/\Tk hv (a9 s) ⟨0,.lst [],1,0,[]⟩ v.cells.toList:=h1;obtain⟨mm,c,f1,f2⟩:=q2 (.inl rfl);simp only at f1;rw[S2]at f1;cases f1;obtain⟨ao,k,c,e1,_⟩:=l5.1 q1;rw[e1]at f2 |-;simpa[Value.cells,J1]using f2
   subst hv0;refine⟨.slice none 0 0,⟨fV,?_⟩,rfl,h3⟩;show SlV (kG n) 0 0 z (.slice none 0 0);rw[bM];exact J4 rfl (Nat.le_refl _) (.inl rfl)
  ·rw[kB _ e (by unfold i7;omega)]at g1;obtain⟨v,h1,h2,h3⟩:=h.fld m o av g1 g2 g3 g4;exact⟨v,lD g1 h1,h2,h3⟩
 ·have conv:∀o (av:AV),look s' (i7 m o)=some av->∃av',look s (i7 m o)=some av'/\av'.sz=av.sz:=λo av f1=>by
   by_cases e:i7 m o=k
   ·rw[e,oE]at f1;cases f1;exact⟨⟨0,.lst [],1,0,[]⟩,by rw[e];exact hs,rfl⟩
   ·rw[kB _ e (by unfold i7;omega)]at f1;exact⟨av,f1,rfl⟩
  obtain⟨a1,b1,c1⟩:=conv o av g1
  obtain⟨a2,b2,c2⟩:=conv o' av' g2
  rw[<-c1];exact h.fdis m o o' a1 a2 b1 b2 g3 g4 g5
 ·unfold n4 at g2;rw[kM];by_cases e:k'=n
  ·subst e;rw[oF]at g1;cases g1;rw[bM];exact⟨[],World.ownsRow_nil _ _ _ _,bL hz,(λc hc=>by cases hc),rfl⟩
  ·rw[kB k' (by omega) e]at g1;rw[kR k' e];exact(h.obj k' av g1 g2).move (λ_ _ _ h1 h2=>⟨h1,h2⟩) (λht hl=>⟨hl,by
    unfold J1;rw[kR _ (jL k' av g1).1]⟩) (λ_ _=>rfl)
 ·unfold n4 at g2;by_cases e:k'=n
  ·subst e;rw[bM]at g4;cases g4
  ·rw[kB k' (by omega) e]at g1;rw[kR k' e]at g4 |-;exact h.blk k' av g g1 g2 g3 g4
 ·unfold n4 at g3 g4;by_cases e:k'=n
  ·subst e;rw[bM]at g8;cases g8
  ·by_cases e2:k2=n
   ·subst e2;rw[bM];intro h9;cases h9
   ·rw[kB k' (by omega) e]at g1;rw[kB k2 (by omega) e2]at g2;rw[kR k' e]at g8;rw[kR k2 e2];exact h.disj k' k2 av av' g g1 g2 g3 g4 g5 g6 g7 g8
 ·have:=U0.hf k' v g1;rw[kR k' (by omega)];exact h.fix k' v g1
end
theorem b3C{k:Nat}:∀(l:List Nat) {ns:List Nd} {o:List Nat} {q},Y6 k l ns o=some q->pw q.1=pw ns
 | [],ns,o,q,e=>by cases e;rfl
 | p::l,ns,o,q,e=>by
  rw[Y6]at e;cases h:o8 k ns p with
  | none=>rw[h]at e;cases e
  | some q1 =>
   rw[h]at e;rw[b3C l e,b9R,X4 k h]
theorem b8J{k:Nat}:∀(j i:Nat) {c:Cl} {o:List Nat} {q},a2V k j i c o=some q->pw q.1.ns=pw c.ns
 | 0,_,_,_,_,e=>by cases e
 | j+1,i,c,o,q,e=>by
  rw[a2V]at e;split at e
  ·cases e;rfl
  ·rename_i g hg;split at e
   ·cases e
   ·rename_i q1 h1;rw[b8J j _ e];show pw q1.1=_;rw[b3C _ h1,L1]
theorem c3k{c:Cl}{H r:Nat->Nat}{a b:Tm}(h:ClsC c H r [(a,b)])(hv:R1 c.vr)(ha:a.ten)(hb:b.ten)(hn:c.ns.length<=a.size+b.size):c.vr.length<20:=by
 have hnd:(c.vr.map Prod.snd).Nodup:=by have h1:c.vr.Pairwise (λa b=>a.1≠b.1):=List.pairwise_map.1 hv.1;refine List.pairwise_map.2 (List.Pairwise.imp_of_mem (fun{a b} ha hb oO e=>oO ?_) h1);have e1:=(h.vrt a.1 a.2 (H3 hv.1 ha)).2;have e2:=(h.vrt b.1 b.2 (H3 hv.1 hb)).2;rw[e]at e1;omega
 have kA:∀x∈c.vr.map Prod.snd,x<c.ns.length/\(nT c.ns x).f<0:=λx hx=>by obtain⟨p,hp,rfl⟩:=mem_map.1 hx;have h1:=h.vrt p.1 p.2 (H3 hv.1 hp);have h2:=hv.2 p hp;refine⟨h1.1,?_⟩;rw[h1.2];omega
 obtain⟨n,m,h1,h2,e1,e2,_⟩:=h.pair (a,b) (by simp);have e1:nT c.ns n=a:=e1;have e2:nT c.ns m=b:=e2;have more:∀x,x<c.ns.length->¬ (nT c.ns x).f<0->c.vr.length+1<=c.ns.length:=λx hx hf=>by
  have:=a1M c.ns.length (l:=x::c.vr.map Prod.snd) (List.nodup_cons.2 ⟨λhm=>hf (kA x hm).2,hnd⟩) (λy hy=>by
   rcases mem_cons.1 hy with rfl | hy
   ·exact hx
   ·exact(kA y hy).1)
  simpa using this
 have cS:=c2U h hv;have dG:=ha.2;have lX:=hb.2;by_cases f1:a.f<0
 ·by_cases f2:b.f<0
  ·have s1:=Tm.size_var f1;have s2:=Tm.size_var f2;omega
  ·have:=more m h2 (by rw[e2];exact f2);omega
 ·have:=more n h1 (by rw[e1];exact f1);omega
theorem b0k(W:World)(x y:List Lt)(hl:x.length+y.length<=1000000):AFun Tryz.prog W 95 [.lst [.lst (x.map Lt.cv),.lst (y.map Lt.cv)]] (.val (.lst ((x++y).map Lt.cv))):=by
 have h:=a2Y W [x,y] (by simp) (by simp;omega);have e:[x,y].flatten=x++y:=by simp
 rw[e]at h;exact h
theorem b0c(W:World)(c:List Lt)(n:Nat)(hn:n<c.length)(hl:c.length<=100000):AFun Tryz.prog W 133 [.lst (c.map Lt.cv),.i (n:Int)] (.val (.lst ((a1a c n).map Lt.cv))):=by
 have kC:=Lt.size_all c;have gV:=λw=>b0k w (c.take n) (c.drop (n+1)) (by rw[length_take,length_drop];omega);rw[map_take,map_drop]at gV;have kD:(c.map Lt.cv).length=c.length:=length_map ..;refine b9 (rs:=[.lst ((a1a c n).map Lt.cv)]) Tryz.func133 Tryz.ntmps133 rfl rfl rfl rfl ?_;intro w U hW;refine qz<|nc ze ?_;refine aS<|aD (by kernel_rfl) (by kernel_rfl) ?_;refine nc zl<|nc zl<|nc zbI<|nc zl<|nc zl<|nc zA<|nc (zbu (lo:=n+1))<|nc zy<|nc (zk (z:=gV w))<|nc ze ?_;refine⟨by kernel_rfl,?_⟩;exact aT (And.intro (.inr rfl) rfl)
theorem a4p{c:List Lt}(hl:c.length<=100000)(h:∀l∈c,(l.a.rng/\l.a.ok)/\l.b.rng/\l.b.ok):(⟨0,E2 c⟩:Tm).rng/\(⟨0,E2 c⟩:Tm).ok:=by
 have hm:∀s∈E2 c,s.rng/\s.ok:=λs hs=>by
  obtain⟨l,hl,e⟩:=b1h.1 hs;rcases e with rfl | rfl
  ·exact(h l hl).1
  ·exact(h l hl).2
 have kD:=a5q c;exact⟨(Tm.rng_iff _).2 ⟨by show _<=(0:Int)/\(0:Int)<=_;omega,λs hs=>(hm s hs).1⟩,(Tm.ok_iff _).2 ⟨by show(E2 c).length<=_;omega,λs hs=>(hm s hs).2⟩⟩
theorem b1w:∀t:Tm,a8 (f0 []) t=t.strip:=λt=>a3D t
theorem b9Z(c:List Lt):c.map (Lt.rep (f0 []))=c.map Lt.strip:=by
 refine List.map_congr_left λl _=>?_;unfold Lt.rep Lt.strip;rw[b1w,b1w]
theorem M1(W:World)(c:List Lt)(i:Int)(hl:c.length<=100000)(hc:∀l∈c,(l.a.rng/\l.a.ok)/\l.b.rng/\l.b.ok):AFun Tryz.prog W 96 [.lst (c.map Lt.cv),.i i] (.val (.lst (((if 0<=i/\i<c.length then a1a c i.toNat else c).map Lt.strip).map Lt.cv))):=by
 have fX:∀(d:List Lt) (w:World),d.length<=100000->(∀l∈d,(l.a.rng/\l.a.ok)/\l.b.rng/\l.b.ok)->AFun Tryz.prog w 67 [.lst [],.lst (d.map Lt.cv)] (.val (.lst ((d.map Lt.strip).map Lt.cv))):=λd w h1 h2=>by obtain⟨g1,g2⟩:=a4p h1 h2;have:=a4x w [] d (by omega) (by simp) (λb hb=>by cases hb) g1 g2;rw[b9Z]at this;exact this
 have kC:=Lt.size_all c;refine b9 (rs:=[.lst (((if 0<=i/\i<c.length then a1a c i.toNat else c).map Lt.strip).map Lt.cv)]) Tryz.func96 Tryz.ntmps96 rfl rfl rfl rfl ?_;intro w U hW;refine qz<|nc ze ?_;by_cases h0:i>=0
 ·have g0:decide (i>=0)=true:=decide_eq_true h0;by_cases h1:i<c.length
  ·have g1:decide (i<((c.map Lt.cv).length:Int))=true:=decide_eq_true (by rw[length_map];exact h1);obtain⟨n,rfl⟩:∃n:Nat,i=(n:Int):=⟨i.toNat,by omega⟩
   rw[if_pos ⟨h0,h1⟩,Int.toNat_natCast];have hn:n<c.length:=by omega
   have tI:=O8 hn;refine aS<|qz<|nc zl<|nc zn<|nc zl<|nc (zl (p:=gb))<|nc (zl (p:=gb))<|nc (zo (r:=gb))<|nc (zi (r:=gb))<|nc zp ?_;refine aC rfl (λ_=>?_) (λh=>by rw[g1]at h;cases h);refine aR<|nc zl<|nc zl<|nc (zk (z:=b0c w c n hn hl))<|nc ze ?_;refine qz<|nc zl ?_;refine nc (zk (z:=fX (a1a c n) w (by omega) (λl h=>hc l (Z7 h)))) ?_;refine nc ze ?_;exact aT (And.intro (.inr rfl) rfl)
  ·have g1:decide (i<((c.map Lt.cv).length:Int))=false:=decide_eq_false (by rw[length_map];exact h1);rw[if_neg (by omega)];refine aS<|qz<|nc zl<|nc zn<|nc zl<|nc (zl (p:=gb))<|nc (zl (p:=gb))<|nc (zo (r:=gb))<|nc (zi (r:=gb))<|nc zp ?_;refine aC rfl (λh=>by rw[g1]at h;cases h) (λ_=>aK ?_);refine qz<|nc zl<|nc (zk (z:=fX c w hl hc))<|nc ze ?_;exact aT (And.intro (.inr rfl) rfl)
 ·have g0:decide (i>=0)=false:=decide_eq_false h0;rw[if_neg (by omega)];refine aS<|qz<|nc zl<|nc zn<|nc zl<|nc zq<|nc zq<|nc zq<|nc zq<|nc zr ?_;refine aC rfl (λh=>by cases h) (λ_=>aK ?_);refine qz<|nc zl<|nc (zk (z:=fX c w hl hc))<|nc ze ?_;exact aT (And.intro (.inr rfl) rfl)
noncomputable def clC(c:List Lt):CV:=.lst (c.map Lt.cv)
theorem a1V(L:List (List Lt)):∀x∈L.map clC,x.size=1:=by
 intro x hx;obtain⟨c,_,rfl⟩:=mem_map.1 hx;rfl
noncomputable abbrev obE(L:List (List Lt)):AS:=[(450001,.obj),(35500100,.sl 300005 0 L.length 1),(300005,.mrow 26 1 (L.map clC))]
noncomputable abbrev b9I:List CV:=[.b false,.row [.i 0,.lst []],.row [.i 0,.lst []]]
noncomputable def sy(t:Tm):List Int->List (List Int×Tm):=
 Tm.rec (motive_1:=λ_=>List Int->List (List Int×Tm)) (motive_2:=λ_=>Nat->List Int->List (List Int×Tm))
  (λf l ih pl=>if f<0 then[] else(pl,⟨f,l⟩)::ih 0 pl)
  (λ_ _=>[])
  (λ_ _ ih1 ih2 i pl=>ih1 (pl++[(i:Int)])++ih2 (i+1) pl) t
noncomputable def syL(l:List Tm):Nat->List Int->List (List Int×Tm):=
 Tm.rec_1 (motive_1:=λ_=>List Int->List (List Int×Tm)) (motive_2:=λ_=>Nat->List Int->List (List Int×Tm))
  (λf l ih pl=>if f<0 then[] else(pl,⟨f,l⟩)::ih 0 pl)
  (λ_ _=>[])
  (λ_ _ ih1 ih2 i pl=>ih1 (pl++[(i:Int)])++ih2 (i+1) pl) l
theorem X9(t:Tm)(pl:List Int):sy t pl=if t.f<0 then[] else(pl,t)::syL t.l 0 pl:=by cases t;rfl
theorem X2(i:Nat)(pl:List Int):syL [] i pl=[]:=rfl
theorem I0(t:Tm)(l:List Tm)(i:Nat)(pl:List Int):syL (t::l) i pl=sy t (pl++[(i:Int)])++syL l (i+1) pl:=rfl
theorem a9e:∀(a b:List Tm) (i:Nat) (pl:List Int),syL (a++b) i pl=syL a i pl++syL b (i+a.length) pl
 | [],b,i,pl=>by rw[nil_append,X2,nil_append];rfl
 | t::a,b,i,pl=>by rw[cons_append,I0,I0,a9e a b (i+1) pl,append_assoc,length_cons];congr 3;omega
theorem a5F{l:List Tm}{k:Nat}{x:Tm}(i:Nat)(pl:List Int)(hx:l[k]?=some x):syL (l.take (k+1)) i pl=syL (l.take k) i pl++sy x (pl++[((i+k:Nat):Int)]):=by
 have hk:k<l.length:=by
  rcases Nat.lt_or_ge k l.length with h | h
  ·exact h
  ·rw[getElem?_eq_none h]at hx;cases hx
 rw[take_add_one,hx,a9e];rw[show(some x).toList=[x]from rfl,I0,X2,append_nil,length_take,Nat.min_eq_left (by omega)]
theorem b9J{f:Int}{l:List Tm}{k:Nat}{x:Tm}(hx:l[k]?=some x)(pl:List Int){i:Nat}{y:List Int×Tm}(hy:(sy x (pl++[(k:Int)]))[i]?=some y):((pl,(⟨f,l⟩:Tm))::syL l 0 pl)[1+(syL (l.take k) 0 pl).length+i]?=some y:=by
 rw[show 1+(syL (l.take k) 0 pl).length+i=((syL (l.take k) 0 pl).length+i)+1 by omega,List.getElem?_cons_succ];have h1:syL l 0 pl=syL (l.take (k+1)) 0 pl++syL (l.drop (k+1)) (0+(l.take (k+1)).length) pl:=by rw[<-a9e,take_append_drop]
 have hi:i<(sy x (pl++[(k:Int)])).length:=by
  rcases Nat.lt_or_ge i (sy x (pl++[(k:Int)])).length with h | h
  ·exact h
  ·rw[getElem?_eq_none h]at hy;cases hy
 rw[h1,a5F 0 pl hx,Nat.zero_add,append_assoc,List.getElem?_append_right (by omega),Nat.add_sub_cancel_left,List.getElem?_append_left hi,hy]
theorem a5E{f:Int}{l:List Tm}(hf:¬ f<0){k:Nat}{x:Tm}(hx:l[k]?=some x):1+((l.take k).flatMap Tm.flat).length+x.size<=(Tm.mk f l).size:=by
 have h1:(Tm.mk f l).size=1+(l.flatMap Tm.flat).length:=by rw[Tm.size_eq,Tm.ps_of_sym (by show 0<=f;omega)]
 have h2:(l.flatMap Tm.flat).length=((l.take k).flatMap Tm.flat).length+((l.drop k).flatMap Tm.flat).length:=by
  conv=>lhs;rw[<-take_append_drop k l]
  rw[flatMap_append,length_append]
 have h3:x.flat.length<=((l.drop k).flatMap Tm.flat).length:=w7 Tm.flat (mem_of_getElem? (i:=0) (by rw[List.getElem?_drop];simpa using hx));have h4:x.flat.length=x.size:=rfl;omega
theorem c1f{f:Int}{l:List Tm}(hf:¬ f<0):l.length<(Tm.mk f l).size:=by
 rw[Tm.size_eq,Tm.ps_of_sym (by show 0<=f;omega)];have:∀l:List Tm,l.length<=(l.flatMap Tm.flat).length:=by
  intro l
  induction l with
  | nil=>exact Nat.le_refl _
  | cons x l ih =>
   rw[List.flatMap_cons,length_append,length_cons];have:0<x.flat.length:=by rw[Tm.flat_eq];simp
   omega
 have:=this l;show l.length<1+(l.flatMap Tm.flat).length;omega
theorem c2r{U:UX}{pre:List Nat}(hU:∀k v,U.f k=some v->l7 pre k=true){n:Nat}(h:l7 pre n=false):U.f n=none:=by
 cases e:U.f n with
 | none=>rfl
 | some v=>rw[hU n v e]at h;cases h
noncomputable abbrev c2G(X:Nat)(pl:List Int):AS:=[(X,.mrow 3 1 (pl.map CV.i))]
noncomputable abbrev obX(L:List (List Lt))(X:Nat)(pl:List Int):AS:=[(450001,.obj),(35500100,.sl 300005 0 L.length 1),(300005,.mrow 26 1 (L.map clC)),(X,.mrow 3 1 (pl.map CV.i))]
set_option maxHeartbeats 8000000 in
theorem b1W(Wb:World)(Ub:UX)(l0:Nat)(Ls:Nat->List (List Lt)):∀t:Tm,∀(j:Nat) (pl:List Int),pl.length+t.size<=1000000->(∀i x,(sy t pl)[i]?=some x->∀X∈[400002,400003],b9r Tryz.prog Wb Ub l0 X (obX (Ls (j+i)) X x.1) (λ_=>[.sl X 0 x.1.length 1,.val x.2.cw]) (obX (Ls (j+i+1)) X x.1))->a1F Tryz.prog Wb Ub 120 (obX (Ls (j)) 400002 (pl)) [.sl 400002 0 (pl).length 1,.val (t).cw,.val (G1 l0)] (.val (.b true)) (obX (Ls (j+(sy t pl).length)) 400002 (pl))/\a1F Tryz.prog Wb Ub 120 (obX (Ls (j)) 400003 (pl)) [.sl 400003 0 (pl).length 1,.val (t).cw,.val (G1 l0)] (.val (.b true)) (obX (Ls (j+(sy t pl).length)) 400003 (pl)):=by
 intro t
 induction t using Tm.ind with
 | h f l ih =>
 intro j pl gL hY;have kC:=Tm.size_all l;have cZ:f<0\/l.length<1000000:=by
  by_cases hf:f<0
  ·exact .inl hf
  ·exact .inr (by have:=c1f hf (l:=l);omega)
 constructor
 ·refine a1B Tryz.func120 Tryz.ntmps120 rfl rfl rfl rfl (by kernel_rfl) (by kernel_rfl) ?_;intro w U bG hU;have xS:U.f 400003=none:=c2r hU (by kernel_rfl);refine qz<|ne zd<|nc ze ?_;refine aS<|qz<|nc zg<|nc zh<|nc zi ?_;refine aC rfl (λhc=>?_) (λhc=>?_)
  ·have hf:f<0:=by simpa using hc
   have e:(sy ⟨f,l⟩ pl).length=0:=by rw[X9,if_pos hf];rfl
   rw[e,Nat.add_zero];refine qz<|nc ze ?_;exact aT ⟨.inr rfl,_,Wk.refl _,rfl,rfl,rfl,rfl,rfl,trivial⟩
  have hf:¬ f<0:=by simpa using hc
  have tR:=X9 ⟨f,l⟩ pl;rw[if_neg hf]at tR;rw[tR]at hY |-;refine aK ?_;refine AWp.wk (a7 (s':=(0,AV.sl 400002 0 pl.length 1)::(2,.val (G1 l0))::(4,.bp 4 0 [])::(100004,.bx (Tm.cw ⟨f,l⟩))::(obX (Ls (j)) 400002 pl)) ⟨rfl,rfl,rfl,rfl,rfl,rfl,rfl,rfl,trivial⟩) ?_;have pP:=hY 0 (pl,⟨f,l⟩) rfl 400002 (by simp);refine aS<|aS<|K7 ?_
  (refine nxY (AOp.y (aM (gN rfl) rfl rfl rfl rfl rfl)) rfl ?_)
  (refine nxY (AOp.y (aM (gN rfl) rfl rfl rfl rfl rfl)) rfl ?_)
  (refine nxY (AOp.y (aL (gN rfl) rfl rfl rfl rfl rfl rfl rfl rfl rfl rfl rfl rfl)) rfl ?_)
  (refine nxY (a2g (u:=.slice none 0 0) 0 (pP) bG (gN rfl) rfl rfl rfl rfl rfl rfl (.inr λ_ _=>rfl) (by repeat (first | exact trivial | refine⟨rfl,?_⟩)) (by first | rfl | kernel_rfl) (by first | rfl | kernel_rfl) (by first | rfl | kernel_rfl) (i8 (by first | rfl | kernel_rfl)) rfl) rfl ?_)
  (refine nxY (AOp.y (a9h (gN rfl) rfl rfl rfl rfl rfl)) rfl ?_)
  refine aC rfl (λhc=>by cases hc) (λhc=>aK ?_);refine AWp.wk (a7 (s':=(0,AV.sl 400002 0 pl.length 1)::(2,.val (G1 l0))::(4,.bp 4 0 [])::(100004,.bx (Tm.cw ⟨f,l⟩))::(obX (Ls (j+1)) 400002 pl)) ⟨rfl,rfl,rfl,rfl,rfl,rfl,rfl,rfl,trivial⟩) ?_;refine aS<|qz<|nc zg<|nc zh<|nc zo<|nc zl ?_;refine aB (n6 l.length (λk=>(0,AV.sl 400002 0 pl.length 1)::(2,.val (G1 l0))::(18,.val (.lst (l.map Tm.cv)))::(19,.val (.i (l.map Tm.cv).length))::(20,.val (.i (k)))::(obX (Ls (j+1+(syL (l.take k) 0 pl).length)) 400002 pl)) (a7 ⟨rfl,rfl,rfl,rfl,rfl,?_,?_,?_,rfl,trivial⟩) ?_)
  ·rfl
  ·rfl
  ·rfl
  intro k hk;obtain⟨J,hJ⟩:∃J,J=j+1+(syL (l.take k) 0 pl).length:=⟨_,rfl⟩
  refine qz<|nc zi ?_;refine aS<|aC rfl (λkA=>?_) (λkA=>?_)
  ·have kE:k<l.length:=by simpa using kA
   obtain⟨x,hx⟩:∃x,l[k]?=some x:=⟨l[k],getElem?_eq_getElem kE⟩
   have kT:=Tm.map_at hx;have cQ:=mem_of_getElem? hx;have hszs:=a5E hf hx;have kQ:syL (l.take (k+1)) 0 pl=syL (l.take k) 0 pl++sy x (pl++[(k:Int)]):=by rw[a5F 0 pl hx,Nat.zero_add]
   have jK:j+1+(syL (l.take (k+1)) 0 pl).length=J+(sy x (pl++[(k:Int)])).length:=by rw[kQ,length_append,hJ];omega
   have kK:=(ih x cQ J (pl++[(k:Int)]) (by rw[length_append];simp only[length_cons,length_nil];omega) (λi y hy X hX=>by
    have h2:=hY (1+(syL (l.take k) 0 pl).length+i) y (b9J hx pl hy) X hX;have e1:j+(1+(syL (l.take k) 0 pl).length+i)=J+i:=by omega
    rw[e1]at h2;exact h2)).2
   have hpe:(pl++[(k:Int)]).length=(pl.map CV.i).length+[CV.i (k:Int)].length:=by simp
   unfold obX at kK;rw[hpe,map_append]at kK;have fZ:(pl.map CV.i).length=pl.length:=length_map ..;rw[<-hJ];refine aK<|aS<|aB<|qz<|nc zl<|nc (zt (j:=k) (H:=kT) (hz:=kC))<|nc zu<|ne zw<|nc ze<|nc zx ?_;refine AWp.wk (a7 (s':=(7,AV.val (.i (k:Int)))::(8,.bp 8 0 [])::(100008,.bx x.cw)::((0,AV.sl 400002 0 pl.length 1)::(2,.val (G1 l0))::(18,.val (.lst (l.map Tm.cv)))::(19,.val (.i (l.map Tm.cv).length))::(20,.val (.i (k)))::(obX (Ls (J)) 400002 pl))) ⟨rfl,rfl,rfl,rfl,rfl,rfl,rfl,rfl,rfl,rfl,rfl,rfl,trivial⟩) ?_;refine AWp.handle 3 400002 rfl rfl rfl rfl λao cap qH hao=>?_;rcases Nat.lt_or_ge (pl.map CV.i).length cap with hroom | hroom
   ·refine aS<|aD (by kernel_rfl) (by kernel_rfl) ?_;refine nc zl<|nc zl<|nc zy<|ne (zbJ 400003 3 5 (hf:=xS) (hroom:=hroom))<|nc zj<|nc zl<|nc (zbK bG (z:=kK) (G:=i8 (by first | rfl | kernel_rfl)))<|nc zZ ?_;refine⟨by kernel_rfl,?_⟩;refine aC rfl (λhc=>by cases hc) (λhc=>aK ?_);refine AWp.wk (b0V 400002 400003 3 5 (pl.map CV.i).length rfl rfl rfl rfl rfl rfl rfl (by simp)) ?_;refine aR<|nc zA<|nc zl ?_;refine⟨kE,?_⟩;show Wk _ _ _ _ ((0,AV.sl 400002 0 pl.length 1)::(2,.val (G1 l0))::(18,.val (.lst (l.map Tm.cv)))::(19,.val (.i (l.map Tm.cv).length))::(20,.val (.i (((k+1:Nat):Int))))::(obX (Ls (j+1+(syL (l.take (k+1)) 0 pl).length)) 400002 pl));rw[jK];refine a7 ⟨rfl,rfl,rfl,rfl,rfl,rfl,rfl,rfl,?_,trivial⟩;show some (AV.mrow 3 1 ((pl.map CV.i++[CV.i (k:Int)]).take (pl.map CV.i).length))=_;rw[List.take_left' rfl]
   ·have xI:cap=(pl.map CV.i).length:=by omega
    subst xI;refine aS<|aD (by kernel_rfl) (by kernel_rfl) ?_;refine nc zl<|nc zl<|nc zy<|ne (zbL 400003 3 (hf:=xS))<|nc zj<|nc zl<|nc (zbK bG (z:=kK) (G:=i8 (by first | rfl | kernel_rfl)))<|nc zZ ?_;refine⟨by kernel_rfl,?_⟩;refine aC rfl (λhc=>by cases hc) (λhc=>aK ?_);refine aR<|nc zA<|nc zl ?_;refine⟨kE,?_⟩;show Wk _ _ _ _ ((0,AV.sl 400002 0 pl.length 1)::(2,.val (G1 l0))::(18,.val (.lst (l.map Tm.cv)))::(19,.val (.i (l.map Tm.cv).length))::(20,.val (.i (((k+1:Nat):Int))))::(obX (Ls (j+1+(syL (l.take (k+1)) 0 pl).length)) 400002 pl));rw[jK];exact a7 ⟨rfl,rfl,rfl,rfl,rfl,rfl,rfl,rfl,rfl,trivial⟩
  ·have kE:k=l.length:=by
    have:¬ k<l.length:=by simpa using kA
    omega
   subst kE;have pZ:j+((pl,(⟨f,l⟩:Tm))::syL l 0 pl).length=J:=by rw[take_length]at hJ;rw[hJ,length_cons];omega
   rw[pZ,<-hJ];refine aE<|qz<|nc ze ?_;exact aT ⟨.inr rfl,_,Wk.refl _,rfl,rfl,rfl,rfl,rfl,trivial⟩
 ·refine a1B Tryz.func120 Tryz.ntmps120 rfl rfl rfl rfl (by kernel_rfl) (by kernel_rfl) ?_;intro w U bG hU;have xS:U.f 400002=none:=c2r hU (by kernel_rfl);refine qz<|ne zd<|nc ze ?_;refine aS<|qz<|nc zg<|nc zh<|nc zi ?_;refine aC rfl (λhc=>?_) (λhc=>?_)
  ·have hf:f<0:=by simpa using hc
   have e:(sy ⟨f,l⟩ pl).length=0:=by rw[X9,if_pos hf];rfl
   rw[e,Nat.add_zero];refine qz<|nc ze ?_;exact aT ⟨.inr rfl,_,Wk.refl _,rfl,rfl,rfl,rfl,rfl,trivial⟩
  have hf:¬ f<0:=by simpa using hc
  have tR:=X9 ⟨f,l⟩ pl;rw[if_neg hf]at tR;rw[tR]at hY |-;refine aK ?_;refine AWp.wk (a7 (s':=(0,AV.sl 400003 0 pl.length 1)::(2,.val (G1 l0))::(4,.bp 4 0 [])::(100004,.bx (Tm.cw ⟨f,l⟩))::(obX (Ls (j)) 400003 pl)) ⟨rfl,rfl,rfl,rfl,rfl,rfl,rfl,rfl,trivial⟩) ?_;have pP:=hY 0 (pl,⟨f,l⟩) rfl 400003 (by simp);refine aS<|aS<|K7 ?_
  (refine nxY (AOp.y (aM (gN rfl) rfl rfl rfl rfl rfl)) rfl ?_)
  (refine nxY (AOp.y (aM (gN rfl) rfl rfl rfl rfl rfl)) rfl ?_)
  (refine nxY (AOp.y (aL (gN rfl) rfl rfl rfl rfl rfl rfl rfl rfl rfl rfl rfl rfl)) rfl ?_)
  (refine nxY (a2g (u:=.slice none 0 0) 0 (pP) bG (gN rfl) rfl rfl rfl rfl rfl rfl (.inr λ_ _=>rfl) (by repeat (first | exact trivial | refine⟨rfl,?_⟩)) (by first | rfl | kernel_rfl) (by first | rfl | kernel_rfl) (by first | rfl | kernel_rfl) (i8 (by first | rfl | kernel_rfl)) rfl) rfl ?_)
  (refine nxY (AOp.y (a9h (gN rfl) rfl rfl rfl rfl rfl)) rfl ?_)
  refine aC rfl (λhc=>by cases hc) (λhc=>aK ?_);refine AWp.wk (a7 (s':=(0,AV.sl 400003 0 pl.length 1)::(2,.val (G1 l0))::(4,.bp 4 0 [])::(100004,.bx (Tm.cw ⟨f,l⟩))::(obX (Ls (j+1)) 400003 pl)) ⟨rfl,rfl,rfl,rfl,rfl,rfl,rfl,rfl,trivial⟩) ?_;refine aS<|qz<|nc zg<|nc zh<|nc zo<|nc zl ?_;refine aB (n6 l.length (λk=>(0,AV.sl 400003 0 pl.length 1)::(2,.val (G1 l0))::(18,.val (.lst (l.map Tm.cv)))::(19,.val (.i (l.map Tm.cv).length))::(20,.val (.i (k)))::(obX (Ls (j+1+(syL (l.take k) 0 pl).length)) 400003 pl)) (a7 ⟨rfl,rfl,rfl,rfl,rfl,?_,?_,?_,rfl,trivial⟩) ?_)
  ·rfl
  ·rfl
  ·rfl
  intro k hk;obtain⟨J,hJ⟩:∃J,J=j+1+(syL (l.take k) 0 pl).length:=⟨_,rfl⟩
  refine qz<|nc zi ?_;refine aS<|aC rfl (λkA=>?_) (λkA=>?_)
  ·have kE:k<l.length:=by simpa using kA
   obtain⟨x,hx⟩:∃x,l[k]?=some x:=⟨l[k],getElem?_eq_getElem kE⟩
   have kT:=Tm.map_at hx;have cQ:=mem_of_getElem? hx;have hszs:=a5E hf hx;have kQ:syL (l.take (k+1)) 0 pl=syL (l.take k) 0 pl++sy x (pl++[(k:Int)]):=by rw[a5F 0 pl hx,Nat.zero_add]
   have jK:j+1+(syL (l.take (k+1)) 0 pl).length=J+(sy x (pl++[(k:Int)])).length:=by rw[kQ,length_append,hJ];omega
   have kK:=(ih x cQ J (pl++[(k:Int)]) (by rw[length_append];simp only[length_cons,length_nil];omega) (λi y hy X hX=>by
    have h2:=hY (1+(syL (l.take k) 0 pl).length+i) y (b9J hx pl hy) X hX;have e1:j+(1+(syL (l.take k) 0 pl).length+i)=J+i:=by omega
    rw[e1]at h2;exact h2)).1
   have hpe:(pl++[(k:Int)]).length=(pl.map CV.i).length+[CV.i (k:Int)].length:=by simp
   unfold obX at kK;rw[hpe,map_append]at kK;have fZ:(pl.map CV.i).length=pl.length:=length_map ..;rw[<-hJ];refine aK<|aS<|aB<|qz<|nc zl<|nc (zt (j:=k) (H:=kT) (hz:=kC))<|nc zu<|ne zw<|nc ze<|nc zx ?_;refine AWp.wk (a7 (s':=(7,AV.val (.i (k:Int)))::(8,.bp 8 0 [])::(100008,.bx x.cw)::((0,AV.sl 400003 0 pl.length 1)::(2,.val (G1 l0))::(18,.val (.lst (l.map Tm.cv)))::(19,.val (.i (l.map Tm.cv).length))::(20,.val (.i (k)))::(obX (Ls (J)) 400003 pl))) ⟨rfl,rfl,rfl,rfl,rfl,rfl,rfl,rfl,rfl,rfl,rfl,rfl,trivial⟩) ?_;refine AWp.handle 3 400003 rfl rfl rfl rfl λao cap qH hao=>?_;rcases Nat.lt_or_ge (pl.map CV.i).length cap with hroom | hroom
   ·refine aS<|aD (by kernel_rfl) (by kernel_rfl) ?_;refine nc zl<|nc zl<|nc zy<|ne (zbJ 400002 3 5 (hf:=xS) (hroom:=hroom))<|nc zj<|nc zl<|nc (zbK bG (z:=kK) (G:=i8 (by first | rfl | kernel_rfl)))<|nc zZ ?_;refine⟨by kernel_rfl,?_⟩;refine aC rfl (λhc=>by cases hc) (λhc=>aK ?_);refine AWp.wk (b0V 400003 400002 3 5 (pl.map CV.i).length rfl rfl rfl rfl rfl rfl rfl (by simp)) ?_;refine aR<|nc zA<|nc zl ?_;refine⟨kE,?_⟩;show Wk _ _ _ _ ((0,AV.sl 400003 0 pl.length 1)::(2,.val (G1 l0))::(18,.val (.lst (l.map Tm.cv)))::(19,.val (.i (l.map Tm.cv).length))::(20,.val (.i (((k+1:Nat):Int))))::(obX (Ls (j+1+(syL (l.take (k+1)) 0 pl).length)) 400003 pl));rw[jK];refine a7 ⟨rfl,rfl,rfl,rfl,rfl,rfl,rfl,rfl,?_,trivial⟩;show some (AV.mrow 3 1 ((pl.map CV.i++[CV.i (k:Int)]).take (pl.map CV.i).length))=_;rw[List.take_left' rfl]
   ·have xI:cap=(pl.map CV.i).length:=by omega
    subst xI;refine aS<|aD (by kernel_rfl) (by kernel_rfl) ?_;refine nc zl<|nc zl<|nc zy<|ne (zbL 400002 3 (hf:=xS))<|nc zj<|nc zl<|nc (zbK bG (z:=kK) (G:=i8 (by first | rfl | kernel_rfl)))<|nc zZ ?_;refine⟨by kernel_rfl,?_⟩;refine aC rfl (λhc=>by cases hc) (λhc=>aK ?_);refine aR<|nc zA<|nc zl ?_;refine⟨kE,?_⟩;show Wk _ _ _ _ ((0,AV.sl 400003 0 pl.length 1)::(2,.val (G1 l0))::(18,.val (.lst (l.map Tm.cv)))::(19,.val (.i (l.map Tm.cv).length))::(20,.val (.i (((k+1:Nat):Int))))::(obX (Ls (j+1+(syL (l.take (k+1)) 0 pl).length)) 400003 pl));rw[jK];exact a7 ⟨rfl,rfl,rfl,rfl,rfl,rfl,rfl,rfl,rfl,trivial⟩
  ·have kE:k=l.length:=by
    have:¬ k<l.length:=by simpa using kA
    omega
   subst kE;have pZ:j+((pl,(⟨f,l⟩:Tm))::syL l 0 pl).length=J:=by rw[take_length]at hJ;rw[hJ,length_cons];omega
   rw[pZ,<-hJ];refine aE<|qz<|nc ze ?_;exact aT ⟨.inr rfl,_,Wk.refl _,rfl,rfl,rfl,rfl,rfl,trivial⟩
theorem a6g(W:World)(t:Tm):AFun Tryz.prog W 91 [t.cw] (.val (.fn 119 0 [.ptr t.cw])):=by
 refine b9 (rs:=[.fn 119 0 [.ptr t.cw]]) Tryz.func91 Tryz.ntmps91 rfl rfl rfl rfl ?_;intro w U hW;refine qz<|nc zd<|nc ze ?_;refine AWp.wk (q7 1 rfl rfl rfl (s':=[]) trivial rfl rfl rfl) ?_;refine qz<|nc zG<|nc ze ?_;exact aT ⟨.inr rfl,rfl⟩
set_option maxHeartbeats 2000000 in
theorem a9R(t:Tm)(kC:t.size<=1000000)(Ls:Nat->List (List Lt)):a1z Tryz.prog 119 [.ptr t.cw] [400002,400003] (λX x=>c2G X x.1) (λX x _=>[.sl X 0 x.1.length 1,.val x.2.cw]) (sy t []) (λk=>obE (Ls k)):=by
 intro Wb Ub l0 hY;have hw:=(b1W Wb Ub l0 Ls t 0 [] (by simpa using kC) (λi x hx X hX=>by have:=hY i x hx X hX;rw[show 0+i=i by omega];exact this)).1
 rw[Nat.zero_add]at hw;have kK:a1F Tryz.prog Wb Ub 120 (obE (Ls 0)) [.own (.lst []) 1,.val t.cw,.val (G1 l0)] (.val (.b true)) (obE (Ls (sy t []).length)):=b5c 400002 3 1 (cs:=[t.cw,G1 l0]) rfl rfl (by kernel_rfl) rfl hw;refine a1B Tryz.func119 Tryz.ntmps119 rfl rfl rfl rfl (by kernel_rfl) (by kernel_rfl) ?_;intro w U bG hU;show AWp _ _ _ _ _ _ ((0,AV.val (G1 l0))::(1,.val (.ptr t.cw))::obE (Ls 0));refine aR<|nc zI<|nc zl<|nc (zbK bG (z:=kK) (G:=i8 (by first | rfl | kernel_rfl))) ?_;exact⟨.inl rfl,_,Wk.refl _,rfl,rfl,rfl,rfl,trivial⟩
theorem a9I(W:World)(a b:Tm)(ha:a.rng/\a.ok/\a.size<=1000000)(hb:b.rng/\b.ok/\b.size<=1000000):AFun Tryz.prog W 38 [a.cw,b.cw] (.val (.b (A0 a b))):=by
 have hk:=λw=>b0S w a b ha.1 ha.2.1 (by omega) hb.1 hb.2.1 (by omega);obtain⟨k,gF⟩:∃k,k=kb a b:=⟨_,rfl⟩
 have he:A0 a b=decide (k=1\/k=2):=by rw[gF];rfl
 rw[<-gF]at hk;rw[he];refine b9 (rs:=[.b (decide (k=1\/k=2))]) Tryz.func38 Tryz.ntmps38 rfl rfl rfl rfl ?_;intro w U hW;refine qz<|nc zd<|nc zd<|nc ze ?_;refine qz<|nc zj<|nc zj<|nc (zk (z:=hk w))<|nc ze ?_;by_cases h1:k=1
 ·have g:decide (k=1)=true:=decide_eq_true h1;rw[decide_eq_true (Or.inl h1)];refine qz<|nc zl<|nc zD<|nc zl<|nc zq<|nc zq<|nc zp<|nc ze ?_;exact aT (And.intro (.inr rfl) rfl)
 ·have g:decide (k=1)=false:=decide_eq_false h1;have e:decide (k=1\/k=2)=decide (k=2):=by simp[h1]
  rw[e];refine qz<|nc zl<|nc zD<|nc zl<|nc (zl (p:=gb))<|nc (zD (r:=gb))<|nc zr<|nc ze ?_;exact aT (And.intro (.inr rfl) rfl)
theorem a8b(W:World)(a b:Tm):AFun Tryz.prog W 42 [a.cw,b.cw] (.val (.b true)):=by
 refine b9 (rs:=[.b true]) Tryz.func42 Tryz.ntmps42 rfl rfl rfl rfl ?_;intro w U hW;refine qz<|nc zd<|nc zd<|nc ze ?_;refine qz<|nc ze ?_;exact aT (And.intro (.inr rfl) rfl)
def upL(n:Nat):List Int:=(List.range n).map λ(k:Nat)=>(k:Int)
theorem b7M(n:Nat):upL (n+1)=upL n++[(n:Int)]:=by
 unfold upL;rw[List.range_succ,map_append];rfl
theorem a8s(n:Nat):(upL n).length=n:=by unfold upL;simp
structure Wy where
 n:Int
 a:Tm
 b:Tm
noncomputable def Wy.cv(w:Wy):CV:=.row [.i w.n,.row [.i w.a.f,.lst (w.a.l.map Tm.cv)],.row [.i w.b.f,.lst (w.b.l.map Tm.cv)]]
def wy2(n:Int)(l:Lt):List Wy:=[⟨n,l.a,l.b⟩,⟨n,l.b,l.a⟩]
noncomputable def a4k(ld:Tm->Tm->Bool)(c:List Lt)(n:Int):List Wy:=match c[n.toNat]? with
 | some l=>(wy2 n l).filter λw=>ld w.a w.b
 | none=>[]
noncomputable def C3(ld:Tm->Tm->Bool)(c:List Lt)(L:List Int):List Wy:=L.flatMap (a4k ld c)
theorem a6D{ld:Tm->Tm->Bool}{c:List Lt}{L:List Int}{k:Nat}{n:Int}(h:L[k]?=some n):C3 ld c (L.take (k+1))=C3 ld c (L.take k)++a4k ld c n:=by
 unfold C3;rw[take_add_one,h,flatMap_append];simp
theorem b7v(n:Int)(l:Lt):∀x∈(wy2 n l).map Wy.cv,x.size=5:=by
 intro x hx;obtain⟨w,_,rfl⟩:=mem_map.1 hx;rfl
theorem c3F{ld:Tm->Tm->Bool}{c:List Lt}{L:List Int}{k:Nat}{n:Int}{l:Lt}(h:L[k]?=some n)(hl:c[n.toNat]?=some l){j:Nat}{w:Wy}(hj:(wy2 n l)[j]?=some w)(uT:ld w.a w.b=true):(C3 ld c L)[(C3 ld c (L.take k)).length+(((wy2 n l).take j).filter λw=>ld w.a w.b).length]?=some w:=by
 have h1:C3 ld c L=C3 ld c (L.take (k+1))++C3 ld c (L.drop (k+1)):=by
  conv=>lhs;rw[<-take_append_drop (k+1) L]
  unfold C3;rw[flatMap_append]
 have h2:a4k ld c n=(wy2 n l).filter λw=>ld w.a w.b:=by unfold a4k;rw[hl]
 have h3:(wy2 n l).filter (λw=>ld w.a w.b)=((wy2 n l).take j).filter (λw=>ld w.a w.b)++(w::((wy2 n l).drop (j+1)).filter λw=>ld w.a w.b):=by
  conv=>lhs;rw[<-take_append_drop j (wy2 n l),Q4 hj]
  rw[List.filter_append,List.filter_cons,if_pos uT]
 rw[h1,a6D h,h2,h3,append_assoc,List.getElem?_append_right (by omega),Nat.add_sub_cancel_left,append_assoc,List.getElem?_append_right (by omega),Nat.sub_self];rfl
section
variable{P:Program}{w0:World}{U0:UX}{nt:Nat}{s:AS}
variable{ops:Array Oper}{o:Oper}{S:Nat->Option AV}{gs:List Nat}{d:Nat}
theorem b6p(hg:Gd w0 U0 nt ops o gs S)(hd:o.dst=some d)(hn:Nat.blt d nt=true)(h5:Nat.blt d 100000=true){ty:TypeId}{v:Value}{c:CV}(ho:o.op=.alloc ty)(hi:(P.info? ty).map (·.zero)=some (some v))(hc:(v=.slice none 0 0/\c=.lst [])\/(v.oneCell'=true/\c=.sc v)):AOp P w0 U0 nt ops o gs [(d,[])] S [(d,.bp d 0 []),(100000+d,.bx c)]:=by
 intro s hs hN a w ⟨D,hv,h⟩ Q K hK;rw[if_pos (hg s hs a w D hv h)];obtain⟨it,bF,bZ⟩:∃it,P.info? ty=some it/\it.zero=some v:=by
  cases e:P.info? ty with
  | none=>rw[e]at hi;cases hi
  | some it=>rw[e]at hi;exact⟨it,rfl,by simpa using hi⟩
 have gG:Rep (Us w0 U0 D) w c [v]/\v.cells = #[v]:=by
  rcases hc with⟨rfl,rfl⟩ | ⟨h1,rfl⟩
  ·exact⟨N7.2 ⟨none,0,0,rfl,rfl,by omega,(by unfold maxLen;omega),(λ_=>⟨rfl,rfl⟩),[],.inl rfl,rfl⟩,rfl⟩
  ·exact⟨L6.2 ⟨rfl,h1⟩,by cases v<;>first | rfl | simp[Value.oneCell']at h1⟩
 have he:(execOp a.eval o).run P w=.ok (.value (.pointer (some ⟨w.heap.size,0,none⟩))) (w.alloc (.cells #[v] ty)):=by simp[execOp,ho,Instr.alloc,zeroValue,typeInfo,bF,bZ,D5,gG.2]
 unfold Oper.wp;rw[he,Oper.upon_value,hd];exact hK _ _ ⟨_,_,h.newbox (d:=d) (av:=.bx c) (xs:=[v]) (hN (d,[]) (by simp)).nr (bL hn) (bL h5) (.inl rfl) ty (λ_=>gG.1) (λ_ hl=>absurd hl A9)⟩
theorem zbM{P:Program}{w0:World}{U0:UX}{nt:Nat}{ops:Array Oper}{o:Oper}{S:Nat->Option AV}{gs:List Nat}{d:Nat}{ty:TypeId}{v:Value}{c:CV}(p:Gd w0 U0 nt ops o gs S:=by exact gN rfl)(q:o.dst=some d:=by exact rfl)(r:Nat.blt d nt=true:=by exact rfl)(t:Nat.blt d 100000=true:=by exact rfl)(u:o.op=.alloc ty:=by exact rfl)(x:(P.info? ty).map (·.zero)=some (some v):=by exact rfl)(y:(v=.slice none 0 0/\c=.lst [])\/(v.oneCell'=true/\c=.sc v):=by first | exact .inl ⟨rfl,rfl⟩ | exact .inr ⟨rfl,rfl⟩):AOp P w0 U0 nt ops o gs [(d,[])] S [(d,.bp d 0 []),(100000+d,.bx c)]:=b6p p q r t u x y
theorem a5g(d:Nat){c:CV}(h1:look s d=some (.val (.ptr c)))(hd:Nat.blt d 100000=true):Wk w0 U0 nt s ((d,.ad c)::s):=by
 rintro a w ⟨D,hv,h⟩;obtain⟨v,g1,g2⟩:=h.slot d _ h1 (bL hd);obtain⟨b,off,xs,e1,e2,e3⟩:=a0g.1 g2.1;exact⟨D,hv,h.know (bL hd) g1 ⟨b,off,xs,e1,e2,e3⟩⟩
end
noncomputable abbrev ruC(fl fd:Nat):CV:=.row [.fn fl 0 [],.fn fd 0 []]
theorem a4z(W:World)(fl fd:Nat)(c:List Lt)(L:List Int)(kB:∀w,AFun Tryz.prog w fl [.lst (c.map Lt.cv)] (.val (.lst (L.map CV.i)))):AFun Tryz.prog W 89 [ruC fl fd,.lst (c.map Lt.cv)] (.val (.fn 118 0 [.ptr (.lst (L.map CV.i)),.ptr (.lst (c.map Lt.cv)),.ptr (ruC fl fd)])):=by
 refine b9 (rs:=[.fn 118 0 [.ptr (.lst (L.map CV.i)),.ptr (.lst (c.map Lt.cv)),.ptr (ruC fl fd)]]) Tryz.func89 Tryz.ntmps89 rfl rfl rfl rfl ?_;intro w U hW;have hv:AFunV Tryz.prog w (.fn fl 0 []) [.lst (c.map Lt.cv)] (.val (.lst (L.map CV.i))):=⟨fl,0,[],rfl,by simpa using kB w⟩
 refine qz<|nc zd<|nc zd<|nc ze ?_;refine qz<|nc zg<|nc zh<|nc zj<|nc (zH (E:=hv))<|nc zbM<|nc zx ?_;refine AWp.wk ((q7 5 rfl rfl rfl (s':=[(2,AV.bp 2 0 []),(100002,.bx (ruC fl fd)),(3,.bp 3 0 []),(100003,.bx (.lst (c.map Lt.cv)))]) ⟨rfl,rfl,rfl,rfl,trivial⟩ rfl rfl rfl).trans ((q7 3 rfl rfl rfl (s':=[(5,AV.val (.ptr (.lst (L.map CV.i)))),(2,AV.bp 2 0 []),(100002,.bx (ruC fl fd))]) ⟨rfl,rfl,rfl,trivial⟩ rfl rfl rfl).trans (q7 2 rfl rfl rfl (s':=[(5,AV.val (.ptr (.lst (L.map CV.i)))),(3,.val (.ptr (.lst (c.map Lt.cv))))]) ⟨rfl,rfl,trivial⟩ rfl rfl rfl))) ?_;refine qz<|nc zG<|nc ze ?_;exact aT ⟨.inr rfl,rfl⟩
set_option maxHeartbeats 8000000 in
theorem a1r(fl fd:Nat)(ld:Tm->Tm->Bool)(c:List Lt)(hc:c.length<=1000000)(L:List Int)(hL:∀n∈L,0<=n/\n<c.length)(pL:L.length<=1000000)(hd:∀w,∀l∈c,AFun Tryz.prog w fd [l.a.cw,l.b.cw] (.val (.b (ld l.a l.b)))/\AFun Tryz.prog w fd [l.b.cw,l.a.cw] (.val (.b (ld l.b l.a))))(Ls:Nat->List (List Lt)):a1z Tryz.prog 118 [.ptr (.lst (L.map CV.i)),.ptr (.lst (c.map Lt.cv)),.ptr (ruC fl fd)] [0] (λ_ _=>[]) (λ_ x _=>[.val x.cv]) (C3 ld c L) (λk=>obE (Ls k)):=by
 intro Wb Ub l0 hY;refine a1B Tryz.func118 Tryz.ntmps118 rfl rfl rfl rfl (by kernel_rfl) (by kernel_rfl) ?_;intro w U bG hU;show AWp _ _ _ _ _ _ ((0,AV.val (G1 l0))::(1,.val (.ptr (.lst (L.map CV.i))))::(2,.val (.ptr (.lst (c.map Lt.cv))))::(3,.val (.ptr (ruC fl fd)))::obE (Ls 0));have oH:=Lt.size_all c;refine qz<|nc zI<|nc zo<|nc zl ?_;refine AWp.wk (a5g 3 rfl rfl) ?_;refine aB (n6 L.length (λk=>(0,AV.val (G1 l0))::(2,.val (.ptr (.lst (c.map Lt.cv))))::(3,.ad (ruC fl fd))::(9,.val (.lst (L.map CV.i)))::(10,.val (.i (L.map CV.i).length))::(11,.val (.i (k:Int)))::obE (Ls (C3 ld c (L.take k)).length)) (a7 ⟨rfl,rfl,rfl,rfl,rfl,rfl,rfl,rfl,rfl,trivial⟩) ?_);intro k hk;obtain⟨J,hJ⟩:∃J,J=(C3 ld c (L.take k)).length:=⟨_,rfl⟩
 refine qz<|nc zi ?_;refine aS<|aC rfl (λkA=>?_) (λkA=>?_)
 ·have kE:k<L.length:=by simpa using kA
  obtain⟨n,hn⟩:∃n,L[k]?=some n:=⟨L[k],getElem?_eq_getElem kE⟩
  obtain⟨m,hm⟩:∃m:Nat,n=(m:Int):=⟨n.toNat,by have:=(hL n (mem_of_getElem? hn)).1;omega⟩
  subst hm;have hmc:m<c.length:=by have:=(hL _ (mem_of_getElem? hn)).2;omega
  obtain⟨l,hl⟩:∃l,c[m]?=some l:=⟨c[m],getElem?_eq_getElem hmc⟩
  have fZ:=mem_of_getElem? hl;have cB:=Lt.map_at hl;have gQ:(L.map CV.i)[k]?=some (.i (m:Int)):=by rw[getElem?_map,hn];rfl
  have hsi:=n8 L;have hwN:a4k ld c (m:Int)=(wy2 m l).filter λw=>ld w.a w.b:=by unfold a4k;rw[Int.toNat_natCast,hl]
  have kQ:=a6D (ld:=ld) (c:=c) hn;rw[<-hJ];refine aK<|aS<|aB<|qz<|nc (zt (j:=k) (H:=gQ) (hz:=hsi))<|nc zu<|nc ze ?_;refine aS<|aD (by kernel_rfl) (by kernel_rfl) ?_;refine nc zl<|nc zI<|nc zl<|nc (zt (j:=m) (H:=cB) (hz:=oH))<|nc zbH<|nc zu<|nc zI<|nc zl<|nc (zt (j:=m) (H:=cB) (hz:=oH))<|nc zbH<|nc zu<|nc zC<|nc zl<|nc zI<|nc zl<|nc (zt (j:=m) (H:=cB) (hz:=oH))<|nc zbH<|nc zu<|nc zI<|nc zl<|nc (zt (j:=m) (H:=cB) (hz:=oH))<|nc zbH<|nc zu<|nc zC ?_;refine nc zy<|nc zo<|nc zl ?_;refine⟨by kernel_rfl,?_⟩;have hws:=b7v m l;refine aB (n6 2 (λj=>(0,AV.val (G1 l0))::(3,.ad (ruC fl fd))::(2,.val (.ptr (.lst (c.map Lt.cv))))::(9,.val (.lst (L.map CV.i)))::(10,.val (.i (L.map CV.i).length))::(11,.val (.i (k:Int)))::(39,.val (.lst ((wy2 m l).map Wy.cv)))::(40,.val (.i 2))::(41,.val (.i (j:Int)))::obE (Ls (J+(((wy2 m l).take j).filter λw=>ld w.a w.b).length))) (a7 ⟨rfl,rfl,rfl,rfl,rfl,rfl,rfl,rfl,rfl,rfl,rfl,rfl,trivial⟩) ?_);intro j hj;obtain⟨J2,jK⟩:∃J2,J2=J+(((wy2 m l).take j).filter λw=>ld w.a w.b).length:=⟨_,rfl⟩
  refine qz<|nc zi ?_;refine aS<|aC rfl (λkA=>?_) (λkA=>?_)
  ·have iH:j<2:=by have:=of_decide_eq_true kA;omega
   obtain⟨x,hx⟩:∃x,(wy2 m l)[j]?=some x:=⟨_,getElem?_eq_getElem iH⟩
   have kT:((wy2 m l).map Wy.cv)[j]?=some x.cv:=by rw[getElem?_map,hx];rfl
   have fU:x.cv=.row [.i x.n,x.a.cw,x.b.cw]:=rfl;rw[fU]at kT;have dM:∀w,AFunV Tryz.prog w (.fn fd 0 []) [x.a.cw,x.b.cw] (.val (.b (ld x.a x.b))):=λw=>⟨fd,0,[],rfl,by
    have h1:=hd w l fZ;show AFun _ _ _ ([]++([x.a.cw,x.b.cw]++[])) _
    match j,iH,hx with
    | 0,_,hx=>cases hx;exact h1.1
    | 1,_,hx=>cases hx;exact h1.2⟩
   have jB:((wy2 m l).take (j+1)).filter (λw=>ld w.a w.b)=((wy2 m l).take j).filter (λw=>ld w.a w.b)++(if ld x.a x.b=true then[x] else[]):=by rw[take_add_one,hx,Option.toList_some,List.filter_append,List.filter_cons,List.filter_nil]
   rw[<-jK];refine aK<|aS<|aB<|qz<|nc (zt (j:=j) (H:=kT) (hz:=hws))<|nc zu<|ne zw<|nc zx ?_;obtain⟨b,hb⟩:∃b,b=ld x.a x.b:=⟨_,rfl⟩
   have bY:=dM w;rw[<-hb]at bY jB;cases b with
   | false =>
    refine qz<|nc zbH<|nc zu<|nc zg<|nc zh<|nc zg<|nc zh<|nc (zH (E:=bY))<|nc zl<|nc zq<|nc zq<|nc zq<|nc zq<|nc zr ?_;refine aC rfl (λhc=>by cases hc) (λhc=>aK ?_);refine aR<|nc zA<|nc zl ?_;refine⟨iH,?_⟩;have e:J+(((wy2 m l).take (j+1)).filter λw=>ld w.a w.b).length=J2:=by rw[jB,if_neg (by simp),append_nil,jK]
    show Wk _ _ _ _ ((0,AV.val (G1 l0))::(3,.ad (ruC fl fd))::(2,.val (.ptr (.lst (c.map Lt.cv))))::(9,.val (.lst (L.map CV.i)))::(10,.val (.i (L.map CV.i).length))::(11,.val (.i (k:Int)))::(39,.val (.lst ((wy2 m l).map Wy.cv)))::(40,.val (.i 2))::(41,.val (.i ((j+1:Nat):Int)))::obE (Ls (J+(((wy2 m l).take (j+1)).filter λw=>ld w.a w.b).length)));rw[e];exact a7 ⟨rfl,rfl,rfl,rfl,rfl,rfl,rfl,rfl,rfl,rfl,rfl,rfl,trivial⟩
   | true =>
    have pP:=hY J2 x (by rw[jK,hJ];exact c3F hn (by rw[Int.toNat_natCast];exact hl) hx hb.symm) 0 (by simp);have pP:b9r Tryz.prog Wb Ub l0 0 (obE (Ls J2)) (λ_=>[.val (.row [.i x.n,x.a.cw,x.b.cw])]) (obE (Ls (J2+1))):=pP;refine aS<|K7 ?_
    (refine nxY (AOp.y (a4v (gN rfl) rfl rfl rfl rfl rfl rfl rfl rfl rfl rfl rfl)) rfl ?_)
    (refine nxY (AOp.y (a6W (gN rfl) rfl rfl rfl rfl rfl rfl rfl rfl rfl)) rfl ?_)
    (refine nxY (AOp.y (aF (gN rfl) rfl rfl rfl rfl rfl rfl rfl rfl rfl)) rfl ?_)
    (refine nxY (AOp.y (aLb (gN rfl) rfl rfl rfl rfl rfl rfl rfl rfl rfl rfl rfl rfl)) rfl ?_)
    (refine nxY (AOp.y (aF (gN rfl) rfl rfl rfl rfl rfl rfl rfl rfl rfl)) rfl ?_)
    (refine nxY (AOp.y (aLb (gN rfl) rfl rfl rfl rfl rfl rfl rfl rfl rfl rfl rfl rfl)) rfl ?_)
    (refine nxY (AOp.y (a8v (gN rfl) rfl rfl rfl rfl rfl rfl (bY))) rfl ?_)
    (refine nxY (AOp.y (aM (gN rfl) rfl rfl rfl rfl rfl)) rfl ?_)
    (refine nxY (AOp.y (aM gb rfl rfl rfl rfl rfl)) rfl ?_)
    (refine nxY (AOp.y (aL gb rfl rfl rfl rfl rfl rfl rfl rfl rfl rfl rfl rfl)) rfl ?_)
    (refine nxY (a2g (u:=.slice none 0 0) 0 (pP) bG gb rfl rfl rfl rfl rfl rfl (.inr λ_ _=>rfl) (by repeat (first | exact trivial | refine⟨rfl,?_⟩)) (by first | rfl | kernel_rfl) (by first | rfl | kernel_rfl) (by first | rfl | kernel_rfl) (i8 (by first | rfl | kernel_rfl)) rfl) rfl ?_)
    (refine nxY (AOp.y (a9h gb rfl rfl rfl rfl rfl)) rfl ?_)
    (refine⟨_,_,_,AOp.y (aPt (gN rfl) rfl rfl rfl rfl rfl ?hb rfl),rfl,?_⟩;case hb=>(first | rfl | assumption | (simp;done)))
    refine aC rfl (λhc=>by cases hc) (λhc=>aK ?_);refine aR<|nc zA<|nc zl ?_;refine⟨iH,?_⟩;have e:J+(((wy2 m l).take (j+1)).filter λw=>ld w.a w.b).length=J2+1:=by rw[jB,if_pos rfl,length_append,jK];rfl
    show Wk _ _ _ _ ((0,AV.val (G1 l0))::(3,.ad (ruC fl fd))::(2,.val (.ptr (.lst (c.map Lt.cv))))::(9,.val (.lst (L.map CV.i)))::(10,.val (.i (L.map CV.i).length))::(11,.val (.i (k:Int)))::(39,.val (.lst ((wy2 m l).map Wy.cv)))::(40,.val (.i 2))::(41,.val (.i ((j+1:Nat):Int)))::obE (Ls (J+(((wy2 m l).take (j+1)).filter λw=>ld w.a w.b).length)));rw[e];exact a7 ⟨rfl,rfl,rfl,rfl,rfl,rfl,rfl,rfl,rfl,rfl,rfl,rfl,trivial⟩
  ·have iH:j=2:=by
    have:¬ j<2:=by have:=of_decide_eq_false kA;omega
    omega
   subst iH;rw[<-jK];refine aE<|aR<|nc zA<|nc zl ?_;refine⟨kE,?_⟩;have e:(C3 ld c (L.take (k+1))).length=J2:=by rw[kQ,hwN,length_append,jK,hJ];rfl
   show Wk _ _ _ _ ((0,AV.val (G1 l0))::(2,.val (.ptr (.lst (c.map Lt.cv))))::(3,.ad (ruC fl fd))::(9,.val (.lst (L.map CV.i)))::(10,.val (.i (L.map CV.i).length))::(11,.val (.i ((k+1:Nat):Int)))::obE (Ls (C3 ld c (L.take (k+1))).length));rw[e];exact a7 ⟨rfl,rfl,rfl,rfl,rfl,rfl,rfl,rfl,rfl,trivial⟩
 ·have kE:k=L.length:=by
   have:¬ k<L.length:=by simpa using kA
   omega
  subst kE;rw[take_length];refine aE ?_;exact⟨.inl rfl,_,Wk.refl _,rfl,rfl,rfl,rfl,trivial⟩
theorem a7Q(W:World)(c:List Lt)(hc:c.length<=1000000):AFun Tryz.prog W 41 [.lst (c.map Lt.cv)] (.val (.lst ((upL c.length).map CV.i))):=by
 refine b9 (rs:=[.lst ((upL c.length).map CV.i)]) Tryz.func41 Tryz.ntmps41 rfl rfl rfl rfl ?_;intro w U hW;refine qz<|nc ze ?_;refine qz<|nc ze ?_;refine aS<|qz<|nc zl<|nc zo<|nc zl ?_;refine aB (n6 c.length (λk=>[(6,AV.val (.i (c.map Lt.cv).length)),(7,.val (.i (k:Int))),(3,.own (.lst ((upL k).map CV.i)) 200013),(200013,.tok 3 1)]) ((M9 3 200013 3 1 rfl rfl rfl rfl rfl rfl rfl).trans (a7 ⟨rfl,rfl,rfl,rfl,trivial⟩)) ?_);intro k hk;have hul:=a8s k;have hlu:((upL k).map CV.i).length=k:=by rw[length_map,a8s]
 have hsi:=n8 (upL k);refine qz<|nc zi ?_;refine aS<|aC rfl (λkA=>?_) (λkA=>?_)
 ·have kE:k<c.length:=by simpa using kA
  refine aK<|aS<|aB<|qz<|nc zl<|nc ze ?_;refine aR<|nc zl<|nc zl<|nc zy<|nc zz<|nc ze ?_;refine aR<|nc zA<|nc zl ?_;refine⟨kE,?_⟩;show Wk _ _ _ _ [(6,AV.val (.i (c.map Lt.cv).length)),(7,.val (.i ((k+1:Nat):Int))),(3,.own (.lst ((upL (k+1)).map CV.i)) 200013),(200013,.tok 3 1)];rw[b7M,map_append];exact(a7 (s':=[(6,AV.val (.i (c.map Lt.cv).length)),(7,.val (.i ((k+1:Nat):Int))),(3,.own (.lst ((upL k).map CV.i++[CV.i (k:Int)])) 300013),(300013,.tok 3 1)]) ⟨rfl,rfl,rfl,rfl,trivial⟩).trans ((B1 300013 200013 rfl rfl rfl rfl).trans (a7 ⟨rfl,rfl,rfl,rfl,trivial⟩))
 ·have kE:k=c.length:=by
   have:¬ k<c.length:=by simpa using kA
   omega
  subst kE;refine aE<|qz<|nc zl<|nc ze ?_;exact aT (And.intro (.inr rfl) rfl)
structure Mt where
 fr:Wy
 ti:Wy
 pl:List Int
 pt:Tm
noncomputable def Mt.cvH(m:Mt)(v:Value):CV:=.row [m.fr.cv,m.ti.cv,.sc (O6 v m.pl.length),.row [.i m.pt.f,.lst (m.pt.l.map Tm.cv)]]
noncomputable def mtI(f i:Wy):List Mt:=(sy i.a []).map λq=>⟨f,i,q.1,q.2⟩
noncomputable def mtF(tgt:List Wy)(f:Wy):List Mt:=tgt.flatMap (mtI f)
noncomputable def mtN(neg:Int->Bool)(tgt:List Wy)(f:Wy):List Mt:=if neg f.n=true then[]else mtF tgt f
noncomputable def U5(neg:Int->Bool)(src tgt:List Wy):List Mt:=src.flatMap (mtN neg tgt)
theorem a2x{α β:Type}{g:α->List β}{L:List α}{k:Nat}{x:α}(h:L[k]?=some x):(L.take (k+1)).flatMap g=(L.take k).flatMap g++g x:=by
 rw[take_add_one,h,flatMap_append];simp
theorem b1D{α β:Type}{g:α->List β}{L:List α}{k:Nat}{x:α}(h:L[k]?=some x){i:Nat}{y:β}(hy:(g x)[i]?=some y):(L.flatMap g)[((L.take k).flatMap g).length+i]?=some y:=by
 have h1:L.flatMap g=(L.take (k+1)).flatMap g++(L.drop (k+1)).flatMap g:=by
  conv=>lhs;rw[<-take_append_drop (k+1) L]
  rw[flatMap_append]
 have hi:i<(g x).length:=by
  rcases Nat.lt_or_ge i (g x).length with h2 | h2
  ·exact h2
  ·rw[getElem?_eq_none h2]at hy;cases hy
 rw[h1,a2x h,append_assoc,List.getElem?_append_right (by omega),Nat.add_sub_cancel_left,List.getElem?_append_left hi,hy]
def x7(c:List Lt)(n:Int):Bool:=match c[n.toNat]? with
 | some l=>l.neg
 | none=>false
noncomputable abbrev wyZ:CV:=.row [.i 0,.row [.i 0,.lst []],.row [.i 0,.lst []]]
noncomputable abbrev c2w:List CV:=[wyZ,wyZ,.lst [],.row [.i 0,.lst []]]
theorem b2L(W:World)(fl fd:Nat)(c d:List Lt)(L M:List Int)(cN:∀w,AFun Tryz.prog w fl [.lst (c.map Lt.cv)] (.val (.lst (L.map CV.i))))(uT:∀w,AFun Tryz.prog w fl [.lst (d.map Lt.cv)] (.val (.lst (M.map CV.i)))):AFun Tryz.prog W 64 [ruC fl fd,.lst (c.map Lt.cv),.lst (d.map Lt.cv)] (.val (.fn 90 0 [.ptr (.fn 118 0 [.ptr (.lst (L.map CV.i)),.ptr (.lst (c.map Lt.cv)),.ptr (ruC fl fd)]),.ptr (.lst (c.map Lt.cv)),.ptr (.fn 118 0 [.ptr (.lst (M.map CV.i)),.ptr (.lst (d.map Lt.cv)),.ptr (ruC fl fd)])])):=by
 obtain⟨S,hS⟩:∃S,S=CV.fn 118 0 [.ptr (.lst (L.map CV.i)),.ptr (.lst (c.map Lt.cv)),.ptr (ruC fl fd)]:=⟨_,rfl⟩
 obtain⟨T,hT⟩:∃T,T=CV.fn 118 0 [.ptr (.lst (M.map CV.i)),.ptr (.lst (d.map Lt.cv)),.ptr (ruC fl fd)]:=⟨_,rfl⟩
 refine b9 (rs:=[.fn 90 0 [.ptr (.fn 118 0 [.ptr (.lst (L.map CV.i)),.ptr (.lst (c.map Lt.cv)),.ptr (ruC fl fd)]),.ptr (.lst (c.map Lt.cv)),.ptr (.fn 118 0 [.ptr (.lst (M.map CV.i)),.ptr (.lst (d.map Lt.cv)),.ptr (ruC fl fd)])]]) Tryz.func64 Tryz.ntmps64 rfl rfl rfl rfl ?_;intro w U hW;have h1:=a4z w fl fd c L cN;have h2:=a4z w fl fd d M uT;refine qz<|nc zd<|nc zd<|nc ze ?_;refine aS<|aD (by kernel_rfl) (by kernel_rfl) ?_;refine nc zj<|nc zj<|nc (zk (z:=h1))<|nc zj<|nc zl<|nc (zk (z:=h2))<|nc zbM<|nc zbM<|nc zx<|nc zx ?_;refine⟨by kernel_rfl,?_⟩;refine AWp.wk ((q7 7 rfl rfl rfl (s':=[(4,AV.bp 4 0 []),(100004,.bx (.lst (c.map Lt.cv))),(8,AV.bp 8 0 []),(100008,.bx (.fn 118 0 [.ptr (.lst (M.map CV.i)),.ptr (.lst (d.map Lt.cv)),.ptr (ruC fl fd)]))]) ⟨rfl,rfl,rfl,rfl,trivial⟩ rfl rfl rfl).trans ((q7 8 rfl rfl rfl (s':=[(7,AV.val (.ptr (.fn 118 0 [.ptr (.lst (L.map CV.i)),.ptr (.lst (c.map Lt.cv)),.ptr (ruC fl fd)]))),(4,AV.bp 4 0 []),(100004,.bx (.lst (c.map Lt.cv)))]) ⟨rfl,rfl,rfl,trivial⟩ rfl rfl rfl).trans (q7 4 rfl rfl rfl (s':=[(7,AV.val (.ptr (.fn 118 0 [.ptr (.lst (L.map CV.i)),.ptr (.lst (c.map Lt.cv)),.ptr (ruC fl fd)]))),(8,AV.val (.ptr (.fn 118 0 [.ptr (.lst (M.map CV.i)),.ptr (.lst (d.map Lt.cv)),.ptr (ruC fl fd)])))]) ⟨rfl,rfl,trivial⟩ rfl rfl rfl))) ?_;refine qz<|nc zG<|nc ze ?_;exact aT ⟨.inr rfl,rfl⟩
set_option maxHeartbeats 8000000 in
theorem a8c(c:List Lt)(gs gt:Nat)(cs ct:List CV)(src tgt:List Wy)(pV:a3H Tryz.prog gs)(het:a3H Tryz.prog gt)(xT:∀w∈src,0<=w.n/\w.n<c.length)(htgt:∀w∈tgt,w.a.size<=1000000)
  (hs:∀Ls:Nat->List (List Lt),a1z Tryz.prog gs cs [0] (λ_ _=>[]) (λ_ x _=>[.val x.cv]) src (λk=>obE (Ls k)))
  (ht:∀Ls:Nat->List (List Lt),a1z Tryz.prog gt ct [0] (λ_ _=>[]) (λ_ x _=>[.val x.cv]) tgt (λk=>obE (Ls k)))
  (Ls:Nat->List (List Lt)):a1z Tryz.prog 90 [.ptr (.fn gs 0 cs),.ptr (.lst (c.map Lt.cv)),.ptr (.fn gt 0 ct)] [400002,400003] (λX x=>c2G X x.pl) (λX x v=>[.val (x.cvH v)]) (U5 (x7 c) src tgt) (λk=>obE (Ls k)):=by
 intro Wb Ub l0 hY;have tR:a3H Tryz.prog 119:=x0 Tryz.func119 rfl rfl;have oH:=Lt.size_all c;refine b5I Tryz.func90 Tryz.ntmps90 rfl rfl rfl rfl (by kernel_rfl) (by kernel_rfl) ?_;intro w U bG hU;show a2l _ _ _ _ _ _ ((0,AV.val (G1 l0))::(1,.val (.ptr (.fn gs 0 cs)))::(2,.val (.ptr (.lst (c.map Lt.cv))))::(3,.val (.ptr (.fn gt 0 ct)))::obE (Ls 0));refine I4<|aR ?_;refine ne zd ?_;refine⟨rfl,?_⟩;refine a2k (q7 4 rfl rfl rfl (s':=(1,AV.val (.ptr (.fn gs 0 cs)))::(2,.val (.ptr (.lst (c.map Lt.cv))))::(3,.val (.ptr (.fn gt 0 ct)))::obE (Ls 0)) ⟨rfl,rfl,rfl,rfl,rfl,rfl,trivial⟩ rfl rfl (by kernel_rfl)) ?_;refine I4<|aR ?_;refine nc zI ?_;refine⟨rfl,?_⟩;refine a1d ?_;refine a2k (a7 (s':=(9,AV.val (.fn gs 0 cs))::(2,.val (.ptr (.lst (c.map Lt.cv))))::(3,.val (.ptr (.fn gt 0 ct)))::(4,.val (.ptr (G1 l0)))::obE (Ls 0)) ⟨rfl,rfl,rfl,rfl,rfl,rfl,rfl,trivial⟩) ?_;refine a2P (a2U (ps:=[10]) (λk=>obE (Ls (U5 (x7 c) (src.take k) tgt).length)) [(2,.val (.ptr (.lst (c.map Lt.cv)))),(3,.val (.ptr (.fn gt 0 ct))),(4,.val (.ptr (G1 l0)))] (λ_ _=>[]) rfl pV (hs λk=>Ls (U5 (x7 c) (src.take k) tgt).length) rfl (λ_ _ _=>rfl) ⟨rfl,rfl,rfl,trivial⟩ rfl ⟨.inl ⟨_,rfl⟩,.inl ⟨_,rfl⟩,.inl ⟨_,rfl⟩,trivial⟩ ⟨rfl,rfl,rfl,trivial⟩ ⟨by kernel_rfl,by kernel_rfl,λk=>rfl,rfl,rfl,rfl⟩ (λk X hX x=>rfl) (λX hX => .inl λ_=>rfl) (by kernel_rfl) ?_) ?_
 ·intro k f hf X hX v w U hU eK;obtain⟨n,hn⟩:∃n:Nat,f.n=(n:Int):=⟨f.n.toNat,by have:=(xT f (mem_of_getElem? hf)).1;omega⟩
  have mP:n<c.length:=by have:=(xT f (mem_of_getElem? hf)).2;omega
  obtain⟨l,hl⟩:∃l,c[n]?=some l:=⟨c[n],getElem?_eq_getElem mP⟩
  have cB:=Lt.map_at hl;have mA:x7 c f.n=l.neg:=by unfold x7;rw[hn,Int.toNat_natCast,hl]
  have hcvf:f.cv=.row [.i n,f.a.cw,f.b.cw]:=by unfold Wy.cv;rw[hn]
  obtain⟨o1,lG⟩:∃o1,o1=(U5 (x7 c) (src.take k) tgt).length:=⟨_,rfl⟩
  have kQ:(U5 (x7 c) (src.take (k+1)) tgt).length=o1+(mtN (x7 c) tgt f).length:=by unfold U5 at lG |-;rw[a2x hf,length_append,lG]
  have xU:∀i y,(mtN (x7 c) tgt f)[i]?=some y->(U5 (x7 c) src tgt)[o1+i]?=some y:=λi y hy=>by rw[lG];exact b1D hf hy
  show AWp _ _ _ _ _ _ ((10,AV.val f.cv)::(2,.val (.ptr (.lst (c.map Lt.cv))))::(3,.val (.ptr (.fn gt 0 ct)))::(4,.val (.ptr (G1 l0)))::obE (Ls (U5 (x7 c) (src.take k) tgt).length));rw[<-lG,kQ,hcvf];refine aR<|ne zw<|nc zx ?_;refine⟨rfl,λw1 mF=>?_⟩;obtain⟨b,hb⟩:∃b,b=l.neg:=⟨_,rfl⟩
  have kM:(c.map Lt.cv)[n]?=some (.row [.b b,l.a.cw,l.b.cw]):=by rw[cB,hb]
  rw[<-hb]at mA;cases b with
  | true =>
   have e:mtN (x7 c) tgt f=[]:=by unfold mtN;rw[if_pos mA]
   rw[e];refine a2b<|aB<|aS<|qz ?_;refine nc zI<|nc zg<|nc zh<|nc (zt (j:=n) (H:=kM) (hz:=oH))<|nc zbH<|nc zu ?_;refine aC rfl (λ_=>?_) (λh=>by cases h);refine aE ?_;exact⟨rfl,a7 ⟨rfl,rfl,rfl,trivial⟩⟩
  | false =>
   have e:mtN (x7 c) tgt f=mtF tgt f:=by unfold mtN;rw[if_neg (by rw[mA];simp)]
   rw[e]at xU |-;refine U4 (a5t<|qz ?_);refine nc zI<|nc zg<|nc zh<|nc (zt (j:=n) (H:=kM) (hz:=oH))<|nc zbH<|nc zu ?_;refine aC rfl (λh=>by cases h) (λ_=>aK ?_);refine⟨rfl,?_⟩;refine a8y (q7 5 rfl rfl rfl (s':=(3,AV.val (.ptr (.fn gt 0 ct)))::(4,.val (.ptr (G1 l0)))::obE (Ls o1)) ⟨rfl,rfl,rfl,rfl,rfl,trivial⟩ rfl rfl (by kernel_rfl)) ?_;refine a5t<|aR ?_;refine nc zI ?_;refine⟨rfl,?_⟩;refine U4 ?_;refine a8y (a7 (s':=(17,AV.val (.fn gt 0 ct))::(4,.val (.ptr (G1 l0)))::(5,.val (.ptr (.row [.i n,f.a.cw,f.b.cw])))::obE (Ls o1)) ⟨rfl,rfl,rfl,rfl,rfl,rfl,trivial⟩) ?_;refine a7M (a3g (ps:=[18]) (λj=>obE (Ls (o1+((tgt.take j).flatMap (mtI f)).length))) [(4,.val (.ptr (G1 l0))),(5,.val (.ptr (.row [.i n,f.a.cw,f.b.cw])))] (λ_ _=>[]) rfl het (ht λj=>Ls (o1+((tgt.take j).flatMap (mtI f)).length)) rfl (λ_ _ _=>rfl) ⟨rfl,rfl,trivial⟩ rfl ⟨.inl ⟨_,rfl⟩,.inl ⟨_,rfl⟩,trivial⟩ ⟨rfl,rfl,rfl,trivial⟩ ⟨by kernel_rfl,by kernel_rfl,λk=>rfl,rfl,rfl,rfl⟩ (λk X hX x=>rfl) (λX hX => .inl λ_=>rfl) (by kernel_rfl) ?_) ?_
   ·intro j i hi X hX v w U hU hon3;have his:=htgt i (mem_of_getElem? hi);obtain⟨o2,jF⟩:∃o2,o2=o1+((tgt.take j).flatMap (mtI f)).length:=⟨_,rfl⟩
    have tS:o1+((tgt.take (j+1)).flatMap (mtI f)).length=o2+(sy i.a []).length:=by rw[a2x hi,length_append,jF];unfold mtI;rw[length_map];omega
    have hat2:∀q y,(sy i.a [])[q]?=some y->(U5 (x7 c) src tgt)[o2+q]?=some ⟨f,i,y.1,y.2⟩:=λq y hy=>by have:=xU (((tgt.take j).flatMap (mtI f)).length+q) ⟨f,i,y.1,y.2⟩ (b1D hi (by unfold mtI;rw[getElem?_map,hy];rfl));rw[jF,Nat.add_assoc];exact this
    show AWp _ _ _ _ _ _ ((18,AV.val (.row [.i i.n,i.a.cw,i.b.cw]))::(4,.val (.ptr (G1 l0)))::(5,.val (.ptr (.row [.i n,f.a.cw,f.b.cw])))::obE (Ls (o1+((tgt.take j).flatMap (mtI f)).length)));rw[<-jF,tS];refine aR<|ne zw<|nc zx ?_;refine⟨rfl,λw2 xV=>?_⟩;refine U4 (a5t<|aR ?_);refine nc zg<|nc zh<|nc (zk (z:=a6g w2 i.a)) ?_;refine⟨rfl,?_⟩;refine a8y (q7 6 rfl rfl rfl (s':=(21,AV.val (.fn 119 0 [.ptr i.a.cw]))::(4,.val (.ptr (G1 l0)))::(5,.val (.ptr (.row [.i n,f.a.cw,f.b.cw])))::obE (Ls o2)) ⟨rfl,rfl,rfl,rfl,rfl,rfl,trivial⟩ rfl rfl (by kernel_rfl)) ?_;refine U4 ?_;refine a7M (a3g (ps:=[22,23]) (λq=>obE (Ls (o2+q))) [(4,.val (.ptr (G1 l0))),(5,.val (.ptr (.row [.i n,f.a.cw,f.b.cw]))),(6,.val (.ptr (.row [.i i.n,i.a.cw,i.b.cw])))] (λX v=>[(11,.hdl v X)]) rfl tR (a9R i.a his λq=>Ls (o2+q)) rfl (λ_ _ _=>rfl) ⟨rfl,rfl,rfl,trivial⟩ rfl ⟨.inl ⟨_,rfl⟩,.inl ⟨_,rfl⟩,.inl ⟨_,rfl⟩,trivial⟩ ⟨rfl,rfl,rfl,trivial⟩ ⟨by kernel_rfl,by kernel_rfl,λk=>rfl,rfl,rfl,rfl⟩ (λk X hX x=>by
      simp only[mem_cons,not_mem_nil,or_false]at hX;rcases hX with rfl | rfl<;>rfl) (λX hX => .inr ⟨11,λ_=>rfl,by decide,by decide,by
      simp only[mem_cons,not_mem_nil,or_false]at hX;unfold RN;omega⟩) (by kernel_rfl) ?_) ?_
    ·intro q y hy X hX v w U hU hon5;have pP:b9r Tryz.prog Wb Ub l0 X (obE (Ls (o2+q))++c2G X y.1) (λv=>[.val (.row [.row [.i (n:Int),f.a.cw,f.b.cw],.row [.i i.n,i.a.cw,i.b.cw],.sc (O6 v y.1.length),y.2.cw])]) (obE (Ls (o2+q+1))++c2G X y.1):=by rw[<-hn];exact hY (o2+q) ⟨f,i,y.1,y.2⟩ (hat2 q y hy) X hX
     simp only[mem_cons,not_mem_nil,or_false]at hX;rcases hX with rfl | rfl
     ·refine qz<|nc ze ?_;refine aR<|ne zw<|nc zx ?_;refine⟨rfl,λw3 tT=>a2b ?_⟩;have bG:=(bG.trans mF).trans (xV.trans tT);refine AWp.wk ((a7 (s':=(7,AV.sl 400002 0 y.1.length 1)::(11,.hdl v 400002)::(8,.bp 8 0 [])::(100008,.bx y.2.cw)::(4,.val (.ptr (G1 l0)))::(5,.val (.ptr (.row [.i n,f.a.cw,f.b.cw])))::(6,.val (.ptr (.row [.i i.n,i.a.cw,i.b.cw])))::obX (Ls (o2+q)) 400002 y.1) ⟨rfl,rfl,rfl,rfl,rfl,rfl,rfl,rfl,rfl,rfl,rfl,trivial⟩).trans (a0J 7 400002 11 rfl rfl rfl)) ?_;refine aB<|aS<|K7 ?_
      (refine nxY (AOp.y (G5 (gN rfl) rfl rfl rfl rfl rfl rfl rfl rfl rfl)) rfl ?_)
      (refine nxY (AOp.y (G5 (gN rfl) rfl rfl rfl rfl rfl rfl rfl rfl rfl)) rfl ?_)
      (refine nxY (AOp.y (G5 (gN rfl) rfl rfl rfl rfl rfl rfl rfl rfl rfl)) rfl ?_)
      (refine nxY (AOp.y (aM (gN rfl) rfl rfl rfl rfl rfl)) rfl ?_)
      (refine nxY (AOp.y (aL (gN rfl) rfl rfl rfl rfl rfl rfl rfl rfl rfl rfl rfl rfl)) rfl ?_)
      (refine nxY (AOp.y (a5L c2w (gN rfl) rfl rfl rfl rfl rfl rfl rfl rfl rfl rfl rfl)) rfl ?_)
      (refine nxY (a2g 11 (pP) bG (gN rfl) rfl rfl rfl rfl rfl rfl (.inl ⟨rfl,rfl⟩) (by repeat (first | exact trivial | refine⟨rfl,?_⟩)) (by first | rfl | kernel_rfl) (by first | rfl | kernel_rfl) (by first | rfl | kernel_rfl) (i8 (by first | rfl | kernel_rfl)) rfl) rfl ?_)
      (refine nxY (AOp.y (a9h (gN rfl) rfl rfl rfl rfl rfl)) rfl ?_)
      refine aC rfl (λhc=>by cases hc) (λhc=>aK ?_);exact⟨rfl,a7 ⟨rfl,rfl,rfl,rfl,trivial⟩⟩
     ·refine qz<|nc ze ?_;refine aR<|ne zw<|nc zx ?_;refine⟨rfl,λw3 tT=>a2b ?_⟩;have bG:=(bG.trans mF).trans (xV.trans tT);refine AWp.wk ((a7 (s':=(7,AV.sl 400003 0 y.1.length 1)::(11,.hdl v 400003)::(8,.bp 8 0 [])::(100008,.bx y.2.cw)::(4,.val (.ptr (G1 l0)))::(5,.val (.ptr (.row [.i n,f.a.cw,f.b.cw])))::(6,.val (.ptr (.row [.i i.n,i.a.cw,i.b.cw])))::obX (Ls (o2+q)) 400003 y.1) ⟨rfl,rfl,rfl,rfl,rfl,rfl,rfl,rfl,rfl,rfl,rfl,trivial⟩).trans (a0J 7 400003 11 rfl rfl rfl)) ?_;refine aB<|aS<|K7 ?_
      (refine nxY (AOp.y (G5 (gN rfl) rfl rfl rfl rfl rfl rfl rfl rfl rfl)) rfl ?_)
      (refine nxY (AOp.y (G5 (gN rfl) rfl rfl rfl rfl rfl rfl rfl rfl rfl)) rfl ?_)
      (refine nxY (AOp.y (G5 (gN rfl) rfl rfl rfl rfl rfl rfl rfl rfl rfl)) rfl ?_)
      (refine nxY (AOp.y (aM (gN rfl) rfl rfl rfl rfl rfl)) rfl ?_)
      (refine nxY (AOp.y (aL (gN rfl) rfl rfl rfl rfl rfl rfl rfl rfl rfl rfl rfl rfl)) rfl ?_)
      (refine nxY (AOp.y (a5L c2w (gN rfl) rfl rfl rfl rfl rfl rfl rfl rfl rfl rfl rfl)) rfl ?_)
      (refine nxY (a2g 11 (pP) bG (gN rfl) rfl rfl rfl rfl rfl rfl (.inl ⟨rfl,rfl⟩) (by repeat (first | exact trivial | refine⟨rfl,?_⟩)) (by first | rfl | kernel_rfl) (by first | rfl | kernel_rfl) (by first | rfl | kernel_rfl) (i8 (by first | rfl | kernel_rfl)) rfl) rfl ?_)
      (refine nxY (AOp.y (a9h (gN rfl) rfl rfl rfl rfl rfl)) rfl ?_)
      refine aC rfl (λhc=>by cases hc) (λhc=>aK ?_);exact⟨rfl,a7 ⟨rfl,rfl,rfl,rfl,trivial⟩⟩
    ·rintro e s' ⟨rfl,m,rfl⟩;refine⟨rfl,rfl,rfl,?_⟩;exact a7 ⟨rfl,rfl,rfl,trivial⟩
   ·rintro e s' ⟨rfl,m,rfl⟩;refine⟨rfl,rfl,rfl,?_⟩;rw[take_length];exact a7 ⟨rfl,rfl,rfl,trivial⟩
 ·rintro e s' g ⟨rfl,rfl⟩;refine⟨rfl,.inl rfl,obE (Ls (U5 (x7 c) src tgt).length),?_,rfl,⟨rfl,rfl,rfl,trivial⟩,rfl⟩;rw[take_length];exact a7 ⟨rfl,rfl,rfl,rfl,trivial⟩
set_option maxHeartbeats 2000000 in
theorem a5X(F:List Int)(u:Tm)(hu:u.rng)(fW:u.size<=90000000000):∀(p:List Int) (lo:Nat) (t:Tm),F.drop lo=p->lo+p.length=F.length->F.length<=1000000->t.rng->t.size<=100000->r8 Tryz.prog 94 [(400002,AV.mrow 3 1 (F.map CV.i))] [.val t.cw,.sl 400002 lo p.length 1,.val u.cw] (.tup [((E3 u p t).getD ⟨0,[]⟩).cw,.b (E3 u p t).isSome]) [(400002,AV.mrow 3 1 (F.map CV.i))]:=by
 intro p
 induction p with
 | nil =>
  intro lo t hF sY _ _ _;refine l6 Tryz.func94 Tryz.ntmps94 rfl rfl rfl rfl rfl rfl ?_;intro w U hU;refine qz<|nc zd<|nc zd<|nc zw<|nc ze ?_;refine aS<|qz<|nc zl<|nc zX<|nc zD ?_;refine aC rfl (λhc=>?_) (λhc=>by cases hc);refine qz<|nc zj<|nc (zk (z:=M3 w hu fW))<|nc zx<|nc ze ?_;exact aT ⟨.inr rfl,_,Wk.refl _,rfl,rfl,trivial⟩
 | cons n p ih =>
  intro lo t hF sY hp hr aQ;rw[length_cons]at sY;have jT:(F.map CV.i)[lo]?=some (.i n):=by
   rw[getElem?_map];have:F[lo]?=(F.drop lo)[0]?:=by rw[List.getElem?_drop,Nat.add_zero]
   rw[this,hF];rfl
  have hFm:(F.map CV.i).length=F.length:=length_map ..;have fL:F.drop (lo+1)=p:=by rw[show lo+1=1+lo by omega,Nat.add_comm,<-List.drop_drop,hF];rfl
  have tP:=n8 (n::p);refine l6 Tryz.func94 Tryz.ntmps94 rfl rfl rfl rfl rfl rfl ?_;intro w U hU;refine qz<|nc zd<|nc zd<|nc zw<|nc ze ?_;refine aS<|qz<|nc zl<|nc zX<|nc zD ?_;refine aC rfl (λhc=>?_) (λhc=>aK ?_)
  ·simp at hc;omega
  clear hc;refine qz<|nc zl<|nc (zO (k:=lo))<|nc (zP (G:=jT))<|nc ze ?_;refine aS<|qz<|nc zj<|nc zl<|nc (zk (z:=a3l w t n))<|nc zZ ?_;refine aC rfl (λhc=>?_) (λhc=>aK ?_)
  ·have kZ:t.pa n=none:=by simpa using hc
   have e:E3 u (n::p) t=none:=by rw[E3,kZ];rfl
   rw[e];refine qz<|nc zC<|nc zx<|nc ze ?_;exact aT ⟨.inr rfl,_,Wk.refl _,rfl,rfl,trivial⟩
  obtain⟨s,hs⟩:∃s,t.pa n=some s:=Option.isSome_iff_exists.1 (by simpa using hc);clear hc;have uE:0<=n:=by
   unfold Tm.pa at hs;split at hs
   ·assumption
   ·cases hs
  have hsym:=a6j hs;have hl:t.l[n.toNat]?=some s:=by have hs:=hs;unfold Tm.pa at hs;rw[if_pos uE,Tm.ps_of_sym (by omega)]at hs;exact hs
  have cB:=Tm.map_at hl;have kC:=Tm.size_all t.l;obtain⟨m,hm⟩:∃m:Nat,n=m:=⟨n.toNat,by omega⟩
  subst hm;rw[Int.toNat_natCast]at hl cB;have hml:m<t.l.length:=by
   rcases Nat.lt_or_ge m t.l.length with h | h
   ·exact h
   ·rw[getElem?_eq_none h]at hl;cases hl
  have hml':m<(t.l.map Tm.cv).length:=by rw[length_map];exact hml
  have iB:=((Tm.rng_iff _).1 hr).2;have kX:∀x∈t.l,x.rng/\x.size<=100000:=λx hx=>⟨iB x hx,by
   have h1:=Tm.size_eq t;rw[Tm.ps_of_sym (by omega)]at h1;have:=w7 Tm.flat hx;have h2:x.size=x.flat.length:=rfl;omega⟩
  have kD:t.l.length<=100000:=by
   have h1:=Tm.size_eq t;rw[Tm.ps_of_sym (by omega)]at h1;have:∀l:List Tm,l.length<=(l.flatMap Tm.flat).length:=by
    intro l
    induction l with
    | nil=>exact Nat.le_refl _
    | cons x l ih =>
     rw[List.flatMap_cons,length_append,length_cons];have:0<x.flat.length:=by rw[Tm.flat_eq];simp
     omega
   have:=this t.l;omega
  have qX:=kX s (mem_of_getElem? hl);have h1l:1<=(List.map CV.i ((m:Int)::p)).length:=by simp
  have hP:=ih (lo+1) s fL (by omega) hp qX.1 qX.2;refine aS<|aD (by kernel_rfl) (by kernel_rfl) ?_;refine nc zg<|nc zh<|nc zl<|nc (zt (H:=by assumption) (hz:=by first | assumption | exact sZ rfl | exact Tm.size_all _ | exact Bd.size_all _ | exact n8 _ | exact bys_size _ | exact Lt.size_all _))<|nc zu<|nc zl<|nc (zY (j:=1))<|nc zj<|nc (zW (z:=hP) (G:=i8 (by first | rfl | kernel_rfl)))<|nc zl<|nc zE<|nc zE<|nc zw<|nc zx<|nc ze ?_;refine⟨by kernel_rfl,?_⟩;refine aS<|qz<|nc zl<|nc zZ ?_;refine aC rfl (λhc=>?_) (λhc=>aK ?_)
  ·have kZ:E3 u p s=none:=by simpa using hc
   have e:E3 u ((m:Int)::p) t=none:=by rw[E3,hs,Option.bind_some,kZ];rfl
   rw[e];refine qz<|nc zC<|nc zx<|nc ze ?_;exact aT ⟨.inr rfl,_,Wk.refl _,rfl,rfl,trivial⟩
  obtain⟨v,hv⟩:∃v,E3 u p s=some v:=Option.isSome_iff_exists.1 (by simpa using hc);clear hc;have e:E3 u ((m:Int)::p) t=some ⟨t.f,(t.l.take m).map Tm.strip++v::(t.l.drop (m+1)).map Tm.strip⟩:=by rw[E3,hs,Option.bind_some,hv];rfl
  rw[e,hv];have c1:=L7 w (t.l.take m) (by rw[length_take];omega) (λx hx=>⟨(kX x (mem_of_mem_take hx)).1,by have:=(kX x (mem_of_mem_take hx)).2;omega⟩);have c2:=L7 w (t.l.drop (m+1)) (by rw[length_drop];omega) (λx hx=>⟨(kX x (mem_of_mem_drop hx)).1,by have:=(kX x (mem_of_mem_drop hx)).2;omega⟩);rw[show(t.l.take m).map Tm.cv=(t.l.map Tm.cv).take m from map_take]at c1;rw[show(t.l.drop (m+1)).map Tm.cv=(t.l.map Tm.cv).drop (m+1)from map_drop]at c2;obtain⟨A,hA⟩:∃A,A=(t.l.take m).map Tm.strip:=⟨_,rfl⟩
  obtain⟨B,hB⟩:∃B,B=(t.l.drop (m+1)).map Tm.strip:=⟨_,rfl⟩
  have tQ:A.length<=100000:=by rw[hA,length_map,length_take];omega
  have hBl:B.length<=100000:=by rw[hB,length_map,length_drop];omega
  rw[<-hA]at c1 |-;rw[<-hB]at c2 |-;have c3:AFun Tryz.prog w 130 [.lst [.lst (A.map Tm.cv),.lst [v.cw],.lst (B.map Tm.cv)]] (.val (.lst ((A++v::B).map Tm.cv))):=by have:=a5c w [A,[v],B] (by simp) (by simp;omega);simpa only[List.map_cons,List.map_nil,Tm.cv_eq,List.flatten_cons,List.flatten_nil,append_nil,cons_append,nil_append,List.singleton_append]using this
  refine AWp.wk (a7 (s':=[(3,.bp 3 0 []),(100003,.bx t.cw),(6,.bp 6 0 []),(100006,⟨5,.row [.i 0,.lst []],1,0,[1]⟩),(8,.val (.i m)),(9,.bp 9 0 []),(100009,.bx v.cw),(400002,AV.mrow 3 1 (F.map CV.i))]) ⟨rfl,rfl,rfl,rfl,rfl,rfl,rfl,rfl,trivial⟩) ?_;refine aS<|aD (by kernel_rfl) (by kernel_rfl) ?_;refine nc zg<|nc zh<|nc zl<|nc zbI<|nc (zk (z:=c1))<|nc zj<|nc zy<|nc zg<|nc zh<|nc zl<|nc zA<|nc (zbu (lo:=m+1))<|nc (zk (z:=c2))<|nc zy<|nc (zk (z:=c3))<|nc ze ?_;refine⟨by kernel_rfl,?_⟩;refine qz<|nc zg<|nc zh<|nc zl<|nc zC<|nc zx<|nc ze ?_;exact aT ⟨.inr rfl,_,Wk.refl _,rfl,rfl,trivial⟩
set_option maxHeartbeats 2000000 in
theorem a6d(F:List Int)(u:Tm)(hu:u.rng)(fW:u.size<=90000000000):∀(p:List Int) (lo:Nat) (t:Tm),F.drop lo=p->lo+p.length=F.length->F.length<=1000000->t.rng->t.size<=100000->r8 Tryz.prog 94 [(400003,AV.mrow 3 1 (F.map CV.i))] [.val t.cw,.sl 400003 lo p.length 1,.val u.cw] (.tup [((E3 u p t).getD ⟨0,[]⟩).cw,.b (E3 u p t).isSome]) [(400003,AV.mrow 3 1 (F.map CV.i))]:=by
 intro p
 induction p with
 | nil =>
  intro lo t hF sY _ _ _;refine l6 Tryz.func94 Tryz.ntmps94 rfl rfl rfl rfl rfl rfl ?_;intro w U hU;refine qz<|nc zd<|nc zd<|nc zw<|nc ze ?_;refine aS<|qz<|nc zl<|nc zX<|nc zD ?_;refine aC rfl (λhc=>?_) (λhc=>by cases hc);refine qz<|nc zj<|nc (zk (z:=M3 w hu fW))<|nc zx<|nc ze ?_;exact aT ⟨.inr rfl,_,Wk.refl _,rfl,rfl,trivial⟩
 | cons n p ih =>
  intro lo t hF sY hp hr aQ;rw[length_cons]at sY;have jT:(F.map CV.i)[lo]?=some (.i n):=by
   rw[getElem?_map];have:F[lo]?=(F.drop lo)[0]?:=by rw[List.getElem?_drop,Nat.add_zero]
   rw[this,hF];rfl
  have hFm:(F.map CV.i).length=F.length:=length_map ..;have fL:F.drop (lo+1)=p:=by rw[show lo+1=1+lo by omega,Nat.add_comm,<-List.drop_drop,hF];rfl
  have tP:=n8 (n::p);refine l6 Tryz.func94 Tryz.ntmps94 rfl rfl rfl rfl rfl rfl ?_;intro w U hU;refine qz<|nc zd<|nc zd<|nc zw<|nc ze ?_;refine aS<|qz<|nc zl<|nc zX<|nc zD ?_;refine aC rfl (λhc=>?_) (λhc=>aK ?_)
  ·simp at hc;omega
  clear hc;refine qz<|nc zl<|nc (zO (k:=lo))<|nc (zP (G:=jT))<|nc ze ?_;refine aS<|qz<|nc zj<|nc zl<|nc (zk (z:=a3l w t n))<|nc zZ ?_;refine aC rfl (λhc=>?_) (λhc=>aK ?_)
  ·have kZ:t.pa n=none:=by simpa using hc
   have e:E3 u (n::p) t=none:=by rw[E3,kZ];rfl
   rw[e];refine qz<|nc zC<|nc zx<|nc ze ?_;exact aT ⟨.inr rfl,_,Wk.refl _,rfl,rfl,trivial⟩
  obtain⟨s,hs⟩:∃s,t.pa n=some s:=Option.isSome_iff_exists.1 (by simpa using hc);clear hc;have uE:0<=n:=by
   unfold Tm.pa at hs;split at hs
   ·assumption
   ·cases hs
  have hsym:=a6j hs;have hl:t.l[n.toNat]?=some s:=by have hs:=hs;unfold Tm.pa at hs;rw[if_pos uE,Tm.ps_of_sym (by omega)]at hs;exact hs
  have cB:=Tm.map_at hl;have kC:=Tm.size_all t.l;obtain⟨m,hm⟩:∃m:Nat,n=m:=⟨n.toNat,by omega⟩
  subst hm;rw[Int.toNat_natCast]at hl cB;have hml:m<t.l.length:=by
   rcases Nat.lt_or_ge m t.l.length with h | h
   ·exact h
   ·rw[getElem?_eq_none h]at hl;cases hl
  have hml':m<(t.l.map Tm.cv).length:=by rw[length_map];exact hml
  have iB:=((Tm.rng_iff _).1 hr).2;have kX:∀x∈t.l,x.rng/\x.size<=100000:=λx hx=>⟨iB x hx,by
   have h1:=Tm.size_eq t;rw[Tm.ps_of_sym (by omega)]at h1;have:=w7 Tm.flat hx;have h2:x.size=x.flat.length:=rfl;omega⟩
  have kD:t.l.length<=100000:=by
   have h1:=Tm.size_eq t;rw[Tm.ps_of_sym (by omega)]at h1;have:∀l:List Tm,l.length<=(l.flatMap Tm.flat).length:=by
    intro l
    induction l with
    | nil=>exact Nat.le_refl _
    | cons x l ih =>
     rw[List.flatMap_cons,length_append,length_cons];have:0<x.flat.length:=by rw[Tm.flat_eq];simp
     omega
   have:=this t.l;omega
  have qX:=kX s (mem_of_getElem? hl);have h1l:1<=(List.map CV.i ((m:Int)::p)).length:=by simp
  have hP:=ih (lo+1) s fL (by omega) hp qX.1 qX.2;refine aS<|aD (by kernel_rfl) (by kernel_rfl) ?_;refine nc zg<|nc zh<|nc zl<|nc (zt (H:=by assumption) (hz:=by first | assumption | exact sZ rfl | exact Tm.size_all _ | exact Bd.size_all _ | exact n8 _ | exact bys_size _ | exact Lt.size_all _))<|nc zu<|nc zl<|nc (zY (j:=1))<|nc zj<|nc (zW (z:=hP) (G:=i8 (by first | rfl | kernel_rfl)))<|nc zl<|nc zE<|nc zE<|nc zw<|nc zx<|nc ze ?_;refine⟨by kernel_rfl,?_⟩;refine aS<|qz<|nc zl<|nc zZ ?_;refine aC rfl (λhc=>?_) (λhc=>aK ?_)
  ·have kZ:E3 u p s=none:=by simpa using hc
   have e:E3 u ((m:Int)::p) t=none:=by rw[E3,hs,Option.bind_some,kZ];rfl
   rw[e];refine qz<|nc zC<|nc zx<|nc ze ?_;exact aT ⟨.inr rfl,_,Wk.refl _,rfl,rfl,trivial⟩
  obtain⟨v,hv⟩:∃v,E3 u p s=some v:=Option.isSome_iff_exists.1 (by simpa using hc);clear hc;have e:E3 u ((m:Int)::p) t=some ⟨t.f,(t.l.take m).map Tm.strip++v::(t.l.drop (m+1)).map Tm.strip⟩:=by rw[E3,hs,Option.bind_some,hv];rfl
  rw[e,hv];have c1:=L7 w (t.l.take m) (by rw[length_take];omega) (λx hx=>⟨(kX x (mem_of_mem_take hx)).1,by have:=(kX x (mem_of_mem_take hx)).2;omega⟩);have c2:=L7 w (t.l.drop (m+1)) (by rw[length_drop];omega) (λx hx=>⟨(kX x (mem_of_mem_drop hx)).1,by have:=(kX x (mem_of_mem_drop hx)).2;omega⟩);rw[show(t.l.take m).map Tm.cv=(t.l.map Tm.cv).take m from map_take]at c1;rw[show(t.l.drop (m+1)).map Tm.cv=(t.l.map Tm.cv).drop (m+1)from map_drop]at c2;obtain⟨A,hA⟩:∃A,A=(t.l.take m).map Tm.strip:=⟨_,rfl⟩
  obtain⟨B,hB⟩:∃B,B=(t.l.drop (m+1)).map Tm.strip:=⟨_,rfl⟩
  have tQ:A.length<=100000:=by rw[hA,length_map,length_take];omega
  have hBl:B.length<=100000:=by rw[hB,length_map,length_drop];omega
  rw[<-hA]at c1 |-;rw[<-hB]at c2 |-;have c3:AFun Tryz.prog w 130 [.lst [.lst (A.map Tm.cv),.lst [v.cw],.lst (B.map Tm.cv)]] (.val (.lst ((A++v::B).map Tm.cv))):=by have:=a5c w [A,[v],B] (by simp) (by simp;omega);simpa only[List.map_cons,List.map_nil,Tm.cv_eq,List.flatten_cons,List.flatten_nil,append_nil,cons_append,nil_append,List.singleton_append]using this
  refine AWp.wk (a7 (s':=[(3,.bp 3 0 []),(100003,.bx t.cw),(6,.bp 6 0 []),(100006,⟨5,.row [.i 0,.lst []],1,0,[1]⟩),(8,.val (.i m)),(9,.bp 9 0 []),(100009,.bx v.cw),(400003,AV.mrow 3 1 (F.map CV.i))]) ⟨rfl,rfl,rfl,rfl,rfl,rfl,rfl,rfl,trivial⟩) ?_;refine aS<|aD (by kernel_rfl) (by kernel_rfl) ?_;refine nc zg<|nc zh<|nc zl<|nc zbI<|nc (zk (z:=c1))<|nc zj<|nc zy<|nc zg<|nc zh<|nc zl<|nc zA<|nc (zbu (lo:=m+1))<|nc (zk (z:=c2))<|nc zy<|nc (zk (z:=c3))<|nc ze ?_;refine⟨by kernel_rfl,?_⟩;refine qz<|nc zg<|nc zh<|nc zl<|nc zC<|nc zx<|nc ze ?_;exact aT ⟨.inr rfl,_,Wk.refl _,rfl,rfl,trivial⟩
end Go.Proofs.YteegmcfobgpemaaGreat
