/-
 SuWays SuMeet SuPut SuJoin SuFol
-/
import Derived.Test.YteegmcfobgpemaaGreatMg10
import Derived.Test.YteegmcfobgpemaaGreatMg2
namespace Go.Proofs.YteegmcfobgpemaaGreat
open List (append_nil flatMap_append getElem?_eq_getElem getElem?_eq_none getElem?_map length_append length_cons length_drop length_map length_nil length_take map_append mem_cons mem_of_getElem? mem_of_mem_drop mem_of_mem_take not_mem_nil take_add_one take_length)
open Go.RowKit
set_option linter.unusedVariables false
set_option linter.unusedSimpArgs false
set_option maxRecDepth 100000
structure Wy where
 n:Int
 a:Tm
 b:Tm
noncomputable def Wy.cv (w:Wy):CV := .row [.i w.n,.row [.i w.a.f,.lst (w.a.l.map Tm.cv)],.row [.i w.b.f,.lst (w.b.l.map Tm.cv)]]
def wy2 (n:Int) (l:Lt):List Wy:=[⟨n,l.a,l.b⟩,⟨n,l.b,l.a⟩]
noncomputable def a5X (ld:Tm->Tm->Bool) (c:List Lt) (n:Int):List Wy:=match c[n.toNat]? with
 | some l=>(wy2 n l).filter fun w=>ld w.a w.b
 | none=>[]
noncomputable def F4 (ld:Tm->Tm->Bool) (c:List Lt) (L:List Int):List Wy:=L.flatMap (a5X ld c)
theorem a6a {ld:Tm->Tm->Bool} {c:List Lt} {L:List Int} {k:Nat} {n:Int} (h:L[k]?=some n):F4 ld c (L.take (k+1))=F4 ld c (L.take k)++a5X ld c n:=by
 unfold F4;rw [take_add_one,h,flatMap_append];simp
theorem b5h (n:Int) (l:Lt):∀ x∈(wy2 n l).map Wy.cv,x.size=5:=by
 intro x hx;obtain ⟨w,_,rfl⟩:=List.mem_map.1 hx;rfl
theorem c0c {ld:Tm->Tm->Bool} {c:List Lt} {L:List Int} {k:Nat} {n:Int} {l:Lt} (h:L[k]?=some n) (hl:c[n.toNat]?=some l) {j:Nat} {w:Wy} (hj:(wy2 n l)[j]?=some w) (tQ:ld w.a w.b=true):(F4 ld c L)[(F4 ld c (L.take k)).length+(((wy2 n l).take j).filter fun w=>ld w.a w.b).length]?=some w:=by
 have h1:F4 ld c L=F4 ld c (L.take (k+1))++F4 ld c (L.drop (k+1)):=by
  conv=>lhs;rw [<-List.take_append_drop (k+1) L]
  unfold F4;rw [flatMap_append]
 have h2:a5X ld c n=(wy2 n l).filter fun w=>ld w.a w.b:=by unfold a5X;rw [hl]
 have h3:(wy2 n l).filter (fun w=>ld w.a w.b)=((wy2 n l).take j).filter (fun w=>ld w.a w.b)++(w::((wy2 n l).drop (j+1)).filter fun w=>ld w.a w.b):=by
  conv=>lhs;rw [<-List.take_append_drop j (wy2 n l),T0 hj]
  rw [List.filter_append,List.filter_cons,if_pos tQ]
 rw [h1,a6a h,h2,h3,List.append_assoc,List.getElem?_append_right (by omega),Nat.add_sub_cancel_left,List.append_assoc,List.getElem?_append_right (by omega),Nat.sub_self];rfl
section
variable {P:Program} {w0:World} {U0:UX} {nt:Nat} {s:AS}
variable {ops:Array Oper} {o:Oper} {S:Nat->Option AV} {gs:List Nat} {d:Nat}
theorem b3N (hg:Gd w0 U0 nt ops o gs S) (hd:o.dst=some d) (hn:Nat.blt d nt=true) (h5:Nat.blt d 100000=true) {ty:TypeId} {v:Value} {c:CV} (ho:o.op = .alloc ty) (hi:(P.info? ty).map (·.zero)=some (some v)) (hc:(v = .slice none 0 0/\c = .lst [])\/(v.oneCell'=true/\c = .sc v)):AOp P w0 U0 nt ops o gs [(d,[])] S [(d,.bp d 0 []),(100000+d,.bx c)]:=by
 intro s hs hN a w ⟨D,hv,h⟩ Q K hK;rw [if_pos (hg s hs a w D hv h)];obtain ⟨it,bR,cL⟩:∃ it,P.info? ty=some it/\it.zero=some v:=by
  cases e:P.info? ty with
  | none=>rw [e] at hi;cases hi
  | some it=>rw [e] at hi;exact ⟨it,rfl,by simpa using hi⟩
 have gG:Rep (Us w0 U0 D) w c [v]/\v.cells = #[v]:=by
  rcases hc with ⟨rfl,rfl⟩ | ⟨h1,rfl⟩
  ·exact ⟨M6.2 ⟨none,0,0,rfl,rfl,by omega,(by unfold maxLen;omega),(fun _=>⟨rfl,rfl⟩),[],.inl rfl,rfl⟩,rfl⟩
  ·exact ⟨J7.2 ⟨rfl,h1⟩,by cases v<;>first | rfl | simp [Value.oneCell'] at h1⟩
 have he:(execOp a.eval o).run P w = .ok (.value (.pointer (some ⟨w.heap.size,0,none⟩))) (w.alloc (.cells #[v] ty)):=by simp [execOp,ho,Instr.alloc,zeroValue,typeInfo,bR,cL,B6,gG.2]
 unfold Oper.wp;rw [he,Oper.upon_value,hd];exact hK _ _ ⟨_,_,h.newbox (d:=d) (av := .bx c) (xs:=[v]) (hN (d,[]) (by simp)).nr (bL hn) (bL h5) (.inl rfl) ty (fun _=>gG.1) (fun _ hl=>absurd hl A0)⟩
theorem zbL {P:Program} {w0:World} {U0:UX} {nt:Nat} {ops:Array Oper} {o:Oper} {S:Nat->Option AV} {gs:List Nat} {d:Nat} {ty:TypeId} {v:Value} {c:CV} (p:Gd w0 U0 nt ops o gs S:=by exact gN rfl) (q:o.dst=some d:=by exact rfl) (r:Nat.blt d nt=true:=by exact rfl) (t:Nat.blt d 100000=true:=by exact rfl) (u:o.op = .alloc ty:=by exact rfl) (x:(P.info? ty).map (·.zero)=some (some v):=by exact rfl) (y:(v = .slice none 0 0/\c = .lst [])\/(v.oneCell'=true/\c = .sc v):=by first | exact .inl ⟨rfl,rfl⟩ | exact .inr ⟨rfl,rfl⟩):AOp P w0 U0 nt ops o gs [(d,[])] S [(d,.bp d 0 []),(100000+d,.bx c)]:=b3N p q r t u x y
theorem a4D (d:Nat) {c:CV} (h1:look s d=some (.val (.ptr c))) (hd:Nat.blt d 100000=true):Wk w0 U0 nt s ((d,.ad c)::s):=by
 rintro a w ⟨D,hv,h⟩;obtain ⟨v,g1,g2⟩:=h.slot d _ h1 (bL hd);obtain ⟨b,off,xs,e1,e2,e3⟩:=X7.1 g2.1;exact ⟨D,hv,h.know (bL hd) g1 ⟨b,off,xs,e1,e2,e3⟩⟩
end
noncomputable abbrev ruC (fl fd:Nat):CV := .row [.fn fl 0 [],.fn fd 0 []]
theorem a3R (W:World) (fl fd:Nat) (c:List Lt) (L:List Int) (kB:∀ w,AFun Tryz.prog w fl [.lst (c.map Lt.cv)] (.val (.lst (L.map CV.i)))):AFun Tryz.prog W 89 [ruC fl fd,.lst (c.map Lt.cv)] (.val (.fn 118 0 [.ptr (.lst (L.map CV.i)),.ptr (.lst (c.map Lt.cv)),.ptr (ruC fl fd)])):=by
 refine b9 (rs:=[.fn 118 0 [.ptr (.lst (L.map CV.i)),.ptr (.lst (c.map Lt.cv)),.ptr (ruC fl fd)]]) Tryz.func89 Tryz.ntmps89 rfl rfl rfl rfl ?_;intro w U hW;have hv:AFunV Tryz.prog w (.fn fl 0 []) [.lst (c.map Lt.cv)] (.val (.lst (L.map CV.i))):=⟨fl,0,[],rfl,by simpa using kB w⟩
 refine aS (aR ?_);refine nc zd (nc zd (nc ze ?_));refine aS (aR ?_);refine nc zg (nc zh (nc zj (nc (zH (E:=hv)) (nc zbL (nc zx ?_)))));refine AWp.wk ((o9 5 rfl rfl rfl (s':=[(2,AV.bp 2 0 []),(100002,.bx (ruC fl fd)),(3,.bp 3 0 []),(100003,.bx (.lst (c.map Lt.cv)))]) ⟨rfl,rfl,rfl,rfl,trivial⟩ rfl rfl rfl).trans ((o9 3 rfl rfl rfl (s':=[(5,AV.val (.ptr (.lst (L.map CV.i)))),(2,AV.bp 2 0 []),(100002,.bx (ruC fl fd))]) ⟨rfl,rfl,rfl,trivial⟩ rfl rfl rfl).trans (o9 2 rfl rfl rfl (s':=[(5,AV.val (.ptr (.lst (L.map CV.i)))),(3,.val (.ptr (.lst (c.map Lt.cv))))]) ⟨rfl,rfl,trivial⟩ rfl rfl rfl))) ?_;refine aS (aR ?_);refine nc zG (nc ze ?_);exact aT ⟨.inr rfl,rfl⟩
set_option maxHeartbeats 8000000 in
theorem a0H (fl fd:Nat) (ld:Tm->Tm->Bool) (c:List Lt) (hc:c.length<=1000000) (L:List Int) (hL:∀ n∈L,0<=n/\n<c.length) (mI:L.length<=1000000) (hd:∀ w,∀ l∈c,AFun Tryz.prog w fd [l.a.cw,l.b.cw] (.val (.b (ld l.a l.b)))/\AFun Tryz.prog w fd [l.b.cw,l.a.cw] (.val (.b (ld l.b l.a)))) (Ls:Nat->List (List Lt)):a0M Tryz.prog 118 [.ptr (.lst (L.map CV.i)),.ptr (.lst (c.map Lt.cv)),.ptr (ruC fl fd)] [0] (fun _ _=>[]) (fun _ x _=>[.val x.cv]) (F4 ld c L) (fun k=>obE (Ls k)):=by
 intro Wb Ub l0 hY;refine a1j Tryz.func118 Tryz.ntmps118 rfl rfl rfl rfl (by kernel_rfl) (by kernel_rfl) ?_;intro w U bE hU;show AWp _ _ _ _ _ _ ((0,AV.val (E7 l0))::(1,.val (.ptr (.lst (L.map CV.i))))::(2,.val (.ptr (.lst (c.map Lt.cv))))::(3,.val (.ptr (ruC fl fd)))::obE (Ls 0));have nV:=Lt.size_all c;refine aS (aR ?_);refine nc zI (nc zo (nc zl ?_));refine AWp.wk (a4D 3 rfl rfl) ?_;refine aB (l9 L.length (fun k=>(0,AV.val (E7 l0))::(2,.val (.ptr (.lst (c.map Lt.cv))))::(3,.ad (ruC fl fd))::(9,.val (.lst (L.map CV.i)))::(10,.val (.i (L.map CV.i).length))::(11,.val (.i (k:Int)))::obE (Ls (F4 ld c (L.take k)).length)) (a7 ⟨rfl,rfl,rfl,rfl,rfl,rfl,rfl,rfl,rfl,trivial⟩) ?_);intro k hk;obtain ⟨J,hJ⟩:∃ J,J=(F4 ld c (L.take k)).length:=⟨_,rfl⟩
 refine aS (aR ?_);refine nc zi ?_;refine aS (aC rfl (fun kA=>?_) (fun kA=>?_))
 ·have kE:k<L.length:=by simpa using kA
  obtain ⟨n,hn⟩:∃ n,L[k]?=some n:=⟨L[k],getElem?_eq_getElem kE⟩
  obtain ⟨m,hm⟩:∃ m:Nat,n=(m:Int):=⟨n.toNat,by have:=(hL n (mem_of_getElem? hn)).1;omega⟩
  subst hm;have hmc:m<c.length:=by have:=(hL _ (mem_of_getElem? hn)).2;omega
  obtain ⟨l,hl⟩:∃ l,c[m]?=some l:=⟨c[m],getElem?_eq_getElem hmc⟩
  have fU:=mem_of_getElem? hl;have bU:=Lt.map_at hl;have gP:(L.map CV.i)[k]?=some (.i (m:Int)):=by rw [getElem?_map,hn];rfl
  have hsi:=n9 L;have hwN:a5X ld c (m:Int)=(wy2 m l).filter fun w=>ld w.a w.b:=by unfold a5X;rw [Int.toNat_natCast,hl]
  have kP:=a6a (ld:=ld) (c:=c) hn;rw [<-hJ];refine aK ?_;refine aS (aB (aS (aR ?_)));refine nc (zt (j:=k) (H:=gP) (hz:=hsi)) (nc zu (nc ze ?_));refine aS (aD (by kernel_rfl) (by kernel_rfl) ?_);refine nc zl (nc zI (nc zl (nc (zt (j:=m) (H:=bU) (hz:=nV)) (nc zbG (nc zu (nc zI (nc zl (nc (zt (j:=m) (H:=bU) (hz:=nV)) (nc zbG (nc zu (nc zC (nc zl (nc zI (nc zl (nc (zt (j:=m) (H:=bU) (hz:=nV)) (nc zbG (nc zu (nc zI (nc zl (nc (zt (j:=m) (H:=bU) (hz:=nV)) (nc zbG (nc zu (nc zC ?_)))))))))))))))))))))));refine nc zy (nc zo (nc zl ?_));refine ⟨by kernel_rfl,?_⟩;have hws:=b5h m l;refine aB (l9 2 (fun j=>(0,AV.val (E7 l0))::(3,.ad (ruC fl fd))::(2,.val (.ptr (.lst (c.map Lt.cv))))::(9,.val (.lst (L.map CV.i)))::(10,.val (.i (L.map CV.i).length))::(11,.val (.i (k:Int)))::(39,.val (.lst ((wy2 m l).map Wy.cv)))::(40,.val (.i 2))::(41,.val (.i (j:Int)))::obE (Ls (J+(((wy2 m l).take j).filter fun w=>ld w.a w.b).length))) (a7 ⟨rfl,rfl,rfl,rfl,rfl,rfl,rfl,rfl,rfl,rfl,rfl,rfl,trivial⟩) ?_);intro j hj;obtain ⟨J2,iZ⟩:∃ J2,J2=J+(((wy2 m l).take j).filter fun w=>ld w.a w.b).length:=⟨_,rfl⟩
  refine aS (aR ?_);refine nc zi ?_;refine aS (aC rfl (fun kA=>?_) (fun kA=>?_))
  ·have iB:j<2:=by have:=of_decide_eq_true kA;omega
   obtain ⟨x,hx⟩:∃ x,(wy2 m l)[j]?=some x:=⟨_,getElem?_eq_getElem iB⟩
   have kU:((wy2 m l).map Wy.cv)[j]?=some x.cv:=by rw [getElem?_map,hx];rfl
   have nI:x.cv = .row [.i x.n,x.a.cw,x.b.cw]:=rfl;rw [nI] at kU;have dD:∀ w,AFunV Tryz.prog w (.fn fd 0 []) [x.a.cw,x.b.cw] (.val (.b (ld x.a x.b))):=fun w=>⟨fd,0,[],rfl,by
    have h1:=hd w l fU;show AFun _ _ _ ([]++([x.a.cw,x.b.cw]++[])) _
    match j,iB,hx with
    | 0,_,hx=>cases hx;exact h1.1
    | 1,_,hx=>cases hx;exact h1.2⟩
   have fX:((wy2 m l).take (j+1)).filter (fun w=>ld w.a w.b)=((wy2 m l).take j).filter (fun w=>ld w.a w.b)++(if ld x.a x.b=true then [x] else []):=by rw [take_add_one,hx,Option.toList_some,List.filter_append,List.filter_cons,List.filter_nil]
   rw [<-iZ];refine aK ?_;refine aS (aB (aS (aR ?_)));refine nc (zt (j:=j) (H:=kU) (hz:=hws)) (nc zu (ne zw (nc zx ?_)));obtain ⟨b,hb⟩:∃ b,b=ld x.a x.b:=⟨_,rfl⟩
   have bY:=dD w;rw [<-hb] at bY fX;cases b with
   | false =>
    refine aS (aR ?_);refine nc zbG (nc zu (nc zg (nc zh (nc zg (nc zh (nc (zH (E:=bY)) (nc zl (nc zq (nc zq (nc zq (nc zq (nc zr ?_))))))))))));refine aC rfl (fun hc=>by cases hc) (fun hc=>aK ?_);refine aR ?_;refine nc zA (nc zl ?_);refine ⟨iB,?_⟩;have e:J+(((wy2 m l).take (j+1)).filter fun w=>ld w.a w.b).length=J2:=by rw [fX,if_neg (by simp),append_nil,iZ]
    show Wk _ _ _ _ ((0,AV.val (E7 l0))::(3,.ad (ruC fl fd))::(2,.val (.ptr (.lst (c.map Lt.cv))))::(9,.val (.lst (L.map CV.i)))::(10,.val (.i (L.map CV.i).length))::(11,.val (.i (k:Int)))::(39,.val (.lst ((wy2 m l).map Wy.cv)))::(40,.val (.i 2))::(41,.val (.i ((j+1:Nat):Int)))::obE (Ls (J+(((wy2 m l).take (j+1)).filter fun w=>ld w.a w.b).length)));rw [e];exact a7 ⟨rfl,rfl,rfl,rfl,rfl,rfl,rfl,rfl,rfl,rfl,rfl,rfl,trivial⟩
   | true =>
    have oY:=hY J2 x (by rw [iZ,hJ];exact c0c hn (by rw [Int.toNat_natCast];exact hl) hx hb.symm) 0 (by simp);have oY:b6Q Tryz.prog Wb Ub l0 0 (obE (Ls J2)) (fun _=>[.val (.row [.i x.n,x.a.cw,x.b.cw])]) (obE (Ls (J2+1))):=oY;refine aS (I9 ?_)
    (refine nxY (AOp.y (a3b (gN rfl) rfl rfl rfl rfl rfl rfl rfl rfl rfl rfl rfl)) rfl ?_)
    (refine nxY (AOp.y (a5Z (gN rfl) rfl rfl rfl rfl rfl rfl rfl rfl rfl)) rfl ?_)
    (refine nxY (AOp.y (aF (gN rfl) rfl rfl rfl rfl rfl rfl rfl rfl rfl)) rfl ?_)
    (refine nxY (AOp.y (aLb (gN rfl) rfl rfl rfl rfl rfl rfl rfl rfl rfl rfl rfl rfl)) rfl ?_)
    (refine nxY (AOp.y (aF (gN rfl) rfl rfl rfl rfl rfl rfl rfl rfl rfl)) rfl ?_)
    (refine nxY (AOp.y (aLb (gN rfl) rfl rfl rfl rfl rfl rfl rfl rfl rfl rfl rfl rfl)) rfl ?_)
    (refine nxY (AOp.y (a7I (gN rfl) rfl rfl rfl rfl rfl rfl (bY))) rfl ?_)
    (refine nxY (AOp.y (aM (gN rfl) rfl rfl rfl rfl rfl)) rfl ?_)
    (refine nxY (AOp.y (aM gb rfl rfl rfl rfl rfl)) rfl ?_)
    (refine nxY (AOp.y (aL gb rfl rfl rfl rfl rfl rfl rfl rfl rfl rfl rfl rfl)) rfl ?_)
    (refine nxY (a1x (u := .slice none 0 0) 0 (oY) bE gb rfl rfl rfl rfl rfl rfl (.inr fun _ _=>rfl) (by repeat (first | exact trivial | refine ⟨rfl,?_⟩)) (by first | rfl | kernel_rfl) (by first | rfl | kernel_rfl) (by first | rfl | kernel_rfl) (i0 (by first | rfl | kernel_rfl)) rfl) rfl ?_)
    (refine nxY (AOp.y (a7U gb rfl rfl rfl rfl rfl)) rfl ?_)
    (refine ⟨_,_,_,AOp.y (aPt (gN rfl) rfl rfl rfl rfl rfl ?hb rfl),rfl,?_⟩;case hb=>(first | rfl | assumption | (simp;done)))
    refine aC rfl (fun hc=>by cases hc) (fun hc=>aK ?_);refine aR ?_;refine nc zA (nc zl ?_);refine ⟨iB,?_⟩;have e:J+(((wy2 m l).take (j+1)).filter fun w=>ld w.a w.b).length=J2+1:=by rw [fX,if_pos rfl,length_append,iZ];rfl
    show Wk _ _ _ _ ((0,AV.val (E7 l0))::(3,.ad (ruC fl fd))::(2,.val (.ptr (.lst (c.map Lt.cv))))::(9,.val (.lst (L.map CV.i)))::(10,.val (.i (L.map CV.i).length))::(11,.val (.i (k:Int)))::(39,.val (.lst ((wy2 m l).map Wy.cv)))::(40,.val (.i 2))::(41,.val (.i ((j+1:Nat):Int)))::obE (Ls (J+(((wy2 m l).take (j+1)).filter fun w=>ld w.a w.b).length)));rw [e];exact a7 ⟨rfl,rfl,rfl,rfl,rfl,rfl,rfl,rfl,rfl,rfl,rfl,rfl,trivial⟩
  ·have iB:j=2:=by
    have:¬ j<2:=by have:=of_decide_eq_false kA;omega
    omega
   subst iB;rw [<-iZ];refine aE ?_;refine aR ?_;refine nc zA (nc zl ?_);refine ⟨kE,?_⟩;have e:(F4 ld c (L.take (k+1))).length=J2:=by rw [kP,hwN,length_append,iZ,hJ];rfl
   show Wk _ _ _ _ ((0,AV.val (E7 l0))::(2,.val (.ptr (.lst (c.map Lt.cv))))::(3,.ad (ruC fl fd))::(9,.val (.lst (L.map CV.i)))::(10,.val (.i (L.map CV.i).length))::(11,.val (.i ((k+1:Nat):Int)))::obE (Ls (F4 ld c (L.take (k+1))).length));rw [e];exact a7 ⟨rfl,rfl,rfl,rfl,rfl,rfl,rfl,rfl,rfl,trivial⟩
 ·have kE:k=L.length:=by
   have:¬ k<L.length:=by simpa using kA
   omega
  subst kE;rw [take_length];refine aE ?_;exact ⟨.inl rfl,_,Wk.refl _,rfl,rfl,rfl,rfl,trivial⟩
theorem a6M (W:World) (c:List Lt) (hc:c.length<=1000000):AFun Tryz.prog W 41 [.lst (c.map Lt.cv)] (.val (.lst ((upL c.length).map CV.i))):=by
 refine b9 (rs:=[.lst ((upL c.length).map CV.i)]) Tryz.func41 Tryz.ntmps41 rfl rfl rfl rfl ?_;intro w U hW;refine aS (aR ?_);refine nc ze ?_;refine aS (aR ?_);refine nc ze ?_;refine aS (aS (aR ?_));refine nc zl (nc zo (nc zl ?_));refine aB (l9 c.length (fun k=>[(6,AV.val (.i (c.map Lt.cv).length)),(7,.val (.i (k:Int))),(3,.own (.lst ((upL k).map CV.i)) 200013),(200013,.tok 3 1)]) ((O0 3 200013 3 1 rfl rfl rfl rfl rfl rfl rfl).trans (a7 ⟨rfl,rfl,rfl,rfl,trivial⟩)) ?_);intro k hk;have hul:=a7f k;have hlu:((upL k).map CV.i).length=k:=by rw [length_map,a7f]
 have hsi:=n9 (upL k);refine aS (aR ?_);refine nc zi ?_;refine aS (aC rfl (fun kA=>?_) (fun kA=>?_))
 ·have kE:k<c.length:=by simpa using kA
  refine aK ?_;refine aS (aB (aS (aR ?_)));refine nc zl (nc ze ?_);refine aR ?_;refine nc zl (nc zl (nc zy (nc zz (nc ze ?_))));refine aR ?_;refine nc zA (nc zl ?_);refine ⟨kE,?_⟩;show Wk _ _ _ _ [(6,AV.val (.i (c.map Lt.cv).length)),(7,.val (.i ((k+1:Nat):Int))),(3,.own (.lst ((upL (k+1)).map CV.i)) 200013),(200013,.tok 3 1)];rw [b6u,map_append];exact (a7 (s':=[(6,AV.val (.i (c.map Lt.cv).length)),(7,.val (.i ((k+1:Nat):Int))),(3,.own (.lst ((upL k).map CV.i++[CV.i (k:Int)])) 300013),(300013,.tok 3 1)]) ⟨rfl,rfl,rfl,rfl,trivial⟩).trans ((A8 300013 200013 rfl rfl rfl rfl).trans (a7 ⟨rfl,rfl,rfl,rfl,trivial⟩))
 ·have kE:k=c.length:=by
   have:¬ k<c.length:=by simpa using kA
   omega
  subst kE;refine aE ?_;refine aS (aR ?_);refine nc zl (nc ze ?_);exact aT (And.intro (.inr rfl) rfl)
structure Mt where
 fr:Wy
 ti:Wy
 pl:List Int
 pt:Tm
noncomputable def Mt.cvH (m:Mt) (v:Value):CV := .row [m.fr.cv,m.ti.cv,.sc (M5 v m.pl.length),.row [.i m.pt.f,.lst (m.pt.l.map Tm.cv)]]
noncomputable def mtI (f i:Wy):List Mt:=(sy i.a []).map fun q=>⟨f,i,q.1,q.2⟩
noncomputable def mtF (tgt:List Wy) (f:Wy):List Mt:=tgt.flatMap (mtI f)
noncomputable def mtN (neg:Int->Bool) (tgt:List Wy) (f:Wy):List Mt:=if neg f.n=true then [] else mtF tgt f
noncomputable def Z7 (neg:Int->Bool) (src tgt:List Wy):List Mt:=src.flatMap (mtN neg tgt)
theorem a1F {α β:Type} {g:α->List β} {L:List α} {k:Nat} {x:α} (h:L[k]?=some x):(L.take (k+1)).flatMap g=(L.take k).flatMap g++g x:=by
 rw [take_add_one,h,flatMap_append];simp
theorem b0c {α β:Type} {g:α->List β} {L:List α} {k:Nat} {x:α} (h:L[k]?=some x) {i:Nat} {y:β} (hy:(g x)[i]?=some y):(L.flatMap g)[((L.take k).flatMap g).length+i]?=some y:=by
 have h1:L.flatMap g=(L.take (k+1)).flatMap g++(L.drop (k+1)).flatMap g:=by
  conv=>lhs;rw [<-List.take_append_drop (k+1) L]
  rw [flatMap_append]
 have hi:i<(g x).length:=by
  rcases Nat.lt_or_ge i (g x).length with h2 | h2
  ·exact h2
  ·rw [getElem?_eq_none h2] at hy;cases hy
 rw [h1,a1F h,List.append_assoc,List.getElem?_append_right (by omega),Nat.add_sub_cancel_left,List.getElem?_append_left hi,hy]
def x9 (c:List Lt) (n:Int):Bool:=match c[n.toNat]? with
 | some l=>l.neg
 | none=>false
noncomputable abbrev wyZ:CV := .row [.i 0,.row [.i 0,.lst []],.row [.i 0,.lst []]]
noncomputable abbrev b9S:List CV:=[wyZ,wyZ,.lst [],.row [.i 0,.lst []]]
theorem b0S (W:World) (fl fd:Nat) (c d:List Lt) (L M:List Int) (cH:∀ w,AFun Tryz.prog w fl [.lst (c.map Lt.cv)] (.val (.lst (L.map CV.i)))) (tQ:∀ w,AFun Tryz.prog w fl [.lst (d.map Lt.cv)] (.val (.lst (M.map CV.i)))):AFun Tryz.prog W 64 [ruC fl fd,.lst (c.map Lt.cv),.lst (d.map Lt.cv)] (.val (.fn 90 0 [.ptr (.fn 118 0 [.ptr (.lst (L.map CV.i)),.ptr (.lst (c.map Lt.cv)),.ptr (ruC fl fd)]),.ptr (.lst (c.map Lt.cv)),.ptr (.fn 118 0 [.ptr (.lst (M.map CV.i)),.ptr (.lst (d.map Lt.cv)),.ptr (ruC fl fd)])])):=by
 obtain ⟨S,hS⟩:∃ S,S=CV.fn 118 0 [.ptr (.lst (L.map CV.i)),.ptr (.lst (c.map Lt.cv)),.ptr (ruC fl fd)]:=⟨_,rfl⟩
 obtain ⟨T,hT⟩:∃ T,T=CV.fn 118 0 [.ptr (.lst (M.map CV.i)),.ptr (.lst (d.map Lt.cv)),.ptr (ruC fl fd)]:=⟨_,rfl⟩
 refine b9 (rs:=[.fn 90 0 [.ptr (.fn 118 0 [.ptr (.lst (L.map CV.i)),.ptr (.lst (c.map Lt.cv)),.ptr (ruC fl fd)]),.ptr (.lst (c.map Lt.cv)),.ptr (.fn 118 0 [.ptr (.lst (M.map CV.i)),.ptr (.lst (d.map Lt.cv)),.ptr (ruC fl fd)])]]) Tryz.func64 Tryz.ntmps64 rfl rfl rfl rfl ?_;intro w U hW;have h1:=a3R w fl fd c L cH;have h2:=a3R w fl fd d M tQ;refine aS (aR ?_);refine nc zd (nc zd (nc ze ?_));refine aS (aD (by kernel_rfl) (by kernel_rfl) ?_);refine nc zj (nc zj (nc (zk (z:=h1)) (nc zj (nc zl (nc (zk (z:=h2)) (nc zbL (nc zbL (nc zx (nc zx ?_)))))))));refine ⟨by kernel_rfl,?_⟩;refine AWp.wk ((o9 7 rfl rfl rfl (s':=[(4,AV.bp 4 0 []),(100004,.bx (.lst (c.map Lt.cv))),(8,AV.bp 8 0 []),(100008,.bx (.fn 118 0 [.ptr (.lst (M.map CV.i)),.ptr (.lst (d.map Lt.cv)),.ptr (ruC fl fd)]))]) ⟨rfl,rfl,rfl,rfl,trivial⟩ rfl rfl rfl).trans ((o9 8 rfl rfl rfl (s':=[(7,AV.val (.ptr (.fn 118 0 [.ptr (.lst (L.map CV.i)),.ptr (.lst (c.map Lt.cv)),.ptr (ruC fl fd)]))),(4,AV.bp 4 0 []),(100004,.bx (.lst (c.map Lt.cv)))]) ⟨rfl,rfl,rfl,trivial⟩ rfl rfl rfl).trans (o9 4 rfl rfl rfl (s':=[(7,AV.val (.ptr (.fn 118 0 [.ptr (.lst (L.map CV.i)),.ptr (.lst (c.map Lt.cv)),.ptr (ruC fl fd)]))),(8,AV.val (.ptr (.fn 118 0 [.ptr (.lst (M.map CV.i)),.ptr (.lst (d.map Lt.cv)),.ptr (ruC fl fd)])))]) ⟨rfl,rfl,trivial⟩ rfl rfl rfl))) ?_;refine aS (aR ?_);refine nc zG (nc ze ?_);exact aT ⟨.inr rfl,rfl⟩
set_option maxHeartbeats 8000000 in
theorem a6B (c:List Lt) (gs gt:Nat) (cs ct:List CV) (src tgt:List Wy) (pD:a2G Tryz.prog gs) (het:a2G Tryz.prog gt) (wR:∀ w∈src,0<=w.n/\w.n<c.length) (htgt:∀ w∈tgt,w.a.size<=1000000)
  (hs:∀ Ls:Nat->List (List Lt),a0M Tryz.prog gs cs [0] (fun _ _=>[]) (fun _ x _=>[.val x.cv]) src (fun k=>obE (Ls k)))
  (ht:∀ Ls:Nat->List (List Lt),a0M Tryz.prog gt ct [0] (fun _ _=>[]) (fun _ x _=>[.val x.cv]) tgt (fun k=>obE (Ls k)))
  (Ls:Nat->List (List Lt)):a0M Tryz.prog 90 [.ptr (.fn gs 0 cs),.ptr (.lst (c.map Lt.cv)),.ptr (.fn gt 0 ct)] [400002,400003] (fun X x=>b9C X x.pl) (fun X x v=>[.val (x.cvH v)]) (Z7 (x9 c) src tgt) (fun k=>obE (Ls k)):=by
 intro Wb Ub l0 hY;have sT:a2G Tryz.prog 119:=x0 Tryz.func119 rfl rfl;have nV:=Lt.size_all c;refine b3F Tryz.func90 Tryz.ntmps90 rfl rfl rfl rfl (by kernel_rfl) (by kernel_rfl) ?_;intro w U bE hU;show a1z _ _ _ _ _ _ ((0,AV.val (E7 l0))::(1,.val (.ptr (.fn gs 0 cs)))::(2,.val (.ptr (.lst (c.map Lt.cv))))::(3,.val (.ptr (.fn gt 0 ct)))::obE (Ls 0));refine G8 (aR ?_);refine ne zd ?_;refine ⟨rfl,?_⟩;refine a1n (o9 4 rfl rfl rfl (s':=(1,AV.val (.ptr (.fn gs 0 cs)))::(2,.val (.ptr (.lst (c.map Lt.cv))))::(3,.val (.ptr (.fn gt 0 ct)))::obE (Ls 0)) ⟨rfl,rfl,rfl,rfl,rfl,rfl,trivial⟩ rfl rfl (by kernel_rfl)) ?_;refine G8 (aR ?_);refine nc zI ?_;refine ⟨rfl,?_⟩;refine a0o ?_;refine a1n (a7 (s':=(9,AV.val (.fn gs 0 cs))::(2,.val (.ptr (.lst (c.map Lt.cv))))::(3,.val (.ptr (.fn gt 0 ct)))::(4,.val (.ptr (E7 l0)))::obE (Ls 0)) ⟨rfl,rfl,rfl,rfl,rfl,rfl,rfl,trivial⟩) ?_;refine a1V (a2f (ps:=[10]) (fun k=>obE (Ls (Z7 (x9 c) (src.take k) tgt).length)) [(2,.val (.ptr (.lst (c.map Lt.cv)))),(3,.val (.ptr (.fn gt 0 ct))),(4,.val (.ptr (E7 l0)))] (fun _ _=>[]) rfl pD (hs fun k=>Ls (Z7 (x9 c) (src.take k) tgt).length) rfl (fun _ _ _=>rfl) ⟨rfl,rfl,rfl,trivial⟩ rfl ⟨.inl ⟨_,rfl⟩,.inl ⟨_,rfl⟩,.inl ⟨_,rfl⟩,trivial⟩ ⟨rfl,rfl,rfl,trivial⟩ ⟨by kernel_rfl,by kernel_rfl,fun k=>rfl,rfl,rfl,rfl⟩ (fun k X hX x=>rfl) (fun X hX => .inl fun _=>rfl) (by kernel_rfl) ?_) ?_
 ·intro k f hf X hX v w U hU eC;obtain ⟨n,hn⟩:∃ n:Nat,f.n=(n:Int):=⟨f.n.toNat,by have:=(wR f (mem_of_getElem? hf)).1;omega⟩
  have mA:n<c.length:=by have:=(wR f (mem_of_getElem? hf)).2;omega
  obtain ⟨l,hl⟩:∃ l,c[n]?=some l:=⟨c[n],getElem?_eq_getElem mA⟩
  have bU:=Lt.map_at hl;have lO:x9 c f.n=l.neg:=by unfold x9;rw [hn,Int.toNat_natCast,hl]
  have hcvf:f.cv = .row [.i n,f.a.cw,f.b.cw]:=by unfold Wy.cv;rw [hn]
  obtain ⟨o1,jU⟩:∃ o1,o1=(Z7 (x9 c) (src.take k) tgt).length:=⟨_,rfl⟩
  have kP:(Z7 (x9 c) (src.take (k+1)) tgt).length=o1+(mtN (x9 c) tgt f).length:=by unfold Z7 at jU |-;rw [a1F hf,length_append,jU]
  have wS:∀ i y,(mtN (x9 c) tgt f)[i]?=some y->(Z7 (x9 c) src tgt)[o1+i]?=some y:=fun i y hy=>by rw [jU];exact b0c hf hy
  show AWp _ _ _ _ _ _ ((10,AV.val f.cv)::(2,.val (.ptr (.lst (c.map Lt.cv))))::(3,.val (.ptr (.fn gt 0 ct)))::(4,.val (.ptr (E7 l0)))::obE (Ls (Z7 (x9 c) (src.take k) tgt).length));rw [<-jU,kP,hcvf];refine aR ?_;refine ne zw (nc zx ?_);refine ⟨rfl,fun w1 lT=>?_⟩;obtain ⟨b,hb⟩:∃ b,b=l.neg:=⟨_,rfl⟩
  have kL:(c.map Lt.cv)[n]?=some (.row [.b b,l.a.cw,l.b.cw]):=by rw [bU,hb]
  rw [<-hb] at lO;cases b with
  | true =>
   have e:mtN (x9 c) tgt f=[]:=by unfold mtN;rw [if_pos lO]
   rw [e];refine a1t (aB (aS (aS (aR ?_))));refine nc zI (nc zg (nc zh (nc (zt (j:=n) (H:=kL) (hz:=nV)) (nc zbG (nc zu ?_)))));refine aC rfl (fun _=>?_) (fun h=>by cases h);refine aE ?_;exact ⟨rfl,a7 ⟨rfl,rfl,rfl,trivial⟩⟩
  | false =>
   have e:mtN (x9 c) tgt f=mtF tgt f:=by unfold mtN;rw [if_neg (by rw [lO];simp)]
   rw [e] at wS |-;refine S6 (a4H (aS (aR ?_)));refine nc zI (nc zg (nc zh (nc (zt (j:=n) (H:=kL) (hz:=nV)) (nc zbG (nc zu ?_)))));refine aC rfl (fun h=>by cases h) (fun _=>aK ?_);refine ⟨rfl,?_⟩;refine a6Q (o9 5 rfl rfl rfl (s':=(3,AV.val (.ptr (.fn gt 0 ct)))::(4,.val (.ptr (E7 l0)))::obE (Ls o1)) ⟨rfl,rfl,rfl,rfl,rfl,trivial⟩ rfl rfl (by kernel_rfl)) ?_;refine a4H (aR ?_);refine nc zI ?_;refine ⟨rfl,?_⟩;refine S6 ?_;refine a6Q (a7 (s':=(17,AV.val (.fn gt 0 ct))::(4,.val (.ptr (E7 l0)))::(5,.val (.ptr (.row [.i n,f.a.cw,f.b.cw])))::obE (Ls o1)) ⟨rfl,rfl,rfl,rfl,rfl,rfl,trivial⟩) ?_;refine a6f (a2e (ps:=[18]) (fun j=>obE (Ls (o1+((tgt.take j).flatMap (mtI f)).length))) [(4,.val (.ptr (E7 l0))),(5,.val (.ptr (.row [.i n,f.a.cw,f.b.cw])))] (fun _ _=>[]) rfl het (ht fun j=>Ls (o1+((tgt.take j).flatMap (mtI f)).length)) rfl (fun _ _ _=>rfl) ⟨rfl,rfl,trivial⟩ rfl ⟨.inl ⟨_,rfl⟩,.inl ⟨_,rfl⟩,trivial⟩ ⟨rfl,rfl,rfl,trivial⟩ ⟨by kernel_rfl,by kernel_rfl,fun k=>rfl,rfl,rfl,rfl⟩ (fun k X hX x=>rfl) (fun X hX => .inl fun _=>rfl) (by kernel_rfl) ?_) ?_
   ·intro j i hi X hX v w U hU hon3;have his:=htgt i (mem_of_getElem? hi);obtain ⟨o2,iT⟩:∃ o2,o2=o1+((tgt.take j).flatMap (mtI f)).length:=⟨_,rfl⟩
    have sU:o1+((tgt.take (j+1)).flatMap (mtI f)).length=o2+(sy i.a []).length:=by rw [a1F hi,length_append,iT];unfold mtI;rw [length_map];omega
    have hat2:∀ q y,(sy i.a [])[q]?=some y->(Z7 (x9 c) src tgt)[o2+q]?=some ⟨f,i,y.1,y.2⟩:=fun q y hy=>by have:=wS (((tgt.take j).flatMap (mtI f)).length+q) ⟨f,i,y.1,y.2⟩ (b0c hi (by unfold mtI;rw [getElem?_map,hy];rfl));rw [iT,Nat.add_assoc];exact this
    show AWp _ _ _ _ _ _ ((18,AV.val (.row [.i i.n,i.a.cw,i.b.cw]))::(4,.val (.ptr (E7 l0)))::(5,.val (.ptr (.row [.i n,f.a.cw,f.b.cw])))::obE (Ls (o1+((tgt.take j).flatMap (mtI f)).length)));rw [<-iT,sU];refine aR ?_;refine ne zw (nc zx ?_);refine ⟨rfl,fun w2 wT=>?_⟩;refine S6 (a4H (aR ?_));refine nc zg (nc zh (nc (zk (z:=a5h w2 i.a)) ?_));refine ⟨rfl,?_⟩;refine a6Q (o9 6 rfl rfl rfl (s':=(21,AV.val (.fn 119 0 [.ptr i.a.cw]))::(4,.val (.ptr (E7 l0)))::(5,.val (.ptr (.row [.i n,f.a.cw,f.b.cw])))::obE (Ls o2)) ⟨rfl,rfl,rfl,rfl,rfl,rfl,trivial⟩ rfl rfl (by kernel_rfl)) ?_;refine S6 ?_;refine a6f (a2e (ps:=[22,23]) (fun q=>obE (Ls (o2+q))) [(4,.val (.ptr (E7 l0))),(5,.val (.ptr (.row [.i n,f.a.cw,f.b.cw]))),(6,.val (.ptr (.row [.i i.n,i.a.cw,i.b.cw])))] (fun X v=>[(11,.hdl v X)]) rfl sT (a8d i.a his fun q=>Ls (o2+q)) rfl (fun _ _ _=>rfl) ⟨rfl,rfl,rfl,trivial⟩ rfl ⟨.inl ⟨_,rfl⟩,.inl ⟨_,rfl⟩,.inl ⟨_,rfl⟩,trivial⟩ ⟨rfl,rfl,rfl,trivial⟩ ⟨by kernel_rfl,by kernel_rfl,fun k=>rfl,rfl,rfl,rfl⟩ (fun k X hX x=>by
      simp only [mem_cons,not_mem_nil,or_false] at hX;rcases hX with rfl | rfl<;>rfl) (fun X hX => .inr ⟨11,fun _=>rfl,by decide,by decide,by
      simp only [mem_cons,not_mem_nil,or_false] at hX;unfold RN;omega⟩) (by kernel_rfl) ?_) ?_
    ·intro q y hy X hX v w U hU hon5;have oY:b6Q Tryz.prog Wb Ub l0 X (obE (Ls (o2+q))++b9C X y.1) (fun v=>[.val (.row [.row [.i (n:Int),f.a.cw,f.b.cw],.row [.i i.n,i.a.cw,i.b.cw],.sc (M5 v y.1.length),y.2.cw])]) (obE (Ls (o2+q+1))++b9C X y.1):=by rw [<-hn];exact hY (o2+q) ⟨f,i,y.1,y.2⟩ (hat2 q y hy) X hX
     simp only [mem_cons,not_mem_nil,or_false] at hX;rcases hX with rfl | rfl
     ·refine aS (aR ?_);refine nc ze ?_;refine aR ?_;refine ne zw (nc zx ?_);refine ⟨rfl,fun w3 sV=>a1t ?_⟩;have bE:=(bE.trans lT).trans (wT.trans sV);refine AWp.wk ((a7 (s':=(7,AV.sl 400002 0 y.1.length 1)::(11,.hdl v 400002)::(8,.bp 8 0 [])::(100008,.bx y.2.cw)::(4,.val (.ptr (E7 l0)))::(5,.val (.ptr (.row [.i n,f.a.cw,f.b.cw])))::(6,.val (.ptr (.row [.i i.n,i.a.cw,i.b.cw])))::obX (Ls (o2+q)) 400002 y.1) ⟨rfl,rfl,rfl,rfl,rfl,rfl,rfl,rfl,rfl,rfl,rfl,trivial⟩).trans (a0f 7 400002 11 rfl rfl rfl)) ?_;refine aB (aS (I9 ?_))
      (refine nxY (AOp.y (E5 (gN rfl) rfl rfl rfl rfl rfl rfl rfl rfl rfl)) rfl ?_)
      (refine nxY (AOp.y (E5 (gN rfl) rfl rfl rfl rfl rfl rfl rfl rfl rfl)) rfl ?_)
      (refine nxY (AOp.y (E5 (gN rfl) rfl rfl rfl rfl rfl rfl rfl rfl rfl)) rfl ?_)
      (refine nxY (AOp.y (aM (gN rfl) rfl rfl rfl rfl rfl)) rfl ?_)
      (refine nxY (AOp.y (aL (gN rfl) rfl rfl rfl rfl rfl rfl rfl rfl rfl rfl rfl rfl)) rfl ?_)
      (refine nxY (AOp.y (a4m b9S (gN rfl) rfl rfl rfl rfl rfl rfl rfl rfl rfl rfl rfl)) rfl ?_)
      (refine nxY (a1x 11 (oY) bE (gN rfl) rfl rfl rfl rfl rfl rfl (.inl ⟨rfl,rfl⟩) (by repeat (first | exact trivial | refine ⟨rfl,?_⟩)) (by first | rfl | kernel_rfl) (by first | rfl | kernel_rfl) (by first | rfl | kernel_rfl) (i0 (by first | rfl | kernel_rfl)) rfl) rfl ?_)
      (refine nxY (AOp.y (a7U (gN rfl) rfl rfl rfl rfl rfl)) rfl ?_)
      refine aC rfl (fun hc=>by cases hc) (fun hc=>aK ?_);exact ⟨rfl,a7 ⟨rfl,rfl,rfl,rfl,trivial⟩⟩
     ·refine aS (aR ?_);refine nc ze ?_;refine aR ?_;refine ne zw (nc zx ?_);refine ⟨rfl,fun w3 sV=>a1t ?_⟩;have bE:=(bE.trans lT).trans (wT.trans sV);refine AWp.wk ((a7 (s':=(7,AV.sl 400003 0 y.1.length 1)::(11,.hdl v 400003)::(8,.bp 8 0 [])::(100008,.bx y.2.cw)::(4,.val (.ptr (E7 l0)))::(5,.val (.ptr (.row [.i n,f.a.cw,f.b.cw])))::(6,.val (.ptr (.row [.i i.n,i.a.cw,i.b.cw])))::obX (Ls (o2+q)) 400003 y.1) ⟨rfl,rfl,rfl,rfl,rfl,rfl,rfl,rfl,rfl,rfl,rfl,trivial⟩).trans (a0f 7 400003 11 rfl rfl rfl)) ?_;refine aB (aS (I9 ?_))
      (refine nxY (AOp.y (E5 (gN rfl) rfl rfl rfl rfl rfl rfl rfl rfl rfl)) rfl ?_)
      (refine nxY (AOp.y (E5 (gN rfl) rfl rfl rfl rfl rfl rfl rfl rfl rfl)) rfl ?_)
      (refine nxY (AOp.y (E5 (gN rfl) rfl rfl rfl rfl rfl rfl rfl rfl rfl)) rfl ?_)
      (refine nxY (AOp.y (aM (gN rfl) rfl rfl rfl rfl rfl)) rfl ?_)
      (refine nxY (AOp.y (aL (gN rfl) rfl rfl rfl rfl rfl rfl rfl rfl rfl rfl rfl rfl)) rfl ?_)
      (refine nxY (AOp.y (a4m b9S (gN rfl) rfl rfl rfl rfl rfl rfl rfl rfl rfl rfl rfl)) rfl ?_)
      (refine nxY (a1x 11 (oY) bE (gN rfl) rfl rfl rfl rfl rfl rfl (.inl ⟨rfl,rfl⟩) (by repeat (first | exact trivial | refine ⟨rfl,?_⟩)) (by first | rfl | kernel_rfl) (by first | rfl | kernel_rfl) (by first | rfl | kernel_rfl) (i0 (by first | rfl | kernel_rfl)) rfl) rfl ?_)
      (refine nxY (AOp.y (a7U (gN rfl) rfl rfl rfl rfl rfl)) rfl ?_)
      refine aC rfl (fun hc=>by cases hc) (fun hc=>aK ?_);exact ⟨rfl,a7 ⟨rfl,rfl,rfl,rfl,trivial⟩⟩
    ·rintro e s' ⟨rfl,m,rfl⟩;refine ⟨rfl,rfl,rfl,?_⟩;exact a7 ⟨rfl,rfl,rfl,trivial⟩
   ·rintro e s' ⟨rfl,m,rfl⟩;refine ⟨rfl,rfl,rfl,?_⟩;rw [take_length];exact a7 ⟨rfl,rfl,rfl,trivial⟩
 ·rintro e s' g ⟨rfl,rfl⟩;refine ⟨rfl,.inl rfl,obE (Ls (Z7 (x9 c) src tgt).length),?_,rfl,⟨rfl,rfl,rfl,trivial⟩,rfl⟩;rw [take_length];exact a7 ⟨rfl,rfl,rfl,rfl,trivial⟩
set_option maxHeartbeats 2000000 in
theorem a4W (F:List Int) (u:Tm) (hu:u.rng) (fQ:u.size<=90000000000):∀ (p:List Int) (lo:Nat) (t:Tm),F.drop lo=p->lo+p.length=F.length->F.length<=1000000->t.rng->t.size<=100000->q6 Tryz.prog 94 [(400002,AV.mrow 3 1 (F.map CV.i))] [.val t.cw,.sl 400002 lo p.length 1,.val u.cw] (.tup [((F9 u p t).getD ⟨0,[]⟩).cw,.b (F9 u p t).isSome]) [(400002,AV.mrow 3 1 (F.map CV.i))]:=by
 intro p
 induction p with
 | nil =>
  intro lo t hF rY _ _ _;refine k9 Tryz.func94 Tryz.ntmps94 rfl rfl rfl rfl rfl rfl ?_;intro w U hU;refine aS (aR ?_);refine nc zd (nc zd (nc zw (nc ze ?_)));refine aS (aS (aR ?_));refine nc zl (nc zX (nc zD ?_));refine aC rfl (fun hc=>?_) (fun hc=>by cases hc);refine aS (aR ?_);refine nc zj (nc (zk (z:=K3 w hu fQ)) (nc zx (nc ze ?_)));exact aT ⟨.inr rfl,_,Wk.refl _,rfl,rfl,trivial⟩
 | cons n p ih =>
  intro lo t hF rY hp hr yB;rw [length_cons] at rY;have jH:(F.map CV.i)[lo]?=some (.i n):=by
   rw [getElem?_map];have:F[lo]?=(F.drop lo)[0]?:=by rw [List.getElem?_drop,Nat.add_zero]
   rw [this,hF];rfl
  have hFm:(F.map CV.i).length=F.length:=length_map ..;have fE:F.drop (lo+1)=p:=by rw [show lo+1=1+lo by omega,Nat.add_comm,<-List.drop_drop,hF];rfl
  have sR:=n9 (n::p);refine k9 Tryz.func94 Tryz.ntmps94 rfl rfl rfl rfl rfl rfl ?_;intro w U hU;refine aS (aR ?_);refine nc zd (nc zd (nc zw (nc ze ?_)));refine aS (aS (aR ?_));refine nc zl (nc zX (nc zD ?_));refine aC rfl (fun hc=>?_) (fun hc=>aK ?_)
  ·simp at hc;omega
  clear hc;refine aS (aR ?_);refine nc zl (nc (zO (k:=lo)) (nc (zP (G:=jH)) (nc ze ?_)));refine aS (aS (aR ?_));refine nc zj (nc zl (nc (zk (z:=a2n w t n)) (nc zZ ?_)));refine aC rfl (fun hc=>?_) (fun hc=>aK ?_)
  ·have kZ:t.pa n=none:=by simpa using hc
   have e:F9 u (n::p) t=none:=by rw [F9,kZ];rfl
   rw [e];refine aS (aR ?_);refine nc zC (nc zx (nc ze ?_));exact aT ⟨.inr rfl,_,Wk.refl _,rfl,rfl,trivial⟩
  obtain ⟨s,hs⟩:∃ s,t.pa n=some s:=Option.isSome_iff_exists.1 (by simpa using hc);clear hc;have tD:0<=n:=by
   unfold Tm.pa at hs;split at hs
   ·assumption
   ·cases hs
  have hsym:=a7O hs;have hl:t.l[n.toNat]?=some s:=by have hs:=hs;unfold Tm.pa at hs;rw [if_pos tD,Tm.ps_of_sym (by omega)] at hs;exact hs
  have bU:=Tm.map_at hl;have kC:=Tm.size_all t.l;obtain ⟨m,hm⟩:∃ m:Nat,n=m:=⟨n.toNat,by omega⟩
  subst hm;rw [Int.toNat_natCast] at hl bU;have hml:m<t.l.length:=by
   rcases Nat.lt_or_ge m t.l.length with h | h
   ·exact h
   ·rw [getElem?_eq_none h] at hl;cases hl
  have hml':m<(t.l.map Tm.cv).length:=by rw [length_map];exact hml
  have iQ:=((Tm.rng_iff _).1 hr).2;have kX:∀ x∈t.l,x.rng/\x.size<=100000:=fun x hx=>⟨iQ x hx,by
   have h1:=Tm.size_eq t;rw [Tm.ps_of_sym (by omega)] at h1;have:=t7 Tm.flat hx;have h2:x.size=x.flat.length:=rfl;omega⟩
  have kD:t.l.length<=100000:=by
   have h1:=Tm.size_eq t;rw [Tm.ps_of_sym (by omega)] at h1;have:∀ l:List Tm,l.length<=(l.flatMap Tm.flat).length:=by
    intro l
    induction l with
    | nil=>exact Nat.le_refl _
    | cons x l ih =>
     rw [List.flatMap_cons,length_append,length_cons];have:0<x.flat.length:=by rw [Tm.flat_eq];simp
     omega
   have:=this t.l;omega
  have wU:=kX s (mem_of_getElem? hl);have h1l:1<=(List.map CV.i ((m:Int)::p)).length:=by simp
  have hP:=ih (lo+1) s fE (by omega) hp wU.1 wU.2;refine aS (aD (by kernel_rfl) (by kernel_rfl) ?_);refine nc zg (nc zh (nc zl (nc (zt (H:=by assumption) (hz:=by first | assumption | exact sZ rfl | exact Tm.size_all _ | exact Bd.size_all _ | exact n9 _ | exact bys_size _ | exact Lt.size_all _)) (nc zu (nc zl (nc (zY (j:=1)) (nc zj (nc (zW (z:=hP) (G:=i0 (by first | rfl | kernel_rfl))) (nc zl (nc zE (nc zE (nc zw (nc zx (nc ze ?_))))))))))))));refine ⟨by kernel_rfl,?_⟩;refine aS (aS (aR ?_));refine nc zl (nc zZ ?_);refine aC rfl (fun hc=>?_) (fun hc=>aK ?_)
  ·have kZ:F9 u p s=none:=by simpa using hc
   have e:F9 u ((m:Int)::p) t=none:=by rw [F9,hs,Option.bind_some,kZ];rfl
   rw [e];refine aS (aR ?_);refine nc zC (nc zx (nc ze ?_));exact aT ⟨.inr rfl,_,Wk.refl _,rfl,rfl,trivial⟩
  obtain ⟨v,hv⟩:∃ v,F9 u p s=some v:=Option.isSome_iff_exists.1 (by simpa using hc);clear hc;have e:F9 u ((m:Int)::p) t=some ⟨t.f,(t.l.take m).map Tm.strip++v::(t.l.drop (m+1)).map Tm.strip⟩:=by rw [F9,hs,Option.bind_some,hv];rfl
  rw [e,hv];have c1:=K1 w (t.l.take m) (by rw [length_take];omega) (fun x hx=>⟨(kX x (mem_of_mem_take hx)).1,by have:=(kX x (mem_of_mem_take hx)).2;omega⟩);have c2:=K1 w (t.l.drop (m+1)) (by rw [length_drop];omega) (fun x hx=>⟨(kX x (mem_of_mem_drop hx)).1,by have:=(kX x (mem_of_mem_drop hx)).2;omega⟩);rw [show (t.l.take m).map Tm.cv=(t.l.map Tm.cv).take m from List.map_take] at c1;rw [show (t.l.drop (m+1)).map Tm.cv=(t.l.map Tm.cv).drop (m+1) from List.map_drop] at c2;obtain ⟨A,hA⟩:∃ A,A=(t.l.take m).map Tm.strip:=⟨_,rfl⟩
  obtain ⟨B,hB⟩:∃ B,B=(t.l.drop (m+1)).map Tm.strip:=⟨_,rfl⟩
  have sS:A.length<=100000:=by rw [hA,length_map,length_take];omega
  have hBl:B.length<=100000:=by rw [hB,length_map,length_drop];omega
  rw [<-hA] at c1 |-;rw [<-hB] at c2 |-;have c3:AFun Tryz.prog w 130 [.lst [.lst (A.map Tm.cv),.lst [v.cw],.lst (B.map Tm.cv)]] (.val (.lst ((A++v::B).map Tm.cv))):=by have:=a3S w [A,[v],B] (by simp) (by simp;omega);simpa only [List.map_cons,List.map_nil,Tm.cv_eq,List.flatten_cons,List.flatten_nil,append_nil,List.cons_append,List.nil_append,List.singleton_append] using this
  refine AWp.wk (a7 (s':=[(3,.bp 3 0 []),(100003,.bx t.cw),(6,.bp 6 0 []),(100006,⟨5,.row [.i 0,.lst []],1,0,[1]⟩),(8,.val (.i m)),(9,.bp 9 0 []),(100009,.bx v.cw),(400002,AV.mrow 3 1 (F.map CV.i))]) ⟨rfl,rfl,rfl,rfl,rfl,rfl,rfl,rfl,trivial⟩) ?_;refine aS (aD (by kernel_rfl) (by kernel_rfl) ?_);refine nc zg (nc zh (nc zl (nc zbH (nc (zk (z:=c1)) (nc zj (nc zy (nc zg (nc zh (nc zl (nc zA (nc (zbu (lo:=m+1)) (nc (zk (z:=c2)) (nc zy (nc (zk (z:=c3)) (nc ze ?_)))))))))))))));refine ⟨by kernel_rfl,?_⟩;refine aS (aR ?_);refine nc zg (nc zh (nc zl (nc zC (nc zx (nc ze ?_)))));exact aT ⟨.inr rfl,_,Wk.refl _,rfl,rfl,trivial⟩
set_option maxHeartbeats 2000000 in
theorem a5c (F:List Int) (u:Tm) (hu:u.rng) (fQ:u.size<=90000000000):∀ (p:List Int) (lo:Nat) (t:Tm),F.drop lo=p->lo+p.length=F.length->F.length<=1000000->t.rng->t.size<=100000->q6 Tryz.prog 94 [(400003,AV.mrow 3 1 (F.map CV.i))] [.val t.cw,.sl 400003 lo p.length 1,.val u.cw] (.tup [((F9 u p t).getD ⟨0,[]⟩).cw,.b (F9 u p t).isSome]) [(400003,AV.mrow 3 1 (F.map CV.i))]:=by
 intro p
 induction p with
 | nil =>
  intro lo t hF rY _ _ _;refine k9 Tryz.func94 Tryz.ntmps94 rfl rfl rfl rfl rfl rfl ?_;intro w U hU;refine aS (aR ?_);refine nc zd (nc zd (nc zw (nc ze ?_)));refine aS (aS (aR ?_));refine nc zl (nc zX (nc zD ?_));refine aC rfl (fun hc=>?_) (fun hc=>by cases hc);refine aS (aR ?_);refine nc zj (nc (zk (z:=K3 w hu fQ)) (nc zx (nc ze ?_)));exact aT ⟨.inr rfl,_,Wk.refl _,rfl,rfl,trivial⟩
 | cons n p ih =>
  intro lo t hF rY hp hr yB;rw [length_cons] at rY;have jH:(F.map CV.i)[lo]?=some (.i n):=by
   rw [getElem?_map];have:F[lo]?=(F.drop lo)[0]?:=by rw [List.getElem?_drop,Nat.add_zero]
   rw [this,hF];rfl
  have hFm:(F.map CV.i).length=F.length:=length_map ..;have fE:F.drop (lo+1)=p:=by rw [show lo+1=1+lo by omega,Nat.add_comm,<-List.drop_drop,hF];rfl
  have sR:=n9 (n::p);refine k9 Tryz.func94 Tryz.ntmps94 rfl rfl rfl rfl rfl rfl ?_;intro w U hU;refine aS (aR ?_);refine nc zd (nc zd (nc zw (nc ze ?_)));refine aS (aS (aR ?_));refine nc zl (nc zX (nc zD ?_));refine aC rfl (fun hc=>?_) (fun hc=>aK ?_)
  ·simp at hc;omega
  clear hc;refine aS (aR ?_);refine nc zl (nc (zO (k:=lo)) (nc (zP (G:=jH)) (nc ze ?_)));refine aS (aS (aR ?_));refine nc zj (nc zl (nc (zk (z:=a2n w t n)) (nc zZ ?_)));refine aC rfl (fun hc=>?_) (fun hc=>aK ?_)
  ·have kZ:t.pa n=none:=by simpa using hc
   have e:F9 u (n::p) t=none:=by rw [F9,kZ];rfl
   rw [e];refine aS (aR ?_);refine nc zC (nc zx (nc ze ?_));exact aT ⟨.inr rfl,_,Wk.refl _,rfl,rfl,trivial⟩
  obtain ⟨s,hs⟩:∃ s,t.pa n=some s:=Option.isSome_iff_exists.1 (by simpa using hc);clear hc;have tD:0<=n:=by
   unfold Tm.pa at hs;split at hs
   ·assumption
   ·cases hs
  have hsym:=a7O hs;have hl:t.l[n.toNat]?=some s:=by have hs:=hs;unfold Tm.pa at hs;rw [if_pos tD,Tm.ps_of_sym (by omega)] at hs;exact hs
  have bU:=Tm.map_at hl;have kC:=Tm.size_all t.l;obtain ⟨m,hm⟩:∃ m:Nat,n=m:=⟨n.toNat,by omega⟩
  subst hm;rw [Int.toNat_natCast] at hl bU;have hml:m<t.l.length:=by
   rcases Nat.lt_or_ge m t.l.length with h | h
   ·exact h
   ·rw [getElem?_eq_none h] at hl;cases hl
  have hml':m<(t.l.map Tm.cv).length:=by rw [length_map];exact hml
  have iQ:=((Tm.rng_iff _).1 hr).2;have kX:∀ x∈t.l,x.rng/\x.size<=100000:=fun x hx=>⟨iQ x hx,by
   have h1:=Tm.size_eq t;rw [Tm.ps_of_sym (by omega)] at h1;have:=t7 Tm.flat hx;have h2:x.size=x.flat.length:=rfl;omega⟩
  have kD:t.l.length<=100000:=by
   have h1:=Tm.size_eq t;rw [Tm.ps_of_sym (by omega)] at h1;have:∀ l:List Tm,l.length<=(l.flatMap Tm.flat).length:=by
    intro l
    induction l with
    | nil=>exact Nat.le_refl _
    | cons x l ih =>
     rw [List.flatMap_cons,length_append,length_cons];have:0<x.flat.length:=by rw [Tm.flat_eq];simp
     omega
   have:=this t.l;omega
  have wU:=kX s (mem_of_getElem? hl);have h1l:1<=(List.map CV.i ((m:Int)::p)).length:=by simp
  have hP:=ih (lo+1) s fE (by omega) hp wU.1 wU.2;refine aS (aD (by kernel_rfl) (by kernel_rfl) ?_);refine nc zg (nc zh (nc zl (nc (zt (H:=by assumption) (hz:=by first | assumption | exact sZ rfl | exact Tm.size_all _ | exact Bd.size_all _ | exact n9 _ | exact bys_size _ | exact Lt.size_all _)) (nc zu (nc zl (nc (zY (j:=1)) (nc zj (nc (zW (z:=hP) (G:=i0 (by first | rfl | kernel_rfl))) (nc zl (nc zE (nc zE (nc zw (nc zx (nc ze ?_))))))))))))));refine ⟨by kernel_rfl,?_⟩;refine aS (aS (aR ?_));refine nc zl (nc zZ ?_);refine aC rfl (fun hc=>?_) (fun hc=>aK ?_)
  ·have kZ:F9 u p s=none:=by simpa using hc
   have e:F9 u ((m:Int)::p) t=none:=by rw [F9,hs,Option.bind_some,kZ];rfl
   rw [e];refine aS (aR ?_);refine nc zC (nc zx (nc ze ?_));exact aT ⟨.inr rfl,_,Wk.refl _,rfl,rfl,trivial⟩
  obtain ⟨v,hv⟩:∃ v,F9 u p s=some v:=Option.isSome_iff_exists.1 (by simpa using hc);clear hc;have e:F9 u ((m:Int)::p) t=some ⟨t.f,(t.l.take m).map Tm.strip++v::(t.l.drop (m+1)).map Tm.strip⟩:=by rw [F9,hs,Option.bind_some,hv];rfl
  rw [e,hv];have c1:=K1 w (t.l.take m) (by rw [length_take];omega) (fun x hx=>⟨(kX x (mem_of_mem_take hx)).1,by have:=(kX x (mem_of_mem_take hx)).2;omega⟩);have c2:=K1 w (t.l.drop (m+1)) (by rw [length_drop];omega) (fun x hx=>⟨(kX x (mem_of_mem_drop hx)).1,by have:=(kX x (mem_of_mem_drop hx)).2;omega⟩);rw [show (t.l.take m).map Tm.cv=(t.l.map Tm.cv).take m from List.map_take] at c1;rw [show (t.l.drop (m+1)).map Tm.cv=(t.l.map Tm.cv).drop (m+1) from List.map_drop] at c2;obtain ⟨A,hA⟩:∃ A,A=(t.l.take m).map Tm.strip:=⟨_,rfl⟩
  obtain ⟨B,hB⟩:∃ B,B=(t.l.drop (m+1)).map Tm.strip:=⟨_,rfl⟩
  have sS:A.length<=100000:=by rw [hA,length_map,length_take];omega
  have hBl:B.length<=100000:=by rw [hB,length_map,length_drop];omega
  rw [<-hA] at c1 |-;rw [<-hB] at c2 |-;have c3:AFun Tryz.prog w 130 [.lst [.lst (A.map Tm.cv),.lst [v.cw],.lst (B.map Tm.cv)]] (.val (.lst ((A++v::B).map Tm.cv))):=by have:=a3S w [A,[v],B] (by simp) (by simp;omega);simpa only [List.map_cons,List.map_nil,Tm.cv_eq,List.flatten_cons,List.flatten_nil,append_nil,List.cons_append,List.nil_append,List.singleton_append] using this
  refine AWp.wk (a7 (s':=[(3,.bp 3 0 []),(100003,.bx t.cw),(6,.bp 6 0 []),(100006,⟨5,.row [.i 0,.lst []],1,0,[1]⟩),(8,.val (.i m)),(9,.bp 9 0 []),(100009,.bx v.cw),(400003,AV.mrow 3 1 (F.map CV.i))]) ⟨rfl,rfl,rfl,rfl,rfl,rfl,rfl,rfl,trivial⟩) ?_;refine aS (aD (by kernel_rfl) (by kernel_rfl) ?_);refine nc zg (nc zh (nc zl (nc zbH (nc (zk (z:=c1)) (nc zj (nc zy (nc zg (nc zh (nc zl (nc zA (nc (zbu (lo:=m+1)) (nc (zk (z:=c2)) (nc zy (nc (zk (z:=c3)) (nc ze ?_)))))))))))))));refine ⟨by kernel_rfl,?_⟩;refine aS (aR ?_);refine nc zg (nc zh (nc zl (nc zC (nc zx (nc ze ?_)))));exact aT ⟨.inr rfl,_,Wk.refl _,rfl,rfl,trivial⟩
theorem a6y {P:Program} {f:FuncId} {X e z n:Nat} {l:List CV} {a1 a3:AV} {r:AV} {post:AS} (hX:(Nat.ble 200000 X&&Nat.blt X 450000)=true) (hn:n<=l.length) (h:q6 P f [(X,.mrow e z l)] [a1,.sl X 0 n z,a3] r post):a5n P f [(X,.mrow e z l)] X X (fun v _=>[a1,.val (.sc (M5 v n)),a3]) (fun _ _=>r) post:=by
 refine ⟨h.1,fun U w hv a0 vs hU gD hargs=>h.2 U w hv a0 vs hU gD ?_⟩;obtain ⟨u1,_,rfl,h1,u2,_,rfl,h2,h3⟩:=hargs;refine ⟨u1,_,rfl,h1,u2,_,rfl,?_,h3⟩;have kN:RN X:=rnF hX;have hu:u2=M5 (hv X) n:=(n8.1 h2.1).1;have kB:look [(X,AV.mrow e z l)] X=some (.mrow e z l):=lS _ _ _;obtain ⟨xs,f1,_⟩:=gD.mrow kB kN;obtain ⟨ao,cap,e1,e2,_⟩:=K9 f1;refine ⟨kN,?_⟩;show SlV (hv X) 0 n z u2;rw [hu,e1];exact ⟨ao,l.length,cap,ao,rfl,rfl,by omega,fun _=>rfl,fun _ g cY=>by rw [cY,Nat.zero_mul],Iff.rfl⟩
noncomputable def G3 (m:Mt) (c d:List Lt):List Lt:=(a1y c m.fr.n.toNat).map Lt.strip++((a1y d m.ti.n.toNat).map Lt.strip++[⟨x9 d m.ti.n,(F9 m.fr.b m.pl m.ti.a).getD ⟨0,[]⟩,m.ti.b⟩])
theorem a2l (W:World) (x y z:List Lt) (hl:x.length+y.length+z.length<=1000000):AFun Tryz.prog W 95 [.lst [.lst (x.map Lt.cv),.lst (y.map Lt.cv),.lst (z.map Lt.cv)]] (.val (.lst ((x++(y++z)).map Lt.cv))):=by
 have h:=a1X W [x,y,z] (by simp) (by simp;omega);have e:[x,y,z].flatten=x++(y++z):=by simp
 rw [e] at h;exact h
def Lt.rok (l:Lt):Prop:=(l.a.rng/\l.a.ok)/\l.b.rng/\l.b.ok
set_option maxHeartbeats 8000000 in
theorem a1u (c d:List Lt) (m:Mt) (dK:c.length<=1000) (hdl:d.length<=1000) (hc:∀ l∈c,l.rok) (hd:∀ l∈d,l.rok) (hi:0<=m.fr.n/\m.fr.n<c.length) (hj:0<=m.ti.n/\m.ti.n<d.length) (pR:m.fr.b.rng/\m.fr.b.size<=1000000) (mK:m.ti.a.rng/\m.ti.a.size<=100000) (lZ:m.pl.length<=1000000):a5n Tryz.prog 68 [(400002,AV.mrow 3 1 (m.pl.map CV.i))] 400002 400002 (fun v _=>[.val (m.cvH v),.val (.lst (c.map Lt.cv)),.val (.lst (d.map Lt.cv))]) (fun _ _ => .val (.lst ((G3 m c d).map Lt.cv))) [(400002,AV.mrow 3 1 (m.pl.map CV.i))]:=by
 obtain ⟨⟨fn,fa,fb⟩,⟨tn,ta,tb⟩,pl,pt⟩:=m;simp only at hi hj pR mK lZ;obtain ⟨i,rfl⟩:∃ i:Nat,fn=(i:Int):=⟨fn.toNat,by omega⟩
 obtain ⟨j,rfl⟩:∃ j:Nat,tn=(j:Int):=⟨tn.toNat,by omega⟩
 have cL:i<c.length:=by omega
 have iB:j<d.length:=by omega
 obtain ⟨l,hl⟩:∃ l,d[j]?=some l:=⟨d[j],getElem?_eq_getElem iB⟩
 have bU:=Lt.map_at hl;have hsd:=Lt.size_all d;have lO:x9 d (j:Int)=l.neg:=by unfold x9;rw [Int.toNat_natCast,hl]
 have hP:=a6y (by decide) (by simp) (a4W pl fb pR.1 (by omega) pl 0 ta rfl (by simp) lZ mK.1 mK.2);obtain ⟨q,hq⟩:∃ q,q=(F9 fb pl ta).getD ⟨0,[]⟩:=⟨_,rfl⟩
 obtain ⟨ok,kH⟩:∃ ok,ok=(F9 fb pl ta).isSome:=⟨_,rfl⟩
 rw [<-hq,<-kH] at hP;have gJ:=fun w=>J8 w c (i:Int) (by omega) hc;have sW:=fun w=>J8 w d (j:Int) (by omega) hd;rw [if_pos ⟨by omega,by omega⟩,Int.toNat_natCast] at gJ sW;obtain ⟨A,hA⟩:∃ A,A=(a1y c i).map Lt.strip:=⟨_,rfl⟩
 obtain ⟨B,hB⟩:∃ B,B=(a1y d j).map Lt.strip:=⟨_,rfl⟩
 have sS:A.length<=1000:=by have:=J1 cL;rw [hA,length_map];omega
 have hBl:B.length<=1000:=by have:=J1 iB;rw [hB,length_map];omega
 have hJ:G3 ⟨⟨(i:Int),fa,fb⟩,⟨(j:Int),ta,tb⟩,pl,pt⟩ c d=A++(B++[⟨l.neg,q,tb⟩]):=by unfold G3;simp only [Int.toNat_natCast];rw [lO,<-hA,<-hB,<-hq]
 rw [hJ];rw [<-hA] at gJ;rw [<-hB] at sW;have hC:=fun w=>a2l w A B [⟨l.neg,q,tb⟩] (by simp;omega);have fU:(pl.map CV.i).length=pl.length:=length_map ..;refine a4g 46 400002 47 400002 Tryz.func68 Tryz.ntmps68 rfl rfl (fun _ _=>rfl) rfl rfl rfl rfl rfl ?_;intro v v2 w U hU;refine aS (aR ?_);refine nc zd (nc ze ?_);refine aS (aR ?_);refine nc zg (nc zg (nc zh (nc zg (nc zh (nc zg (nc zg (nc zh (nc (zbz 46 47 (x:=hP) (hnb:=i0 (by first | rfl | kernel_rfl))) (nc zl (nc zE (nc zE (nc zw (nc zx (nc ze ?_))))))))))))));refine AWp.wk (a7 (s':=(1,AV.val (.lst (c.map Lt.cv)))::(2,.val (.lst (d.map Lt.cv)))::(3,.bp 3 0 [])::(100003,.bx (.row [.row [.i (i:Int),fa.cw,fb.cw],.row [.i (j:Int),ta.cw,tb.cw],.sc (M5 v pl.length),pt.cw]))::(7,.bp 7 0 [])::(100007,.bx q.cw)::[(400002,.mrow 3 1 (pl.map CV.i))]) ⟨rfl,rfl,rfl,rfl,rfl,rfl,rfl,trivial⟩) ?_;refine aS (aD (by kernel_rfl) (by kernel_rfl) ?_);refine nc zl (nc zg (nc zg (nc zh (nc (zt (j:=j) (H:=bU) (hz:=hsd)) (nc zbG (nc zu (nc zj (nc zg (nc zg (nc zh (nc (zbM b7o) (nc (zbN b7o) (nc zx ?_)))))))))))));refine ⟨by kernel_rfl,?_⟩;refine aS (aD (by kernel_rfl) (by kernel_rfl) ?_);refine nc zl (nc zg (nc zg (nc zh (nc (zk (z:=gJ w)) (nc zl (nc zg (nc zg (nc zh (nc (zk (z:=sW w)) (nc zj (nc zy (nc zy (nc (zk (z:=hC w)) (nc ze ?_))))))))))))));refine ⟨by kernel_rfl,?_⟩;exact aT ⟨.inr rfl,_,Wk.refl _,rfl,rfl,trivial⟩
set_option maxHeartbeats 8000000 in
theorem a1w (c d:List Lt) (m:Mt) (dK:c.length<=1000) (hdl:d.length<=1000) (hc:∀ l∈c,l.rok) (hd:∀ l∈d,l.rok) (hi:0<=m.fr.n/\m.fr.n<c.length) (hj:0<=m.ti.n/\m.ti.n<d.length) (pR:m.fr.b.rng/\m.fr.b.size<=1000000) (mK:m.ti.a.rng/\m.ti.a.size<=100000) (lZ:m.pl.length<=1000000):a5n Tryz.prog 68 [(400003,AV.mrow 3 1 (m.pl.map CV.i))] 400003 400003 (fun v _=>[.val (m.cvH v),.val (.lst (c.map Lt.cv)),.val (.lst (d.map Lt.cv))]) (fun _ _ => .val (.lst ((G3 m c d).map Lt.cv))) [(400003,AV.mrow 3 1 (m.pl.map CV.i))]:=by
 obtain ⟨⟨fn,fa,fb⟩,⟨tn,ta,tb⟩,pl,pt⟩:=m;simp only at hi hj pR mK lZ;obtain ⟨i,rfl⟩:∃ i:Nat,fn=(i:Int):=⟨fn.toNat,by omega⟩
 obtain ⟨j,rfl⟩:∃ j:Nat,tn=(j:Int):=⟨tn.toNat,by omega⟩
 have cL:i<c.length:=by omega
 have iB:j<d.length:=by omega
 obtain ⟨l,hl⟩:∃ l,d[j]?=some l:=⟨d[j],getElem?_eq_getElem iB⟩
 have bU:=Lt.map_at hl;have hsd:=Lt.size_all d;have lO:x9 d (j:Int)=l.neg:=by unfold x9;rw [Int.toNat_natCast,hl]
 have hP:=a6y (by decide) (by simp) (a5c pl fb pR.1 (by omega) pl 0 ta rfl (by simp) lZ mK.1 mK.2);obtain ⟨q,hq⟩:∃ q,q=(F9 fb pl ta).getD ⟨0,[]⟩:=⟨_,rfl⟩
 obtain ⟨ok,kH⟩:∃ ok,ok=(F9 fb pl ta).isSome:=⟨_,rfl⟩
 rw [<-hq,<-kH] at hP;have gJ:=fun w=>J8 w c (i:Int) (by omega) hc;have sW:=fun w=>J8 w d (j:Int) (by omega) hd;rw [if_pos ⟨by omega,by omega⟩,Int.toNat_natCast] at gJ sW;obtain ⟨A,hA⟩:∃ A,A=(a1y c i).map Lt.strip:=⟨_,rfl⟩
 obtain ⟨B,hB⟩:∃ B,B=(a1y d j).map Lt.strip:=⟨_,rfl⟩
 have sS:A.length<=1000:=by have:=J1 cL;rw [hA,length_map];omega
 have hBl:B.length<=1000:=by have:=J1 iB;rw [hB,length_map];omega
 have hJ:G3 ⟨⟨(i:Int),fa,fb⟩,⟨(j:Int),ta,tb⟩,pl,pt⟩ c d=A++(B++[⟨l.neg,q,tb⟩]):=by unfold G3;simp only [Int.toNat_natCast];rw [lO,<-hA,<-hB,<-hq]
 rw [hJ];rw [<-hA] at gJ;rw [<-hB] at sW;have hC:=fun w=>a2l w A B [⟨l.neg,q,tb⟩] (by simp;omega);have fU:(pl.map CV.i).length=pl.length:=length_map ..;refine a4g 46 400003 47 400003 Tryz.func68 Tryz.ntmps68 rfl rfl (fun _ _=>rfl) rfl rfl rfl rfl rfl ?_;intro v v2 w U hU;refine aS (aR ?_);refine nc zd (nc ze ?_);refine aS (aR ?_);refine nc zg (nc zg (nc zh (nc zg (nc zh (nc zg (nc zg (nc zh (nc (zbz 46 47 (x:=hP) (hnb:=i0 (by first | rfl | kernel_rfl))) (nc zl (nc zE (nc zE (nc zw (nc zx (nc ze ?_))))))))))))));refine AWp.wk (a7 (s':=(1,AV.val (.lst (c.map Lt.cv)))::(2,.val (.lst (d.map Lt.cv)))::(3,.bp 3 0 [])::(100003,.bx (.row [.row [.i (i:Int),fa.cw,fb.cw],.row [.i (j:Int),ta.cw,tb.cw],.sc (M5 v pl.length),pt.cw]))::(7,.bp 7 0 [])::(100007,.bx q.cw)::[(400003,.mrow 3 1 (pl.map CV.i))]) ⟨rfl,rfl,rfl,rfl,rfl,rfl,rfl,trivial⟩) ?_;refine aS (aD (by kernel_rfl) (by kernel_rfl) ?_);refine nc zl (nc zg (nc zg (nc zh (nc (zt (j:=j) (H:=bU) (hz:=hsd)) (nc zbG (nc zu (nc zj (nc zg (nc zg (nc zh (nc (zbM b7o) (nc (zbN b7o) (nc zx ?_)))))))))))));refine ⟨by kernel_rfl,?_⟩;refine aS (aD (by kernel_rfl) (by kernel_rfl) ?_);refine nc zl (nc zg (nc zg (nc zh (nc (zk (z:=gJ w)) (nc zl (nc zg (nc zg (nc zh (nc (zk (z:=sW w)) (nc zj (nc zy (nc zy (nc (zk (z:=hC w)) (nc ze ?_))))))))))))));refine ⟨by kernel_rfl,?_⟩;exact aT ⟨.inr rfl,_,Wk.refl _,rfl,rfl,trivial⟩
noncomputable def a2Y (ld:Tm->Tm->Bool) (c d:List Lt) (m:Mt):Option (List Lt):=
 if (mgT m.fr.a m.pt).2=true/\ld (a9 (mgS m.fr.a m.pt) m.fr.a) (a9 (mgS m.fr.a m.pt) m.fr.b)=true/\ld (a9 (mgS m.fr.a m.pt) m.ti.a) (a9 (mgS m.fr.a m.pt) m.ti.b)=true then some ((G3 m c d).map (Lt.rep (mgS m.fr.a m.pt))) else none
noncomputable def a5C (ld:Tm->Tm->Bool) (c d:List Lt) (ms:List Mt):List (List Lt):=ms.filterMap (a2Y ld c d)
theorem b3s {ld:Tm->Tm->Bool} {c d:List Lt} {ms:List Mt} {k:Nat} {m:Mt} (h:ms[k]?=some m):a5C ld c d (ms.take (k+1))=a5C ld c d (ms.take k)++(a2Y ld c d m).toList:=by
 unfold a5C;rw [take_add_one,h,List.filterMap_append];congr 1
structure b9L (fd:Nat) (ld:Tm->Tm->Bool) (c d:List Lt) (m:Mt):Prop where
 un:∀ w,AFun Tryz.prog w 65 [m.fr.a.cw,m.pt.cw] (.tup [.lst ((mgT m.fr.a m.pt).1.map Bd.cv),.b (mgT m.fr.a m.pt).2])
 ap:∀ w t,t=m.fr.a\/t=m.fr.b\/t=m.ti.a\/t=m.ti.b->AFun Tryz.prog w 66 [.lst ((mgT m.fr.a m.pt).1.map Bd.cv),t.cw] (.val (a9 (mgS m.fr.a m.pt) t).cw)
 ld1:∀ w,AFun Tryz.prog w fd [(a9 (mgS m.fr.a m.pt) m.fr.a).cw,(a9 (mgS m.fr.a m.pt) m.fr.b).cw] (.val (.b (ld (a9 (mgS m.fr.a m.pt) m.fr.a) (a9 (mgS m.fr.a m.pt) m.fr.b))))
 ld2:∀ w,AFun Tryz.prog w fd [(a9 (mgS m.fr.a m.pt) m.ti.a).cw,(a9 (mgS m.fr.a m.pt) m.ti.b).cw] (.val (.b (ld (a9 (mgS m.fr.a m.pt) m.ti.a) (a9 (mgS m.fr.a m.pt) m.ti.b))))
 ca:∀ w,AFun Tryz.prog w 67 [.lst ((mgT m.fr.a m.pt).1.map Bd.cv),.lst ((G3 m c d).map Lt.cv)] (.val (.lst (((G3 m c d).map (Lt.rep (mgS m.fr.a m.pt))).map Lt.cv)))
 i:0<=m.fr.n/\m.fr.n<c.length
 j:0<=m.ti.n/\m.ti.n<d.length
 fb:m.fr.b.rng/\m.fr.b.size<=1000000
 ta:m.ti.a.rng/\m.ti.a.size<=100000
 pl:m.pl.length<=1000000
set_option maxHeartbeats 16000000 in
theorem a5g (W:World) (fl fd:Nat) (ld:Tm->Tm->Bool) (c d d':List Lt) (L M:List Int) (tp:Int) (htp : -1<=tp/\tp<=4000000000000000000) (dK:c.length<=1000) (hdl:d'.length<=1000) (hc:∀ l∈c,l.rok) (hd:∀ l∈d',l.rok)
  (hTop:∀ w,AFun Tryz.prog w 63 [.lst (c.map Lt.cv)] (.val (.i tp))) (hRen:∀ w,AFun Tryz.prog w 18 [.lst (d.map Lt.cv),.i (tp+1)] (.val (.lst (d'.map Lt.cv))))
  (cH:∀ w,AFun Tryz.prog w fl [.lst (c.map Lt.cv)] (.val (.lst (L.map CV.i)))) (hlM:∀ w,AFun Tryz.prog w fl [.lst (d'.map Lt.cv)] (.val (.lst (M.map CV.i))))
  (hL:∀ n∈L,0<=n/\n<c.length) (hM:∀ n∈M,0<=n/\n<d'.length) (mI:L.length<=1000000) (hMl:M.length<=1000000)
  (hlw:∀ w,∀ l,l∈c\/l∈d'->AFun Tryz.prog w fd [l.a.cw,l.b.cw] (.val (.b (ld l.a l.b)))/\AFun Tryz.prog w fd [l.b.cw,l.a.cw] (.val (.b (ld l.b l.a)))) (kC:∀ w∈F4 ld d' M,w.a.size<=1000000) (xY:∀ w∈F4 ld c L,0<=w.n/\w.n<c.length)
  (hml:(Z7 (x9 c) (F4 ld c L) (F4 ld d' M)).length<=1000000) (hfo:∀ m∈Z7 (x9 c) (F4 ld c L) (F4 ld d' M),b9L fd ld c d' m) :
  AFun Tryz.prog W 39 [ruC fl fd,.lst (c.map Lt.cv),.lst (d.map Lt.cv)] (.val (.lst ((a5C ld c d' (Z7 (x9 c) (F4 ld c L) (F4 ld d' M))).map clC))):=by
 have xL:a2G Tryz.prog 118:=x0 Tryz.func118 rfl rfl;have rL:a2G Tryz.prog 90:=x0 Tryz.func90 rfl rfl;have hh:=fun Ls=>a6B c 118 118 _ _ (F4 ld c L) (F4 ld d' M) xL xL xY kC (a0H fl fd ld c (by omega) L hL mI (fun w l hl=>hlw w l (.inl hl))) (a0H fl fd ld d' (by omega) M hM hMl (fun w l hl=>hlw w l (.inr hl))) Ls;obtain ⟨ms,hms⟩:∃ ms,ms=Z7 (x9 c) (F4 ld c L) (F4 ld d' M):=⟨_,rfl⟩
 rw [<-hms] at hh hml hfo |-;refine b5k Tryz.func39 Tryz.ntmps39 rfl rfl rfl rfl ?_;intro w U hW;have hme:=fun w=>b0S w fl fd c d' L M cH hlM;obtain ⟨caps,eA⟩:∃ caps,caps=[CV.ptr (.fn 118 0 [.ptr (.lst (L.map CV.i)),.ptr (.lst (c.map Lt.cv)),.ptr (ruC fl fd)]),.ptr (.lst (c.map Lt.cv)),.ptr (.fn 118 0 [.ptr (.lst (M.map CV.i)),.ptr (.lst (d'.map Lt.cv)),.ptr (ruC fl fd)])]:=⟨_,rfl⟩
 rw [<-eA] at hme hh;refine G8 (aR ?_);refine nc zd (nc zd (nc zd (nc ze ?_)));refine ⟨rfl,?_⟩;refine G8 (aD (by kernel_rfl) (by kernel_rfl) ?_);refine nc zj (nc zj (nc (zk (z:=hTop w)) (nc zA (nc (zk (z:=hRen w)) (nc zx ?_)))));refine ⟨by kernel_rfl,?_⟩;refine ⟨rfl,?_⟩;refine G8 (aR ?_);refine nc (zbj 350001 (C:=fun v h=>by first | (rw [hW.1] at h;cases h) | (have h2:=hU _ v h;cases h2))) ?_;refine ⟨rfl,?_⟩;refine a1n ((o9 3 rfl rfl rfl (s':=[(4,.bp 4 0 []),(100004,.bx (.lst (c.map Lt.cv))),(5,.bp 5 0 []),(100005,.bx (.lst (d'.map Lt.cv))),(7,.bp 350001 0 []),(450001,.obj),(35500100,⟨0,.lst [],1,0,[]⟩)]) ⟨rfl,rfl,rfl,rfl,rfl,rfl,rfl,trivial⟩ rfl rfl rfl).trans ((o9 4 rfl rfl rfl (s':=[(3,.val (.ptr (ruC fl fd))),(5,.bp 5 0 []),(100005,.bx (.lst (d'.map Lt.cv))),(7,.bp 350001 0 []),(450001,.obj),(35500100,⟨0,.lst [],1,0,[]⟩)]) ⟨rfl,rfl,rfl,rfl,rfl,rfl,trivial⟩ rfl rfl rfl).trans ((o9 5 rfl rfl rfl (s':=[(3,.val (.ptr (ruC fl fd))),(4,.val (.ptr (.lst (c.map Lt.cv)))),(7,.bp 350001 0 []),(450001,.obj),(35500100,⟨0,.lst [],1,0,[]⟩)]) ⟨rfl,rfl,rfl,rfl,rfl,trivial⟩ rfl rfl rfl).trans (b8o 35500100 300005 26 1 rfl rfl rfl rfl rfl rfl)))) ?_;refine a6p (G8 (aR ?_));refine nc zI (nc zI (nc zI (nc (zk (z:=hme w)) ?_)));refine ⟨rfl,?_⟩;refine a0o ?_;refine a1n (a7 (s':=(21,AV.val (.fn 90 0 caps))::(3,.val (.ptr (ruC fl fd)))::(4,.val (.ptr (.lst (c.map Lt.cv))))::(5,.val (.ptr (.lst (d'.map Lt.cv))))::(7,.bp 350001 0 [])::obE []) ⟨rfl,rfl,rfl,rfl,rfl,rfl,rfl,rfl,trivial⟩) ?_;refine a1V (a2f (ps:=[22]) (fun k=>obE (a5C ld c d' (ms.take k))) [(3,.val (.ptr (ruC fl fd))),(4,.val (.ptr (.lst (c.map Lt.cv)))),(5,.val (.ptr (.lst (d'.map Lt.cv)))),(7,.bp 350001 0 [])] (fun X v=>[(71,.hdl v X)]) rfl rL (hh fun k=>a5C ld c d' (ms.take k)) rfl (fun _ _ _=>rfl) ⟨rfl,rfl,rfl,rfl,trivial⟩ rfl ⟨.inl ⟨_,rfl⟩,.inl ⟨_,rfl⟩,.inl ⟨_,rfl⟩,.inr rfl,trivial⟩ ⟨rfl,rfl,rfl,trivial⟩ ⟨by kernel_rfl,by kernel_rfl,fun k=>rfl,rfl,rfl,rfl⟩ (fun k X hX x=>by
   simp only [mem_cons,not_mem_nil,or_false] at hX;rcases hX with rfl | rfl<;>rfl) (fun X hX => .inr ⟨71,fun _=>rfl,by decide,by decide,by
   simp only [mem_cons,not_mem_nil,or_false] at hX;unfold RN;omega⟩) (by kernel_rfl) ?_) ?_
 ·intro k m hm X hX v w U hU eC;have hF:=hfo m (mem_of_getElem? hm);have xD:k<ms.length:=by
   rcases Nat.lt_or_ge k ms.length with h | h
   ·exact h
   ·rw [getElem?_eq_none h] at hm;cases hm
  obtain ⟨L0,hL0⟩:∃ L0,L0=a5C ld c d' (ms.take k):=⟨_,rfl⟩
  have hL0l:L0.length<=1000000:=by have h1:=List.length_filterMap_le (a2Y ld c d') (ms.take k);rw [length_take] at h1;rw [hL0];show (a5C ld c d' (ms.take k)).length<=_;unfold a5C;omega
  have hszc:=a9e L0;have wV:(L0.map clC).length=L0.length:=length_map ..;rw [b3s hm,<-hL0];obtain ⟨ok,kH⟩:∃ ok,ok=(mgT m.fr.a m.pt).2:=⟨_,rfl⟩
  obtain ⟨g1,tL⟩:∃ g,g=ld (a9 (mgS m.fr.a m.pt) m.fr.a) (a9 (mgS m.fr.a m.pt) m.fr.b):=⟨_,rfl⟩
  obtain ⟨g2,mD⟩:∃ g,g=ld (a9 (mgS m.fr.a m.pt) m.ti.a) (a9 (mgS m.fr.a m.pt) m.ti.b):=⟨_,rfl⟩
  have pZ:a2Y ld c d' m=if ok=true/\g1=true/\g2=true then some ((G3 m c d').map (Lt.rep (mgS m.fr.a m.pt))) else none:=by unfold a2Y;rw [kH,tL,mD]
  have kZ:(ok=false\/g1=false\/g2=false)->a2Y ld c d' m=none:=fun h=>by
   rw [pZ,if_neg];rintro ⟨h1,h2,h3⟩;rcases h with h | h | h
   ·rw [h1] at h;cases h
   ·rw [h2] at h;cases h
   ·rw [h3] at h;cases h
  have pY:ok=true->g1=true->g2=true->a2Y ld c d' m=some ((G3 m c d').map (Lt.rep (mgS m.fr.a m.pt))):=fun h1 h2 h3=>by rw [pZ,if_pos ⟨h1,h2,h3⟩]
  have gA:∀ w,AFunV Tryz.prog w (.fn fd 0 []) [(a9 (mgS m.fr.a m.pt) m.fr.a).cw,(a9 (mgS m.fr.a m.pt) m.fr.b).cw] (.val (.b g1)):=fun w=>⟨fd,0,[],rfl,by rw [tL];exact hF.ld1 w⟩
  have gI:∀ w,AFunV Tryz.prog w (.fn fd 0 []) [(a9 (mgS m.fr.a m.pt) m.ti.a).cw,(a9 (mgS m.fr.a m.pt) m.ti.b).cw] (.val (.b g2)):=fun w=>⟨fd,0,[],rfl,by rw [mD];exact hF.ld2 w⟩
  simp only [mem_cons,not_mem_nil,or_false] at hX;rcases hX with rfl | rfl
  ·have hJn:=a1u c d' m dK hdl hc hd hF.i hF.j hF.fb hF.ta hF.pl;show AWp _ _ _ _ _ _ ((22,AV.val (.row [.row [.i m.fr.n,m.fr.a.cw,m.fr.b.cw],.row [.i m.ti.n,m.ti.a.cw,m.ti.b.cw],.sc (M5 v m.pl.length),m.pt.cw]))::(71,.hdl v 400002)::(3,.val (.ptr (ruC fl fd)))::(4,.val (.ptr (.lst (c.map Lt.cv))))::(5,.val (.ptr (.lst (d'.map Lt.cv))))::(7,.bp 350001 0 [])::obX L0 400002 m.pl);refine aR ?_;refine ne (zbN b9S) (nc zx ?_);refine ⟨rfl,fun w1 lT=>a1t ?_⟩;refine AWp.wk (a7 (s':=(8,AV.bp 8 0 [])::(100008,.bx (.row [.row [.i m.fr.n,m.fr.a.cw,m.fr.b.cw],.row [.i m.ti.n,m.ti.a.cw,m.ti.b.cw],.sc (M5 v m.pl.length),m.pt.cw]))::(3,.val (.ptr (ruC fl fd)))::(4,.val (.ptr (.lst (c.map Lt.cv))))::(5,.val (.ptr (.lst (d'.map Lt.cv))))::(7,.bp 350001 0 [])::(71,.hdl v 400002)::obX L0 400002 m.pl) ⟨rfl,rfl,rfl,rfl,rfl,rfl,rfl,rfl,rfl,rfl,rfl,trivial⟩) ?_;refine aB (aS (aR ?_));refine nc zg (nc zg (nc zh (nc zg (nc zh (nc (zk (z:=hF.un w1)) (nc zl (nc zE (nc zE (nc ze (nc ze ?_))))))))));refine AWp.wk (a7 (s':=(9,AV.val (.lst ((mgT m.fr.a m.pt).1.map Bd.cv)))::(10,.val (.b ok))::(8,AV.bp 8 0 [])::(100008,.bx (.row [.row [.i m.fr.n,m.fr.a.cw,m.fr.b.cw],.row [.i m.ti.n,m.ti.a.cw,m.ti.b.cw],.sc (M5 v m.pl.length),m.pt.cw]))::(3,.val (.ptr (ruC fl fd)))::(4,.val (.ptr (.lst (c.map Lt.cv))))::(5,.val (.ptr (.lst (d'.map Lt.cv))))::(7,.bp 350001 0 [])::(71,.hdl v 400002)::obX L0 400002 m.pl) ⟨rfl,by rw [kH];rfl,rfl,rfl,rfl,rfl,rfl,rfl,rfl,rfl,rfl,rfl,rfl,trivial⟩) ?_;cases ok with
   | false =>
    rw [kZ (.inl rfl)];refine aS (aS (aR ?_));refine nc zl (nc zZ ?_);refine aC rfl (fun _=>?_) (fun h=>by cases h);refine aE ?_;refine ⟨rfl,a7 ⟨rfl,?_,?_,rfl,trivial⟩⟩
    ·show some (AV.sl _ _ _ _)=some (AV.sl _ _ _ _);simp
    ·show some (AV.mrow _ _ _)=some (AV.mrow _ _ _);simp
   | true =>
    refine aS (aS (aR ?_));refine nc zl (nc zZ ?_);refine aC rfl (fun h=>by cases h) (fun _=>aK ?_);refine aS (aD (by kernel_rfl) (by kernel_rfl) ?_);refine nc zg (nc zh (nc zg (nc zh (ne (zbN [.i 0,.row [.i 0,.lst []],.row [.i 0,.lst []]]) (ne (zbN [.i 0,.row [.i 0,.lst []],.row [.i 0,.lst []]]) (nc zx (nc zx ?_)))))));refine ⟨by kernel_rfl,?_⟩;refine AWp.wk ((a7 (s':=(9,AV.val (.lst ((mgT m.fr.a m.pt).1.map Bd.cv)))::(11,.bp 11 0 [])::(100011,.bx (.row [.i m.fr.n,m.fr.a.cw,m.fr.b.cw]))::(12,.bp 12 0 [])::(100012,.bx (.row [.i m.ti.n,m.ti.a.cw,m.ti.b.cw]))::(8,AV.bp 8 0 [])::(100008,.bx (.row [.row [.i m.fr.n,m.fr.a.cw,m.fr.b.cw],.row [.i m.ti.n,m.ti.a.cw,m.ti.b.cw],.sc (M5 v m.pl.length),m.pt.cw]))::(3,.val (.ptr (ruC fl fd)))::(4,.val (.ptr (.lst (c.map Lt.cv))))::(5,.val (.ptr (.lst (d'.map Lt.cv))))::(7,.bp 350001 0 [])::(71,.hdl v 400002)::obX L0 400002 m.pl) ⟨rfl,rfl,rfl,rfl,rfl,rfl,rfl,rfl,rfl,rfl,rfl,rfl,rfl,rfl,rfl,rfl,trivial⟩).trans (a4D 3 rfl rfl)) ?_;cases g1 with
    | false =>
     rw [kZ (.inr (.inl rfl))];refine aS (aD (by kernel_rfl) (by kernel_rfl) ?_);refine nc zbG (nc zu (nc zl (nc zg (nc zh (nc (zk (z:=hF.ap w1 _ (.inl rfl))) (nc zl (nc zg (nc zh (nc (zk (z:=hF.ap w1 _ (.inr (.inl rfl)))) (nc (zH (E:=gA w1)) (nc zl (nc zq (nc zq (nc zq (nc zq (nc zq (nc zq (nc zq (nc zq (nc zq (nc zq (nc zq (nc zr ?_)))))))))))))))))))))));refine ⟨by kernel_rfl,?_⟩;refine aC rfl (fun h=>by cases h) (fun _=>aK ?_);refine ⟨rfl,a7 ⟨rfl,?_,?_,rfl,trivial⟩⟩
     ·show some (AV.sl _ _ _ _)=some (AV.sl _ _ _ _);simp
     ·show some (AV.mrow _ _ _)=some (AV.mrow _ _ _);simp
    | true =>
     refine aS (aD (by kernel_rfl) (by kernel_rfl) ?_);refine nc zbG (nc zu (nc zl (nc zg (nc zh (nc (zk (z:=hF.ap w1 _ (.inl rfl))) (nc zl (nc zg (nc zh (nc (zk (z:=hF.ap w1 _ (.inr (.inl rfl)))) (nc (zH (E:=gA w1)) (nc zl (nc (zbG (r:=gb)) (nc (zu (r:=gb)) (nc (zl (p:=gb)) (nc (zg (r:=gb)) (nc (zh (r:=gb)) (nc (zk (p:=gb) (z:=hF.ap w1 _ (.inr (.inr (.inl rfl))))) (nc (zl (p:=gb)) (nc (zg (r:=gb)) (nc (zh (r:=gb)) (nc (zk (p:=gb) (z:=hF.ap w1 _ (.inr (.inr (.inr rfl))))) (nc (zH (t:=gb) (E:=gI w1)) (nc zp ?_)))))))))))))))))))))));refine ⟨by kernel_rfl,?_⟩;cases g2 with
     | false =>
      rw [kZ (.inr (.inr rfl))];refine aC rfl (fun h=>by cases h) (fun _=>aK ?_);refine ⟨rfl,a7 ⟨rfl,?_,?_,rfl,trivial⟩⟩
      ·show some (AV.sl _ _ _ _)=some (AV.sl _ _ _ _);simp
      ·show some (AV.mrow _ _ _)=some (AV.mrow _ _ _);simp
     | true =>
      rw [pY rfl rfl rfl];have wW:=hF.ca w1;obtain ⟨z,hz⟩:∃ z,z=(G3 m c d').map (Lt.rep (mgS m.fr.a m.pt)):=⟨_,rfl⟩
      rw [<-hz] at wW |-;refine aC rfl (fun _=>?_) (fun h=>by cases h);refine AWp.wk (a7 (s':=(9,AV.val (.lst ((mgT m.fr.a m.pt).1.map Bd.cv)))::(8,AV.bp 8 0 [])::(100008,.bx (.row [.row [.i m.fr.n,m.fr.a.cw,m.fr.b.cw],.row [.i m.ti.n,m.ti.a.cw,m.ti.b.cw],.sc (M5 v m.pl.length),m.pt.cw]))::(4,.val (.ptr (.lst (c.map Lt.cv))))::(5,.val (.ptr (.lst (d'.map Lt.cv))))::(7,.bp 350001 0 [])::(71,.hdl v 400002)::obX L0 400002 m.pl) ⟨rfl,rfl,rfl,rfl,rfl,rfl,rfl,rfl,rfl,rfl,rfl,trivial⟩) ?_;refine aD (by kernel_rfl) (by kernel_rfl) ?_;refine nc z7 (nc zl (nc zj (nc zI (nc zI (nc (zbz 71 71 (x:=hJn) (hnb:=i0 (by first | rfl | kernel_rfl))) (nc (zk (z:=wW)) (nc zy (ne (zba 300006) (nc zbb ?_)))))))));refine ⟨by kernel_rfl,?_⟩;refine ⟨rfl,(a7 (s':=[(450001,.obj),(35500100,.sl 300006 0 (L0++[z]).length 1),(300006,.mrow 26 1 ((L0++[z]).map clC)),(400002,.mrow 3 1 (m.pl.map CV.i))]) ⟨rfl,?_,?_,rfl,trivial⟩).trans (A8 300006 300005 rfl rfl (by kernel_rfl) (by kernel_rfl))⟩
      ·show some (AV.sl _ _ _ _)=some (AV.sl _ _ _ _);rw [length_append,<-wV];rfl
      ·show some (AV.mrow _ _ _)=some (AV.mrow _ _ _);rw [map_append (f:=clC)];rfl
  ·have hJn:=a1w c d' m dK hdl hc hd hF.i hF.j hF.fb hF.ta hF.pl;show AWp _ _ _ _ _ _ ((22,AV.val (.row [.row [.i m.fr.n,m.fr.a.cw,m.fr.b.cw],.row [.i m.ti.n,m.ti.a.cw,m.ti.b.cw],.sc (M5 v m.pl.length),m.pt.cw]))::(71,.hdl v 400003)::(3,.val (.ptr (ruC fl fd)))::(4,.val (.ptr (.lst (c.map Lt.cv))))::(5,.val (.ptr (.lst (d'.map Lt.cv))))::(7,.bp 350001 0 [])::obX L0 400003 m.pl);refine aR ?_;refine ne (zbN b9S) (nc zx ?_);refine ⟨rfl,fun w1 lT=>a1t ?_⟩;refine AWp.wk (a7 (s':=(8,AV.bp 8 0 [])::(100008,.bx (.row [.row [.i m.fr.n,m.fr.a.cw,m.fr.b.cw],.row [.i m.ti.n,m.ti.a.cw,m.ti.b.cw],.sc (M5 v m.pl.length),m.pt.cw]))::(3,.val (.ptr (ruC fl fd)))::(4,.val (.ptr (.lst (c.map Lt.cv))))::(5,.val (.ptr (.lst (d'.map Lt.cv))))::(7,.bp 350001 0 [])::(71,.hdl v 400003)::obX L0 400003 m.pl) ⟨rfl,rfl,rfl,rfl,rfl,rfl,rfl,rfl,rfl,rfl,rfl,trivial⟩) ?_;refine aB (aS (aR ?_));refine nc zg (nc zg (nc zh (nc zg (nc zh (nc (zk (z:=hF.un w1)) (nc zl (nc zE (nc zE (nc ze (nc ze ?_))))))))));refine AWp.wk (a7 (s':=(9,AV.val (.lst ((mgT m.fr.a m.pt).1.map Bd.cv)))::(10,.val (.b ok))::(8,AV.bp 8 0 [])::(100008,.bx (.row [.row [.i m.fr.n,m.fr.a.cw,m.fr.b.cw],.row [.i m.ti.n,m.ti.a.cw,m.ti.b.cw],.sc (M5 v m.pl.length),m.pt.cw]))::(3,.val (.ptr (ruC fl fd)))::(4,.val (.ptr (.lst (c.map Lt.cv))))::(5,.val (.ptr (.lst (d'.map Lt.cv))))::(7,.bp 350001 0 [])::(71,.hdl v 400003)::obX L0 400003 m.pl) ⟨rfl,by rw [kH];rfl,rfl,rfl,rfl,rfl,rfl,rfl,rfl,rfl,rfl,rfl,rfl,trivial⟩) ?_;cases ok with
   | false =>
    rw [kZ (.inl rfl)];refine aS (aS (aR ?_));refine nc zl (nc zZ ?_);refine aC rfl (fun _=>?_) (fun h=>by cases h);refine aE ?_;refine ⟨rfl,a7 ⟨rfl,?_,?_,rfl,trivial⟩⟩
    ·show some (AV.sl _ _ _ _)=some (AV.sl _ _ _ _);simp
    ·show some (AV.mrow _ _ _)=some (AV.mrow _ _ _);simp
   | true =>
    refine aS (aS (aR ?_));refine nc zl (nc zZ ?_);refine aC rfl (fun h=>by cases h) (fun _=>aK ?_);refine aS (aD (by kernel_rfl) (by kernel_rfl) ?_);refine nc zg (nc zh (nc zg (nc zh (ne (zbN [.i 0,.row [.i 0,.lst []],.row [.i 0,.lst []]]) (ne (zbN [.i 0,.row [.i 0,.lst []],.row [.i 0,.lst []]]) (nc zx (nc zx ?_)))))));refine ⟨by kernel_rfl,?_⟩;refine AWp.wk ((a7 (s':=(9,AV.val (.lst ((mgT m.fr.a m.pt).1.map Bd.cv)))::(11,.bp 11 0 [])::(100011,.bx (.row [.i m.fr.n,m.fr.a.cw,m.fr.b.cw]))::(12,.bp 12 0 [])::(100012,.bx (.row [.i m.ti.n,m.ti.a.cw,m.ti.b.cw]))::(8,AV.bp 8 0 [])::(100008,.bx (.row [.row [.i m.fr.n,m.fr.a.cw,m.fr.b.cw],.row [.i m.ti.n,m.ti.a.cw,m.ti.b.cw],.sc (M5 v m.pl.length),m.pt.cw]))::(3,.val (.ptr (ruC fl fd)))::(4,.val (.ptr (.lst (c.map Lt.cv))))::(5,.val (.ptr (.lst (d'.map Lt.cv))))::(7,.bp 350001 0 [])::(71,.hdl v 400003)::obX L0 400003 m.pl) ⟨rfl,rfl,rfl,rfl,rfl,rfl,rfl,rfl,rfl,rfl,rfl,rfl,rfl,rfl,rfl,rfl,trivial⟩).trans (a4D 3 rfl rfl)) ?_;cases g1 with
    | false =>
     rw [kZ (.inr (.inl rfl))];refine aS (aD (by kernel_rfl) (by kernel_rfl) ?_);refine nc zbG (nc zu (nc zl (nc zg (nc zh (nc (zk (z:=hF.ap w1 _ (.inl rfl))) (nc zl (nc zg (nc zh (nc (zk (z:=hF.ap w1 _ (.inr (.inl rfl)))) (nc (zH (E:=gA w1)) (nc zl (nc zq (nc zq (nc zq (nc zq (nc zq (nc zq (nc zq (nc zq (nc zq (nc zq (nc zq (nc zr ?_)))))))))))))))))))))));refine ⟨by kernel_rfl,?_⟩;refine aC rfl (fun h=>by cases h) (fun _=>aK ?_);refine ⟨rfl,a7 ⟨rfl,?_,?_,rfl,trivial⟩⟩
     ·show some (AV.sl _ _ _ _)=some (AV.sl _ _ _ _);simp
     ·show some (AV.mrow _ _ _)=some (AV.mrow _ _ _);simp
    | true =>
     refine aS (aD (by kernel_rfl) (by kernel_rfl) ?_);refine nc zbG (nc zu (nc zl (nc zg (nc zh (nc (zk (z:=hF.ap w1 _ (.inl rfl))) (nc zl (nc zg (nc zh (nc (zk (z:=hF.ap w1 _ (.inr (.inl rfl)))) (nc (zH (E:=gA w1)) (nc zl (nc (zbG (r:=gb)) (nc (zu (r:=gb)) (nc (zl (p:=gb)) (nc (zg (r:=gb)) (nc (zh (r:=gb)) (nc (zk (p:=gb) (z:=hF.ap w1 _ (.inr (.inr (.inl rfl))))) (nc (zl (p:=gb)) (nc (zg (r:=gb)) (nc (zh (r:=gb)) (nc (zk (p:=gb) (z:=hF.ap w1 _ (.inr (.inr (.inr rfl))))) (nc (zH (t:=gb) (E:=gI w1)) (nc zp ?_)))))))))))))))))))))));refine ⟨by kernel_rfl,?_⟩;cases g2 with
     | false =>
      rw [kZ (.inr (.inr rfl))];refine aC rfl (fun h=>by cases h) (fun _=>aK ?_);refine ⟨rfl,a7 ⟨rfl,?_,?_,rfl,trivial⟩⟩
      ·show some (AV.sl _ _ _ _)=some (AV.sl _ _ _ _);simp
      ·show some (AV.mrow _ _ _)=some (AV.mrow _ _ _);simp
     | true =>
      rw [pY rfl rfl rfl];have wW:=hF.ca w1;obtain ⟨z,hz⟩:∃ z,z=(G3 m c d').map (Lt.rep (mgS m.fr.a m.pt)):=⟨_,rfl⟩
      rw [<-hz] at wW |-;refine aC rfl (fun _=>?_) (fun h=>by cases h);refine AWp.wk (a7 (s':=(9,AV.val (.lst ((mgT m.fr.a m.pt).1.map Bd.cv)))::(8,AV.bp 8 0 [])::(100008,.bx (.row [.row [.i m.fr.n,m.fr.a.cw,m.fr.b.cw],.row [.i m.ti.n,m.ti.a.cw,m.ti.b.cw],.sc (M5 v m.pl.length),m.pt.cw]))::(4,.val (.ptr (.lst (c.map Lt.cv))))::(5,.val (.ptr (.lst (d'.map Lt.cv))))::(7,.bp 350001 0 [])::(71,.hdl v 400003)::obX L0 400003 m.pl) ⟨rfl,rfl,rfl,rfl,rfl,rfl,rfl,rfl,rfl,rfl,rfl,trivial⟩) ?_;refine aD (by kernel_rfl) (by kernel_rfl) ?_;refine nc z7 (nc zl (nc zj (nc zI (nc zI (nc (zbz 71 71 (x:=hJn) (hnb:=i0 (by first | rfl | kernel_rfl))) (nc (zk (z:=wW)) (nc zy (ne (zba 300006) (nc zbb ?_)))))))));refine ⟨by kernel_rfl,?_⟩;refine ⟨rfl,(a7 (s':=[(450001,.obj),(35500100,.sl 300006 0 (L0++[z]).length 1),(300006,.mrow 26 1 ((L0++[z]).map clC)),(400003,.mrow 3 1 (m.pl.map CV.i))]) ⟨rfl,?_,?_,rfl,trivial⟩).trans (A8 300006 300005 rfl rfl (by kernel_rfl) (by kernel_rfl))⟩
      ·show some (AV.sl _ _ _ _)=some (AV.sl _ _ _ _);rw [length_append,<-wV];rfl
      ·show some (AV.mrow _ _ _)=some (AV.mrow _ _ _);rw [map_append (f:=clC)];rfl
 ·rintro e s' g ⟨rfl,rfl⟩;rw [take_length];refine ⟨rfl,rfl,?_⟩;refine aS (aR ?_);refine nc z7 (nc ze ?_);obtain ⟨R,hR⟩:∃ R,R=a5C ld c d' ms:=⟨_,rfl⟩
  rw [<-hR];refine aT ⟨⟨.inr rfl,[(6,AV.val (.lst (((R.map clC).drop 0).take R.length)))],?_,?_,trivial,rfl⟩,rfl⟩
  ·exact (a7S 6 300005 (e:=26) (z:=1) (lo:=0) (len:=R.length) (l:=R.map clC) rfl rfl rfl (.inl hW.2) (by simp) (s':=[(299999,.ob g 0)]) ⟨rfl,trivial⟩ rfl).trans (a7 ⟨rfl,rfl,trivial⟩)
  ·rw [List.drop_zero,List.take_of_length_le (by simp)];rfl
end Go.Proofs.YteegmcfobgpemaaGreat
