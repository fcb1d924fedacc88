/-
 SuMeet SuPut SuJoin SuFol SuUni SuMath KbRef KbRef2 OrRef OrRef2 OrCom OrLw EqRes EqDoc ClNmX ClTtM ClRefN EqRef AbStr PrQuo EqRef2 EqRef3 EqAlive EqLw MtMath MtMath2 EqVnt ClTop
-/
import Derived.Test.YteegmcfobgpemaaGreatMg10
import Derived.Test.YteegmcfobgpemaaGreatMg2
import Derived.Test.YteegmcfobgpemaaGreatMg9
import Derived.Test.YteegmcfobgpemaaGreatMg4
import Derived.Test.YteegmcfobgpemaaGreatMg8
import Derived.Laws.Strings
import Derived.Laws.Strings3
import Derived.Laws.Concat
import Derived.Lib.Strings
import Derived.Laws.BytesArg
import Derived.Test.YteegmcfobgpemaaGreatMg5
namespace Go.Proofs.YteegmcfobgpemaaGreat
open List (flatMap_cons getElem?_eq_none length_append length_cons length_drop length_map length_nil length_take map_append map_cons mem_append mem_append_right mem_cons mem_filter mem_flatMap mem_map mem_of_getElem? mem_of_mem_drop mem_of_mem_take mem_singleton not_mem_nil take_length)
open Go.RowKit
set_option linter.unusedVariables false
set_option linter.unusedSimpArgs false
set_option maxRecDepth 100000
structure Mt where
 fr:Wy
 ti:Wy
 pl:List Int
 pt:Tm
noncomputable def Mt.cvH (m:Mt) (v:Value):CV := .row [m.fr.cv,m.ti.cv,.sc (M3 v m.pl.length),.row [.i m.pt.f,.lst (m.pt.l.map Tm.cv)]]
noncomputable def mtI (f i:Wy):List Mt:=(sy i.a []).map fun q=>⟨f,i,q.1,q.2⟩
noncomputable def mtF (tgt:List Wy) (f:Wy):List Mt:=tgt.flatMap (mtI f)
noncomputable def mtN (neg:Int->Bool) (tgt:List Wy) (f:Wy):List Mt:=if neg f.n=true then [] else mtF tgt f
noncomputable def W0 (neg:Int->Bool) (src tgt:List Wy):List Mt:=src.flatMap (mtN neg tgt)
theorem a1N {α β:Type} {g:α->List β} {L:List α} {k:Nat} {x:α} (h:L[k]?=some x):(L.take (k+1)).flatMap g=(L.take k).flatMap g++g x:=by
 rw [List.take_add_one,h,List.flatMap_append];simp
theorem a9R {α β:Type} {g:α->List β} {L:List α} {k:Nat} {x:α} (h:L[k]?=some x) {i:Nat} {y:β} (hy:(g x)[i]?=some y):(L.flatMap g)[((L.take k).flatMap g).length+i]?=some y:=by
 have h1:L.flatMap g=(L.take (k+1)).flatMap g++(L.drop (k+1)).flatMap g:=by
  conv=>lhs;rw [<-List.take_append_drop (k+1) L]
  rw [List.flatMap_append]
 have hi:i<(g x).length:=by
  rcases Nat.lt_or_ge i (g x).length with h2 | h2
  ·exact h2
  ·rw [getElem?_eq_none h2] at hy;cases hy
 rw [h1,a1N h,List.append_assoc,List.getElem?_append_right (by omega),Nat.add_sub_cancel_left,List.getElem?_append_left hi,hy]
def v9 (c:List Lt) (n:Int):Bool:=match c[n.toNat]? with
 | some l=>l.neg
 | none=>false
noncomputable abbrev wyZ:CV := .row [.i 0,.row [.i 0,.lst []],.row [.i 0,.lst []]]
noncomputable abbrev c0j:List CV:=[wyZ,wyZ,.lst [],.row [.i 0,.lst []]]
theorem b1B (W:World) (fl fd:Nat) (c d:List Lt) (L M:List Int) (cK:∀ w,AFun Tryz.prog w fl [.lst (c.map Lt.cv)] (.val (.lst (L.map CV.i)))) (uB:∀ w,AFun Tryz.prog w fl [.lst (d.map Lt.cv)] (.val (.lst (M.map CV.i)))):AFun Tryz.prog W 64 [ruC fl fd,.lst (c.map Lt.cv),.lst (d.map Lt.cv)] (.val (.fn 90 0 [.ptr (.fn 118 0 [.ptr (.lst (L.map CV.i)),.ptr (.lst (c.map Lt.cv)),.ptr (ruC fl fd)]),.ptr (.lst (c.map Lt.cv)),.ptr (.fn 118 0 [.ptr (.lst (M.map CV.i)),.ptr (.lst (d.map Lt.cv)),.ptr (ruC fl fd)])])):=by
 obtain ⟨S,hS⟩:∃ S,S=CV.fn 118 0 [.ptr (.lst (L.map CV.i)),.ptr (.lst (c.map Lt.cv)),.ptr (ruC fl fd)]:=⟨_,rfl⟩
 obtain ⟨T,hT⟩:∃ T,T=CV.fn 118 0 [.ptr (.lst (M.map CV.i)),.ptr (.lst (d.map Lt.cv)),.ptr (ruC fl fd)]:=⟨_,rfl⟩
 refine c9 (rs:=[.fn 90 0 [.ptr (.fn 118 0 [.ptr (.lst (L.map CV.i)),.ptr (.lst (c.map Lt.cv)),.ptr (ruC fl fd)]),.ptr (.lst (c.map Lt.cv)),.ptr (.fn 118 0 [.ptr (.lst (M.map CV.i)),.ptr (.lst (d.map Lt.cv)),.ptr (ruC fl fd)])]]) Tryz.func64 Tryz.ntmps64 rfl rfl rfl rfl ?_;intro w U hW;have h1:=a3K w fl fd c L cK;have h2:=a3K w fl fd d M uB;refine aS (aR ?_);refine nc zd (nc zd (nc ze ?_));refine aS (aD (by kernel_rfl) (by kernel_rfl) ?_);refine nc zj (nc zj (nc (zk (z:=h1)) (nc zj (nc zl (nc (zk (z:=h2)) (nc zbM (nc zbM (nc zx (nc zx ?_)))))))));refine ⟨by kernel_rfl,?_⟩;refine AWp.wk ((p9 7 rfl rfl rfl (s':=[(4,AV.bp 4 0 []),(100004,.bx (.lst (c.map Lt.cv))),(8,AV.bp 8 0 []),(100008,.bx (.fn 118 0 [.ptr (.lst (M.map CV.i)),.ptr (.lst (d.map Lt.cv)),.ptr (ruC fl fd)]))]) ⟨rfl,rfl,rfl,rfl,trivial⟩ rfl rfl rfl).trans ((p9 8 rfl rfl rfl (s':=[(7,AV.val (.ptr (.fn 118 0 [.ptr (.lst (L.map CV.i)),.ptr (.lst (c.map Lt.cv)),.ptr (ruC fl fd)]))),(4,AV.bp 4 0 []),(100004,.bx (.lst (c.map Lt.cv)))]) ⟨rfl,rfl,rfl,trivial⟩ rfl rfl rfl).trans (p9 4 rfl rfl rfl (s':=[(7,AV.val (.ptr (.fn 118 0 [.ptr (.lst (L.map CV.i)),.ptr (.lst (c.map Lt.cv)),.ptr (ruC fl fd)]))),(8,AV.val (.ptr (.fn 118 0 [.ptr (.lst (M.map CV.i)),.ptr (.lst (d.map Lt.cv)),.ptr (ruC fl fd)])))]) ⟨rfl,rfl,trivial⟩ rfl rfl rfl))) ?_;refine aS (aR ?_);refine nc zG (nc ze ?_);exact aT ⟨.inr rfl,rfl⟩
set_option maxHeartbeats 8000000 in
theorem a6V (c:List Lt) (gs gt:Nat) (cs ct:List CV) (src tgt:List Wy) (pL:a2V Tryz.prog gs) (het:a2V Tryz.prog gt) (xD:∀ w∈src,0<=w.n/\w.n<c.length) (htgt:∀ w∈tgt,w.a.size<=1000000)
  (hs:∀ Ls:Nat->List (List Lt),a0V Tryz.prog gs cs [0] (fun _ _=>[]) (fun _ x _=>[.val x.cv]) src (fun k=>obE (Ls k)))
  (ht:∀ Ls:Nat->List (List Lt),a0V Tryz.prog gt ct [0] (fun _ _=>[]) (fun _ x _=>[.val x.cv]) tgt (fun k=>obE (Ls k)))
  (Ls:Nat->List (List Lt)):a0V Tryz.prog 90 [.ptr (.fn gs 0 cs),.ptr (.lst (c.map Lt.cv)),.ptr (.fn gt 0 ct)] [400002,400003] (fun X x=>c0t X x.pl) (fun X x v=>[.val (x.cvH v)]) (W0 (v9 c) src tgt) (fun k=>obE (Ls k)):=by
 intro Wb Ub l0 hY;have tF:a2V Tryz.prog 119:=x9 Tryz.func119 rfl rfl;have lF:=Lt.size_all c;refine b4u Tryz.func90 Tryz.ntmps90 rfl rfl rfl rfl (by kernel_rfl) (by kernel_rfl) ?_;intro w U bG hU;show a1G _ _ _ _ _ _ ((0,AV.val (F7 l0))::(1,.val (.ptr (.fn gs 0 cs)))::(2,.val (.ptr (.lst (c.map Lt.cv))))::(3,.val (.ptr (.fn gt 0 ct)))::obE (Ls 0));refine I0 (aR ?_);refine ne zd ?_;refine ⟨rfl,?_⟩;refine a1B (p9 4 rfl rfl rfl (s':=(1,AV.val (.ptr (.fn gs 0 cs)))::(2,.val (.ptr (.lst (c.map Lt.cv))))::(3,.val (.ptr (.fn gt 0 ct)))::obE (Ls 0)) ⟨rfl,rfl,rfl,rfl,rfl,rfl,trivial⟩ rfl rfl (by kernel_rfl)) ?_;refine I0 (aR ?_);refine nc zI ?_;refine ⟨rfl,?_⟩;refine a0E ?_;refine a1B (a7 (s':=(9,AV.val (.fn gs 0 cs))::(2,.val (.ptr (.lst (c.map Lt.cv))))::(3,.val (.ptr (.fn gt 0 ct)))::(4,.val (.ptr (F7 l0)))::obE (Ls 0)) ⟨rfl,rfl,rfl,rfl,rfl,rfl,rfl,trivial⟩) ?_;refine a1L (a2h (ps:=[10]) (fun k=>obE (Ls (W0 (v9 c) (src.take k) tgt).length)) [(2,.val (.ptr (.lst (c.map Lt.cv)))),(3,.val (.ptr (.fn gt 0 ct))),(4,.val (.ptr (F7 l0)))] (fun _ _=>[]) rfl pL (hs fun k=>Ls (W0 (v9 c) (src.take k) tgt).length) rfl (fun _ _ _=>rfl) ⟨rfl,rfl,rfl,trivial⟩ rfl ⟨.inl ⟨_,rfl⟩,.inl ⟨_,rfl⟩,.inl ⟨_,rfl⟩,trivial⟩ ⟨rfl,rfl,rfl,trivial⟩ ⟨by kernel_rfl,by kernel_rfl,fun k=>rfl,rfl,rfl,rfl⟩ (fun k X hX x=>rfl) (fun X hX => .inl fun _=>rfl) (by kernel_rfl) ?_) ?_
 ·intro k f hf X hX v w U hU eL;obtain ⟨n,hn⟩:∃ n:Nat,f.n=(n:Int):=⟨f.n.toNat,by have:=(xD f (mem_of_getElem? hf)).1;omega⟩
  have mJ:n<c.length:=by have:=(xD f (mem_of_getElem? hf)).2;omega
  obtain ⟨l,hl⟩:∃ l,c[n]?=some l:=⟨c[n],List.getElem?_eq_getElem mJ⟩
  have cA:=Lt.map_at hl;have lX:v9 c f.n=l.neg:=by unfold v9;rw [hn,Int.toNat_natCast,hl]
  have hcvf:f.cv = .row [.i n,f.a.cw,f.b.cw]:=by unfold Wy.cv;rw [hn]
  obtain ⟨o1,lD⟩:∃ o1,o1=(W0 (v9 c) (src.take k) tgt).length:=⟨_,rfl⟩
  have kP:(W0 (v9 c) (src.take (k+1)) tgt).length=o1+(mtN (v9 c) tgt f).length:=by unfold W0 at lD |-;rw [a1N hf,length_append,lD]
  have xE:∀ i y,(mtN (v9 c) tgt f)[i]?=some y->(W0 (v9 c) src tgt)[o1+i]?=some y:=fun i y hy=>by rw [lD];exact a9R hf hy
  show AWp _ _ _ _ _ _ ((10,AV.val f.cv)::(2,.val (.ptr (.lst (c.map Lt.cv))))::(3,.val (.ptr (.fn gt 0 ct)))::(4,.val (.ptr (F7 l0)))::obE (Ls (W0 (v9 c) (src.take k) tgt).length));rw [<-lD,kP,hcvf];refine aR ?_;refine ne zw (nc zx ?_);refine ⟨rfl,fun w1 mC=>?_⟩;obtain ⟨b,hb⟩:∃ b,b=l.neg:=⟨_,rfl⟩
  have kL:(c.map Lt.cv)[n]?=some (.row [.b b,l.a.cw,l.b.cw]):=by rw [cA,hb]
  rw [<-hb] at lX;cases b with
  | true =>
   have e:mtN (v9 c) tgt f=[]:=by unfold mtN;rw [if_pos lX]
   rw [e];refine a1F (aB (aS (aS (aR ?_))));refine nc zI (nc zg (nc zh (nc (zt (j:=n) (H:=kL) (hz:=lF)) (nc zbH (nc zu ?_)))));refine aC rfl (fun _=>?_) (fun h=>by cases h);refine aE ?_;exact ⟨rfl,a7 ⟨rfl,rfl,rfl,trivial⟩⟩
  | false =>
   have e:mtN (v9 c) tgt f=mtF tgt f:=by unfold mtN;rw [if_neg (by rw [lX];simp)]
   rw [e] at xE |-;refine T6 (a4O (aS (aR ?_)));refine nc zI (nc zg (nc zh (nc (zt (j:=n) (H:=kL) (hz:=lF)) (nc zbH (nc zu ?_)))));refine aC rfl (fun h=>by cases h) (fun _=>aK ?_);refine ⟨rfl,?_⟩;refine a8d (p9 5 rfl rfl rfl (s':=(3,AV.val (.ptr (.fn gt 0 ct)))::(4,.val (.ptr (F7 l0)))::obE (Ls o1)) ⟨rfl,rfl,rfl,rfl,rfl,trivial⟩ rfl rfl (by kernel_rfl)) ?_;refine a4O (aR ?_);refine nc zI ?_;refine ⟨rfl,?_⟩;refine T6 ?_;refine a8d (a7 (s':=(17,AV.val (.fn gt 0 ct))::(4,.val (.ptr (F7 l0)))::(5,.val (.ptr (.row [.i n,f.a.cw,f.b.cw])))::obE (Ls o1)) ⟨rfl,rfl,rfl,rfl,rfl,rfl,trivial⟩) ?_;refine a6O (a2m (ps:=[18]) (fun j=>obE (Ls (o1+((tgt.take j).flatMap (mtI f)).length))) [(4,.val (.ptr (F7 l0))),(5,.val (.ptr (.row [.i n,f.a.cw,f.b.cw])))] (fun _ _=>[]) rfl het (ht fun j=>Ls (o1+((tgt.take j).flatMap (mtI f)).length)) rfl (fun _ _ _=>rfl) ⟨rfl,rfl,trivial⟩ rfl ⟨.inl ⟨_,rfl⟩,.inl ⟨_,rfl⟩,trivial⟩ ⟨rfl,rfl,rfl,trivial⟩ ⟨by kernel_rfl,by kernel_rfl,fun k=>rfl,rfl,rfl,rfl⟩ (fun k X hX x=>rfl) (fun X hX => .inl fun _=>rfl) (by kernel_rfl) ?_) ?_
   ·intro j i hi X hX v w U hU hon3;have his:=htgt i (mem_of_getElem? hi);obtain ⟨o2,iZ⟩:∃ o2,o2=o1+((tgt.take j).flatMap (mtI f)).length:=⟨_,rfl⟩
    have tG:o1+((tgt.take (j+1)).flatMap (mtI f)).length=o2+(sy i.a []).length:=by rw [a1N hi,length_append,iZ];unfold mtI;rw [length_map];omega
    have hat2:∀ q y,(sy i.a [])[q]?=some y->(W0 (v9 c) src tgt)[o2+q]?=some ⟨f,i,y.1,y.2⟩:=fun q y hy=>by have:=xE (((tgt.take j).flatMap (mtI f)).length+q) ⟨f,i,y.1,y.2⟩ (a9R hi (by unfold mtI;rw [List.getElem?_map,hy];rfl));rw [iZ,Nat.add_assoc];exact this
    show AWp _ _ _ _ _ _ ((18,AV.val (.row [.i i.n,i.a.cw,i.b.cw]))::(4,.val (.ptr (F7 l0)))::(5,.val (.ptr (.row [.i n,f.a.cw,f.b.cw])))::obE (Ls (o1+((tgt.take j).flatMap (mtI f)).length)));rw [<-iZ,tG];refine aR ?_;refine ne zw (nc zx ?_);refine ⟨rfl,fun w2 xF=>?_⟩;refine T6 (a4O (aR ?_));refine nc zg (nc zh (nc (zk (z:=a5n w2 i.a)) ?_));refine ⟨rfl,?_⟩;refine a8d (p9 6 rfl rfl rfl (s':=(21,AV.val (.fn 119 0 [.ptr i.a.cw]))::(4,.val (.ptr (F7 l0)))::(5,.val (.ptr (.row [.i n,f.a.cw,f.b.cw])))::obE (Ls o2)) ⟨rfl,rfl,rfl,rfl,rfl,rfl,trivial⟩ rfl rfl (by kernel_rfl)) ?_;refine T6 ?_;refine a6O (a2m (ps:=[22,23]) (fun q=>obE (Ls (o2+q))) [(4,.val (.ptr (F7 l0))),(5,.val (.ptr (.row [.i n,f.a.cw,f.b.cw]))),(6,.val (.ptr (.row [.i i.n,i.a.cw,i.b.cw])))] (fun X v=>[(11,.hdl v X)]) rfl tF (a8K i.a his fun q=>Ls (o2+q)) rfl (fun _ _ _=>rfl) ⟨rfl,rfl,rfl,trivial⟩ rfl ⟨.inl ⟨_,rfl⟩,.inl ⟨_,rfl⟩,.inl ⟨_,rfl⟩,trivial⟩ ⟨rfl,rfl,rfl,trivial⟩ ⟨by kernel_rfl,by kernel_rfl,fun k=>rfl,rfl,rfl,rfl⟩ (fun k X hX x=>by
      simp only [mem_cons,not_mem_nil,or_false] at hX;rcases hX with rfl | rfl<;>rfl) (fun X hX => .inr ⟨11,fun _=>rfl,by decide,by decide,by
      simp only [mem_cons,not_mem_nil,or_false] at hX;unfold RN;omega⟩) (by kernel_rfl) ?_) ?_
    ·intro q y hy X hX v w U hU hon5;have pH:b7j Tryz.prog Wb Ub l0 X (obE (Ls (o2+q))++c0t X y.1) (fun v=>[.val (.row [.row [.i (n:Int),f.a.cw,f.b.cw],.row [.i i.n,i.a.cw,i.b.cw],.sc (M3 v y.1.length),y.2.cw])]) (obE (Ls (o2+q+1))++c0t X y.1):=by rw [<-hn];exact hY (o2+q) ⟨f,i,y.1,y.2⟩ (hat2 q y hy) X hX
     simp only [mem_cons,not_mem_nil,or_false] at hX;rcases hX with rfl | rfl
     ·refine aS (aR ?_);refine nc ze ?_;refine aR ?_;refine ne zw (nc zx ?_);refine ⟨rfl,fun w3 tH=>a1F ?_⟩;have bG:=(bG.trans mC).trans (xF.trans tH);refine AWp.wk ((a7 (s':=(7,AV.sl 400002 0 y.1.length 1)::(11,.hdl v 400002)::(8,.bp 8 0 [])::(100008,.bx y.2.cw)::(4,.val (.ptr (F7 l0)))::(5,.val (.ptr (.row [.i n,f.a.cw,f.b.cw])))::(6,.val (.ptr (.row [.i i.n,i.a.cw,i.b.cw])))::obX (Ls (o2+q)) 400002 y.1) ⟨rfl,rfl,rfl,rfl,rfl,rfl,rfl,rfl,rfl,rfl,rfl,trivial⟩).trans (a0e 7 400002 11 rfl rfl rfl)) ?_;refine aB (aS (J4 ?_))
      (refine nxY (AOp.y (F6 (gN rfl) rfl rfl rfl rfl rfl rfl rfl rfl rfl)) rfl ?_)
      (refine nxY (AOp.y (F6 (gN rfl) rfl rfl rfl rfl rfl rfl rfl rfl rfl)) rfl ?_)
      (refine nxY (AOp.y (F6 (gN rfl) rfl rfl rfl rfl rfl rfl rfl rfl rfl)) rfl ?_)
      (refine nxY (AOp.y (aM (gN rfl) rfl rfl rfl rfl rfl)) rfl ?_)
      (refine nxY (AOp.y (aL (gN rfl) rfl rfl rfl rfl rfl rfl rfl rfl rfl rfl rfl rfl)) rfl ?_)
      (refine nxY (AOp.y (a4Y c0j (gN rfl) rfl rfl rfl rfl rfl rfl rfl rfl rfl rfl rfl)) rfl ?_)
      (refine nxY (a1A 11 (pH) bG (gN rfl) rfl rfl rfl rfl rfl rfl (.inl ⟨rfl,rfl⟩) (by repeat (first | exact trivial | refine ⟨rfl,?_⟩)) (by first | rfl | kernel_rfl) (by first | rfl | kernel_rfl) (by first | rfl | kernel_rfl) (i0 (by first | rfl | kernel_rfl)) rfl) rfl ?_)
      (refine nxY (AOp.y (a8u (gN rfl) rfl rfl rfl rfl rfl)) rfl ?_)
      refine aC rfl (fun hc=>by cases hc) (fun hc=>aK ?_);exact ⟨rfl,a7 ⟨rfl,rfl,rfl,rfl,trivial⟩⟩
     ·refine aS (aR ?_);refine nc ze ?_;refine aR ?_;refine ne zw (nc zx ?_);refine ⟨rfl,fun w3 tH=>a1F ?_⟩;have bG:=(bG.trans mC).trans (xF.trans tH);refine AWp.wk ((a7 (s':=(7,AV.sl 400003 0 y.1.length 1)::(11,.hdl v 400003)::(8,.bp 8 0 [])::(100008,.bx y.2.cw)::(4,.val (.ptr (F7 l0)))::(5,.val (.ptr (.row [.i n,f.a.cw,f.b.cw])))::(6,.val (.ptr (.row [.i i.n,i.a.cw,i.b.cw])))::obX (Ls (o2+q)) 400003 y.1) ⟨rfl,rfl,rfl,rfl,rfl,rfl,rfl,rfl,rfl,rfl,rfl,trivial⟩).trans (a0e 7 400003 11 rfl rfl rfl)) ?_;refine aB (aS (J4 ?_))
      (refine nxY (AOp.y (F6 (gN rfl) rfl rfl rfl rfl rfl rfl rfl rfl rfl)) rfl ?_)
      (refine nxY (AOp.y (F6 (gN rfl) rfl rfl rfl rfl rfl rfl rfl rfl rfl)) rfl ?_)
      (refine nxY (AOp.y (F6 (gN rfl) rfl rfl rfl rfl rfl rfl rfl rfl rfl)) rfl ?_)
      (refine nxY (AOp.y (aM (gN rfl) rfl rfl rfl rfl rfl)) rfl ?_)
      (refine nxY (AOp.y (aL (gN rfl) rfl rfl rfl rfl rfl rfl rfl rfl rfl rfl rfl rfl)) rfl ?_)
      (refine nxY (AOp.y (a4Y c0j (gN rfl) rfl rfl rfl rfl rfl rfl rfl rfl rfl rfl rfl)) rfl ?_)
      (refine nxY (a1A 11 (pH) bG (gN rfl) rfl rfl rfl rfl rfl rfl (.inl ⟨rfl,rfl⟩) (by repeat (first | exact trivial | refine ⟨rfl,?_⟩)) (by first | rfl | kernel_rfl) (by first | rfl | kernel_rfl) (by first | rfl | kernel_rfl) (i0 (by first | rfl | kernel_rfl)) rfl) rfl ?_)
      (refine nxY (AOp.y (a8u (gN rfl) rfl rfl rfl rfl rfl)) rfl ?_)
      refine aC rfl (fun hc=>by cases hc) (fun hc=>aK ?_);exact ⟨rfl,a7 ⟨rfl,rfl,rfl,rfl,trivial⟩⟩
    ·rintro e s' ⟨rfl,m,rfl⟩;refine ⟨rfl,rfl,rfl,?_⟩;exact a7 ⟨rfl,rfl,rfl,trivial⟩
   ·rintro e s' ⟨rfl,m,rfl⟩;refine ⟨rfl,rfl,rfl,?_⟩;rw [take_length];exact a7 ⟨rfl,rfl,rfl,trivial⟩
 ·rintro e s' g ⟨rfl,rfl⟩;refine ⟨rfl,.inl rfl,obE (Ls (W0 (v9 c) src tgt).length),?_,rfl,⟨rfl,rfl,rfl,trivial⟩,rfl⟩;rw [take_length];exact a7 ⟨rfl,rfl,rfl,rfl,trivial⟩
set_option maxHeartbeats 2000000 in
theorem a5t (F:List Int) (u:Tm) (hu:u.rng) (fV:u.size<=90000000000):∀ (p:List Int) (lo:Nat) (t:Tm),F.drop lo=p->lo+p.length=F.length->F.length<=1000000->t.rng->t.size<=100000->r5 Tryz.prog 94 [(400002,AV.mrow 3 1 (F.map CV.i))] [.val t.cw,.sl 400002 lo p.length 1,.val u.cw] (.tup [((C8 u p t).getD ⟨0,[]⟩).cw,.b (C8 u p t).isSome]) [(400002,AV.mrow 3 1 (F.map CV.i))]:=by
 intro p
 induction p with
 | nil =>
  intro lo t hF sL _ _ _;refine l6 Tryz.func94 Tryz.ntmps94 rfl rfl rfl rfl rfl rfl ?_;intro w U hU;refine aS (aR ?_);refine nc zd (nc zd (nc zw (nc ze ?_)));refine aS (aS (aR ?_));refine nc zl (nc zX (nc zD ?_));refine aC rfl (fun hc=>?_) (fun hc=>by cases hc);refine aS (aR ?_);refine nc zj (nc (zk (z:=L5 w hu fV)) (nc zx (nc ze ?_)));exact aT ⟨.inr rfl,_,Wk.refl _,rfl,rfl,trivial⟩
 | cons n p ih =>
  intro lo t hF sL hp hr mH;rw [length_cons] at sL;have jQ:(F.map CV.i)[lo]?=some (.i n):=by
   rw [List.getElem?_map];have:F[lo]?=(F.drop lo)[0]?:=by rw [List.getElem?_drop,Nat.add_zero]
   rw [this,hF];rfl
  have hFm:(F.map CV.i).length=F.length:=length_map ..;have fL:F.drop (lo+1)=p:=by rw [show lo+1=1+lo by omega,Nat.add_comm,<-List.drop_drop,hF];rfl
  have tD:=p8 (n::p);refine l6 Tryz.func94 Tryz.ntmps94 rfl rfl rfl rfl rfl rfl ?_;intro w U hU;refine aS (aR ?_);refine nc zd (nc zd (nc zw (nc ze ?_)));refine aS (aS (aR ?_));refine nc zl (nc zX (nc zD ?_));refine aC rfl (fun hc=>?_) (fun hc=>aK ?_)
  ·simp at hc;omega
  clear hc;refine aS (aR ?_);refine nc zl (nc (zO (k:=lo)) (nc (zP (G:=jQ)) (nc ze ?_)));refine aS (aS (aR ?_));refine nc zj (nc zl (nc (zk (z:=a2x w t n)) (nc zZ ?_)));refine aC rfl (fun hc=>?_) (fun hc=>aK ?_)
  ·have gA:t.pa n=none:=by simpa using hc
   have e:C8 u (n::p) t=none:=by rw [C8,gA];rfl
   rw [e];refine aS (aR ?_);refine nc zC (nc zx (nc ze ?_));exact aT ⟨.inr rfl,_,Wk.refl _,rfl,rfl,trivial⟩
  obtain ⟨s,hs⟩:∃ s,t.pa n=some s:=Option.isSome_iff_exists.1 (by simpa using hc);clear hc;have tO:0<=n:=by
   unfold Tm.pa at hs;split at hs
   ·assumption
   ·cases hs
  have hsym:=a8p hs;have hl:t.l[n.toNat]?=some s:=by have hs:=hs;unfold Tm.pa at hs;rw [if_pos tO,Tm.ps_of_sym (by omega)] at hs;exact hs
  have cA:=Tm.map_at hl;have kC:=Tm.size_all t.l;obtain ⟨m,hm⟩:∃ m:Nat,n=m:=⟨n.toNat,by omega⟩
  subst hm;rw [Int.toNat_natCast] at hl cA;have hml:m<t.l.length:=by
   rcases Nat.lt_or_ge m t.l.length with h | h
   ·exact h
   ·rw [getElem?_eq_none h] at hl;cases hl
  have hml':m<(t.l.map Tm.cv).length:=by rw [length_map];exact hml
  have iV:=((Tm.rng_iff _).1 hr).2;have kY:∀ x∈t.l,x.rng/\x.size<=100000:=fun x hx=>⟨iV x hx,by
   have h1:=Tm.size_eq t;rw [Tm.ps_of_sym (by omega)] at h1;have:=t8 Tm.flat hx;have h2:x.size=x.flat.length:=rfl;omega⟩
  have kD:t.l.length<=100000:=by
   have h1:=Tm.size_eq t;rw [Tm.ps_of_sym (by omega)] at h1;have:∀ l:List Tm,l.length<=(l.flatMap Tm.flat).length:=by
    intro l
    induction l with
    | nil=>exact Nat.le_refl _
    | cons x l ih =>
     rw [flatMap_cons,length_append,length_cons];have:0<x.flat.length:=by rw [Tm.flat_eq];simp
     omega
   have:=this t.l;omega
  have xG:=kY s (mem_of_getElem? hl);have h1l:1<=(List.map CV.i ((m:Int)::p)).length:=by simp
  have hP:=ih (lo+1) s fL (by omega) hp xG.1 xG.2;refine aS (aD (by kernel_rfl) (by kernel_rfl) ?_);refine nc zg (nc zh (nc zl (nc (zt (H:=by assumption) (hz:=by first | assumption | exact sZ rfl | exact Tm.size_all _ | exact Bd.size_all _ | exact p8 _ | exact bys_size _ | exact Lt.size_all _)) (nc zu (nc zl (nc (zY (j:=1)) (nc zj (nc (zW (z:=hP) (G:=i0 (by first | rfl | kernel_rfl))) (nc zl (nc zE (nc zE (nc zw (nc zx (nc ze ?_))))))))))))));refine ⟨by kernel_rfl,?_⟩;refine aS (aS (aR ?_));refine nc zl (nc zZ ?_);refine aC rfl (fun hc=>?_) (fun hc=>aK ?_)
  ·have gA:C8 u p s=none:=by simpa using hc
   have e:C8 u ((m:Int)::p) t=none:=by rw [C8,hs,Option.bind_some,gA];rfl
   rw [e];refine aS (aR ?_);refine nc zC (nc zx (nc ze ?_));exact aT ⟨.inr rfl,_,Wk.refl _,rfl,rfl,trivial⟩
  obtain ⟨v,hv⟩:∃ v,C8 u p s=some v:=Option.isSome_iff_exists.1 (by simpa using hc);clear hc;have e:C8 u ((m:Int)::p) t=some ⟨t.f,(t.l.take m).map Tm.strip++v::(t.l.drop (m+1)).map Tm.strip⟩:=by rw [C8,hs,Option.bind_some,hv];rfl
  rw [e,hv];have c1:=K2 w (t.l.take m) (by rw [length_take];omega) (fun x hx=>⟨(kY x (mem_of_mem_take hx)).1,by have:=(kY x (mem_of_mem_take hx)).2;omega⟩);have c2:=K2 w (t.l.drop (m+1)) (by rw [length_drop];omega) (fun x hx=>⟨(kY x (mem_of_mem_drop hx)).1,by have:=(kY x (mem_of_mem_drop hx)).2;omega⟩);rw [show (t.l.take m).map Tm.cv=(t.l.map Tm.cv).take m from List.map_take] at c1;rw [show (t.l.drop (m+1)).map Tm.cv=(t.l.map Tm.cv).drop (m+1) from List.map_drop] at c2;obtain ⟨A,hA⟩:∃ A,A=(t.l.take m).map Tm.strip:=⟨_,rfl⟩
  obtain ⟨B,hB⟩:∃ B,B=(t.l.drop (m+1)).map Tm.strip:=⟨_,rfl⟩
  have tE:A.length<=100000:=by rw [hA,length_map,length_take];omega
  have hBl:B.length<=100000:=by rw [hB,length_map,length_drop];omega
  rw [<-hA] at c1 |-;rw [<-hB] at c2 |-;have c3:AFun Tryz.prog w 130 [.lst [.lst (A.map Tm.cv),.lst [v.cw],.lst (B.map Tm.cv)]] (.val (.lst ((A++v::B).map Tm.cv))):=by have:=a3L w [A,[v],B] (by simp) (by simp;omega);simpa only [map_cons,List.map_nil,Tm.cv_eq,List.flatten_cons,List.flatten_nil,List.append_nil,List.cons_append,List.nil_append,List.singleton_append] using this
  refine AWp.wk (a7 (s':=[(3,.bp 3 0 []),(100003,.bx t.cw),(6,.bp 6 0 []),(100006,⟨5,.row [.i 0,.lst []],1,0,[1]⟩),(8,.val (.i m)),(9,.bp 9 0 []),(100009,.bx v.cw),(400002,AV.mrow 3 1 (F.map CV.i))]) ⟨rfl,rfl,rfl,rfl,rfl,rfl,rfl,rfl,trivial⟩) ?_;refine aS (aD (by kernel_rfl) (by kernel_rfl) ?_);refine nc zg (nc zh (nc zl (nc zbI (nc (zk (z:=c1)) (nc zj (nc zy (nc zg (nc zh (nc zl (nc zA (nc (zbv (lo:=m+1)) (nc (zk (z:=c2)) (nc zy (nc (zk (z:=c3)) (nc ze ?_)))))))))))))));refine ⟨by kernel_rfl,?_⟩;refine aS (aR ?_);refine nc zg (nc zh (nc zl (nc zC (nc zx (nc ze ?_)))));exact aT ⟨.inr rfl,_,Wk.refl _,rfl,rfl,trivial⟩
set_option maxHeartbeats 2000000 in
theorem a5k (F:List Int) (u:Tm) (hu:u.rng) (fV:u.size<=90000000000):∀ (p:List Int) (lo:Nat) (t:Tm),F.drop lo=p->lo+p.length=F.length->F.length<=1000000->t.rng->t.size<=100000->r5 Tryz.prog 94 [(400003,AV.mrow 3 1 (F.map CV.i))] [.val t.cw,.sl 400003 lo p.length 1,.val u.cw] (.tup [((C8 u p t).getD ⟨0,[]⟩).cw,.b (C8 u p t).isSome]) [(400003,AV.mrow 3 1 (F.map CV.i))]:=by
 intro p
 induction p with
 | nil =>
  intro lo t hF sL _ _ _;refine l6 Tryz.func94 Tryz.ntmps94 rfl rfl rfl rfl rfl rfl ?_;intro w U hU;refine aS (aR ?_);refine nc zd (nc zd (nc zw (nc ze ?_)));refine aS (aS (aR ?_));refine nc zl (nc zX (nc zD ?_));refine aC rfl (fun hc=>?_) (fun hc=>by cases hc);refine aS (aR ?_);refine nc zj (nc (zk (z:=L5 w hu fV)) (nc zx (nc ze ?_)));exact aT ⟨.inr rfl,_,Wk.refl _,rfl,rfl,trivial⟩
 | cons n p ih =>
  intro lo t hF sL hp hr mH;rw [length_cons] at sL;have jQ:(F.map CV.i)[lo]?=some (.i n):=by
   rw [List.getElem?_map];have:F[lo]?=(F.drop lo)[0]?:=by rw [List.getElem?_drop,Nat.add_zero]
   rw [this,hF];rfl
  have hFm:(F.map CV.i).length=F.length:=length_map ..;have fL:F.drop (lo+1)=p:=by rw [show lo+1=1+lo by omega,Nat.add_comm,<-List.drop_drop,hF];rfl
  have tD:=p8 (n::p);refine l6 Tryz.func94 Tryz.ntmps94 rfl rfl rfl rfl rfl rfl ?_;intro w U hU;refine aS (aR ?_);refine nc zd (nc zd (nc zw (nc ze ?_)));refine aS (aS (aR ?_));refine nc zl (nc zX (nc zD ?_));refine aC rfl (fun hc=>?_) (fun hc=>aK ?_)
  ·simp at hc;omega
  clear hc;refine aS (aR ?_);refine nc zl (nc (zO (k:=lo)) (nc (zP (G:=jQ)) (nc ze ?_)));refine aS (aS (aR ?_));refine nc zj (nc zl (nc (zk (z:=a2x w t n)) (nc zZ ?_)));refine aC rfl (fun hc=>?_) (fun hc=>aK ?_)
  ·have gA:t.pa n=none:=by simpa using hc
   have e:C8 u (n::p) t=none:=by rw [C8,gA];rfl
   rw [e];refine aS (aR ?_);refine nc zC (nc zx (nc ze ?_));exact aT ⟨.inr rfl,_,Wk.refl _,rfl,rfl,trivial⟩
  obtain ⟨s,hs⟩:∃ s,t.pa n=some s:=Option.isSome_iff_exists.1 (by simpa using hc);clear hc;have tO:0<=n:=by
   unfold Tm.pa at hs;split at hs
   ·assumption
   ·cases hs
  have hsym:=a8p hs;have hl:t.l[n.toNat]?=some s:=by have hs:=hs;unfold Tm.pa at hs;rw [if_pos tO,Tm.ps_of_sym (by omega)] at hs;exact hs
  have cA:=Tm.map_at hl;have kC:=Tm.size_all t.l;obtain ⟨m,hm⟩:∃ m:Nat,n=m:=⟨n.toNat,by omega⟩
  subst hm;rw [Int.toNat_natCast] at hl cA;have hml:m<t.l.length:=by
   rcases Nat.lt_or_ge m t.l.length with h | h
   ·exact h
   ·rw [getElem?_eq_none h] at hl;cases hl
  have hml':m<(t.l.map Tm.cv).length:=by rw [length_map];exact hml
  have iV:=((Tm.rng_iff _).1 hr).2;have kY:∀ x∈t.l,x.rng/\x.size<=100000:=fun x hx=>⟨iV x hx,by
   have h1:=Tm.size_eq t;rw [Tm.ps_of_sym (by omega)] at h1;have:=t8 Tm.flat hx;have h2:x.size=x.flat.length:=rfl;omega⟩
  have kD:t.l.length<=100000:=by
   have h1:=Tm.size_eq t;rw [Tm.ps_of_sym (by omega)] at h1;have:∀ l:List Tm,l.length<=(l.flatMap Tm.flat).length:=by
    intro l
    induction l with
    | nil=>exact Nat.le_refl _
    | cons x l ih =>
     rw [flatMap_cons,length_append,length_cons];have:0<x.flat.length:=by rw [Tm.flat_eq];simp
     omega
   have:=this t.l;omega
  have xG:=kY s (mem_of_getElem? hl);have h1l:1<=(List.map CV.i ((m:Int)::p)).length:=by simp
  have hP:=ih (lo+1) s fL (by omega) hp xG.1 xG.2;refine aS (aD (by kernel_rfl) (by kernel_rfl) ?_);refine nc zg (nc zh (nc zl (nc (zt (H:=by assumption) (hz:=by first | assumption | exact sZ rfl | exact Tm.size_all _ | exact Bd.size_all _ | exact p8 _ | exact bys_size _ | exact Lt.size_all _)) (nc zu (nc zl (nc (zY (j:=1)) (nc zj (nc (zW (z:=hP) (G:=i0 (by first | rfl | kernel_rfl))) (nc zl (nc zE (nc zE (nc zw (nc zx (nc ze ?_))))))))))))));refine ⟨by kernel_rfl,?_⟩;refine aS (aS (aR ?_));refine nc zl (nc zZ ?_);refine aC rfl (fun hc=>?_) (fun hc=>aK ?_)
  ·have gA:C8 u p s=none:=by simpa using hc
   have e:C8 u ((m:Int)::p) t=none:=by rw [C8,hs,Option.bind_some,gA];rfl
   rw [e];refine aS (aR ?_);refine nc zC (nc zx (nc ze ?_));exact aT ⟨.inr rfl,_,Wk.refl _,rfl,rfl,trivial⟩
  obtain ⟨v,hv⟩:∃ v,C8 u p s=some v:=Option.isSome_iff_exists.1 (by simpa using hc);clear hc;have e:C8 u ((m:Int)::p) t=some ⟨t.f,(t.l.take m).map Tm.strip++v::(t.l.drop (m+1)).map Tm.strip⟩:=by rw [C8,hs,Option.bind_some,hv];rfl
  rw [e,hv];have c1:=K2 w (t.l.take m) (by rw [length_take];omega) (fun x hx=>⟨(kY x (mem_of_mem_take hx)).1,by have:=(kY x (mem_of_mem_take hx)).2;omega⟩);have c2:=K2 w (t.l.drop (m+1)) (by rw [length_drop];omega) (fun x hx=>⟨(kY x (mem_of_mem_drop hx)).1,by have:=(kY x (mem_of_mem_drop hx)).2;omega⟩);rw [show (t.l.take m).map Tm.cv=(t.l.map Tm.cv).take m from List.map_take] at c1;rw [show (t.l.drop (m+1)).map Tm.cv=(t.l.map Tm.cv).drop (m+1) from List.map_drop] at c2;obtain ⟨A,hA⟩:∃ A,A=(t.l.take m).map Tm.strip:=⟨_,rfl⟩
  obtain ⟨B,hB⟩:∃ B,B=(t.l.drop (m+1)).map Tm.strip:=⟨_,rfl⟩
  have tE:A.length<=100000:=by rw [hA,length_map,length_take];omega
  have hBl:B.length<=100000:=by rw [hB,length_map,length_drop];omega
  rw [<-hA] at c1 |-;rw [<-hB] at c2 |-;have c3:AFun Tryz.prog w 130 [.lst [.lst (A.map Tm.cv),.lst [v.cw],.lst (B.map Tm.cv)]] (.val (.lst ((A++v::B).map Tm.cv))):=by have:=a3L w [A,[v],B] (by simp) (by simp;omega);simpa only [map_cons,List.map_nil,Tm.cv_eq,List.flatten_cons,List.flatten_nil,List.append_nil,List.cons_append,List.nil_append,List.singleton_append] using this
  refine AWp.wk (a7 (s':=[(3,.bp 3 0 []),(100003,.bx t.cw),(6,.bp 6 0 []),(100006,⟨5,.row [.i 0,.lst []],1,0,[1]⟩),(8,.val (.i m)),(9,.bp 9 0 []),(100009,.bx v.cw),(400003,AV.mrow 3 1 (F.map CV.i))]) ⟨rfl,rfl,rfl,rfl,rfl,rfl,rfl,rfl,trivial⟩) ?_;refine aS (aD (by kernel_rfl) (by kernel_rfl) ?_);refine nc zg (nc zh (nc zl (nc zbI (nc (zk (z:=c1)) (nc zj (nc zy (nc zg (nc zh (nc zl (nc zA (nc (zbv (lo:=m+1)) (nc (zk (z:=c2)) (nc zy (nc (zk (z:=c3)) (nc ze ?_)))))))))))))));refine ⟨by kernel_rfl,?_⟩;refine aS (aR ?_);refine nc zg (nc zh (nc zl (nc zC (nc zx (nc ze ?_)))));exact aT ⟨.inr rfl,_,Wk.refl _,rfl,rfl,trivial⟩
theorem a6B {P:Program} {f:FuncId} {X e z n:Nat} {l:List CV} {a1 a3:AV} {r:AV} {post:AS} (hX:(Nat.ble 200000 X&&Nat.blt X 450000)=true) (hn:n<=l.length) (h:r5 P f [(X,.mrow e z l)] [a1,.sl X 0 n z,a3] r post):a5N P f [(X,.mrow e z l)] X X (fun v _=>[a1,.val (.sc (M3 v n)),a3]) (fun _ _=>r) post:=by
 refine ⟨h.1,fun U w hv a0 vs hU gE hargs=>h.2 U w hv a0 vs hU gE ?_⟩;obtain ⟨u1,_,rfl,h1,u2,_,rfl,h2,h3⟩:=hargs;refine ⟨u1,_,rfl,h1,u2,_,rfl,?_,h3⟩;have kN:RN X:=rnF hX;have hu:u2=M3 (hv X) n:=(n8.1 h2.1).1;have kB:look [(X,AV.mrow e z l)] X=some (.mrow e z l):=lS _ _ _;obtain ⟨xs,f1,_⟩:=gE.mrow kB kN;obtain ⟨ao,cap,e1,e2,_⟩:=L2 f1;refine ⟨kN,?_⟩;show SlV (hv X) 0 n z u2;rw [hu,e1];exact ⟨ao,l.length,cap,ao,rfl,rfl,by omega,fun _=>rfl,fun _ g dC=>by rw [dC,Nat.zero_mul],Iff.rfl⟩
noncomputable def E6 (m:Mt) (c d:List Lt):List Lt:=(a2p c m.fr.n.toNat).map Lt.strip++((a2p d m.ti.n.toNat).map Lt.strip++[⟨v9 d m.ti.n,(C8 m.fr.b m.pl m.ti.a).getD ⟨0,[]⟩,m.ti.b⟩])
theorem a2E (W:World) (x y z:List Lt) (hl:x.length+y.length+z.length<=1000000):AFun Tryz.prog W 95 [.lst [.lst (x.map Lt.cv),.lst (y.map Lt.cv),.lst (z.map Lt.cv)]] (.val (.lst ((x++(y++z)).map Lt.cv))):=by
 have h:=a2z W [x,y,z] (by simp) (by simp;omega);have e:[x,y,z].flatten=x++(y++z):=by simp
 rw [e] at h;exact h
def Lt.rok (l:Lt):Prop:=(l.a.rng/\l.a.ok)/\l.b.rng/\l.b.ok
set_option maxHeartbeats 8000000 in
theorem a1D (c d:List Lt) (m:Mt) (eF:c.length<=1000) (hdl:d.length<=1000) (hc:∀ l∈c,l.rok) (hd:∀ l∈d,l.rok) (hi:0<=m.fr.n/\m.fr.n<c.length) (hj:0<=m.ti.n/\m.ti.n<d.length) (qB:m.fr.b.rng/\m.fr.b.size<=1000000) (mR:m.ti.a.rng/\m.ti.a.size<=100000) (mI:m.pl.length<=1000000):a5N Tryz.prog 68 [(400002,AV.mrow 3 1 (m.pl.map CV.i))] 400002 400002 (fun v _=>[.val (m.cvH v),.val (.lst (c.map Lt.cv)),.val (.lst (d.map Lt.cv))]) (fun _ _ => .val (.lst ((E6 m c d).map Lt.cv))) [(400002,AV.mrow 3 1 (m.pl.map CV.i))]:=by
 obtain ⟨⟨fn,fa,fb⟩,⟨tn,ta,tb⟩,pl,pt⟩:=m;simp only at hi hj qB mR mI;obtain ⟨i,rfl⟩:∃ i:Nat,fn=(i:Int):=⟨fn.toNat,by omega⟩
 obtain ⟨j,rfl⟩:∃ j:Nat,tn=(j:Int):=⟨tn.toNat,by omega⟩
 have cO:i<c.length:=by omega
 have iF:j<d.length:=by omega
 obtain ⟨l,hl⟩:∃ l,d[j]?=some l:=⟨d[j],List.getElem?_eq_getElem iF⟩
 have cA:=Lt.map_at hl;have hsd:=Lt.size_all d;have lX:v9 d (j:Int)=l.neg:=by unfold v9;rw [Int.toNat_natCast,hl]
 have hP:=a6B (by decide) (by simp) (a5t pl fb qB.1 (by omega) pl 0 ta rfl (by simp) mI mR.1 mR.2);obtain ⟨q,hq⟩:∃ q,q=(C8 fb pl ta).getD ⟨0,[]⟩:=⟨_,rfl⟩
 obtain ⟨ok,kH⟩:∃ ok,ok=(C8 fb pl ta).isSome:=⟨_,rfl⟩
 rw [<-hq,<-kH] at hP;have gX:=fun w=>K3 w c (i:Int) (by omega) hc;have tI:=fun w=>K3 w d (j:Int) (by omega) hd;rw [if_pos ⟨by omega,by omega⟩,Int.toNat_natCast] at gX tI;obtain ⟨A,hA⟩:∃ A,A=(a2p c i).map Lt.strip:=⟨_,rfl⟩
 obtain ⟨B,hB⟩:∃ B,B=(a2p d j).map Lt.strip:=⟨_,rfl⟩
 have tE:A.length<=1000:=by have:=N6 cO;rw [hA,length_map];omega
 have hBl:B.length<=1000:=by have:=N6 iF;rw [hB,length_map];omega
 have hJ:E6 ⟨⟨(i:Int),fa,fb⟩,⟨(j:Int),ta,tb⟩,pl,pt⟩ c d=A++(B++[⟨l.neg,q,tb⟩]):=by unfold E6;simp only [Int.toNat_natCast];rw [lX,<-hA,<-hB,<-hq]
 rw [hJ];rw [<-hA] at gX;rw [<-hB] at tI;have hC:=fun w=>a2E w A B [⟨l.neg,q,tb⟩] (by simp;omega);have fZ:(pl.map CV.i).length=pl.length:=length_map ..;refine a4J 46 400002 47 400002 Tryz.func68 Tryz.ntmps68 rfl rfl (fun _ _=>rfl) rfl rfl rfl rfl rfl ?_;intro v v2 w U hU;refine aS (aR ?_);refine nc zd (nc ze ?_);refine aS (aR ?_);refine nc zg (nc zg (nc zh (nc zg (nc zh (nc zg (nc zg (nc zh (nc (zbA 46 47 (x:=hP) (hnb:=i0 (by first | rfl | kernel_rfl))) (nc zl (nc zE (nc zE (nc zw (nc zx (nc ze ?_))))))))))))));refine AWp.wk (a7 (s':=(1,AV.val (.lst (c.map Lt.cv)))::(2,.val (.lst (d.map Lt.cv)))::(3,.bp 3 0 [])::(100003,.bx (.row [.row [.i (i:Int),fa.cw,fb.cw],.row [.i (j:Int),ta.cw,tb.cw],.sc (M3 v pl.length),pt.cw]))::(7,.bp 7 0 [])::(100007,.bx q.cw)::[(400002,.mrow 3 1 (pl.map CV.i))]) ⟨rfl,rfl,rfl,rfl,rfl,rfl,rfl,trivial⟩) ?_;refine aS (aD (by kernel_rfl) (by kernel_rfl) ?_);refine nc zl (nc zg (nc zg (nc zh (nc (zt (j:=j) (H:=cA) (hz:=hsd)) (nc zbH (nc zu (nc zj (nc zg (nc zg (nc zh (nc (zbN b0J) (nc (zbO b0J) (nc zx ?_)))))))))))));refine ⟨by kernel_rfl,?_⟩;refine aS (aD (by kernel_rfl) (by kernel_rfl) ?_);refine nc zl (nc zg (nc zg (nc zh (nc (zk (z:=gX w)) (nc zl (nc zg (nc zg (nc zh (nc (zk (z:=tI w)) (nc zj (nc zy (nc zy (nc (zk (z:=hC w)) (nc ze ?_))))))))))))));refine ⟨by kernel_rfl,?_⟩;exact aT ⟨.inr rfl,_,Wk.refl _,rfl,rfl,trivial⟩
set_option maxHeartbeats 8000000 in
theorem a1x (c d:List Lt) (m:Mt) (eF:c.length<=1000) (hdl:d.length<=1000) (hc:∀ l∈c,l.rok) (hd:∀ l∈d,l.rok) (hi:0<=m.fr.n/\m.fr.n<c.length) (hj:0<=m.ti.n/\m.ti.n<d.length) (qB:m.fr.b.rng/\m.fr.b.size<=1000000) (mR:m.ti.a.rng/\m.ti.a.size<=100000) (mI:m.pl.length<=1000000):a5N Tryz.prog 68 [(400003,AV.mrow 3 1 (m.pl.map CV.i))] 400003 400003 (fun v _=>[.val (m.cvH v),.val (.lst (c.map Lt.cv)),.val (.lst (d.map Lt.cv))]) (fun _ _ => .val (.lst ((E6 m c d).map Lt.cv))) [(400003,AV.mrow 3 1 (m.pl.map CV.i))]:=by
 obtain ⟨⟨fn,fa,fb⟩,⟨tn,ta,tb⟩,pl,pt⟩:=m;simp only at hi hj qB mR mI;obtain ⟨i,rfl⟩:∃ i:Nat,fn=(i:Int):=⟨fn.toNat,by omega⟩
 obtain ⟨j,rfl⟩:∃ j:Nat,tn=(j:Int):=⟨tn.toNat,by omega⟩
 have cO:i<c.length:=by omega
 have iF:j<d.length:=by omega
 obtain ⟨l,hl⟩:∃ l,d[j]?=some l:=⟨d[j],List.getElem?_eq_getElem iF⟩
 have cA:=Lt.map_at hl;have hsd:=Lt.size_all d;have lX:v9 d (j:Int)=l.neg:=by unfold v9;rw [Int.toNat_natCast,hl]
 have hP:=a6B (by decide) (by simp) (a5k pl fb qB.1 (by omega) pl 0 ta rfl (by simp) mI mR.1 mR.2);obtain ⟨q,hq⟩:∃ q,q=(C8 fb pl ta).getD ⟨0,[]⟩:=⟨_,rfl⟩
 obtain ⟨ok,kH⟩:∃ ok,ok=(C8 fb pl ta).isSome:=⟨_,rfl⟩
 rw [<-hq,<-kH] at hP;have gX:=fun w=>K3 w c (i:Int) (by omega) hc;have tI:=fun w=>K3 w d (j:Int) (by omega) hd;rw [if_pos ⟨by omega,by omega⟩,Int.toNat_natCast] at gX tI;obtain ⟨A,hA⟩:∃ A,A=(a2p c i).map Lt.strip:=⟨_,rfl⟩
 obtain ⟨B,hB⟩:∃ B,B=(a2p d j).map Lt.strip:=⟨_,rfl⟩
 have tE:A.length<=1000:=by have:=N6 cO;rw [hA,length_map];omega
 have hBl:B.length<=1000:=by have:=N6 iF;rw [hB,length_map];omega
 have hJ:E6 ⟨⟨(i:Int),fa,fb⟩,⟨(j:Int),ta,tb⟩,pl,pt⟩ c d=A++(B++[⟨l.neg,q,tb⟩]):=by unfold E6;simp only [Int.toNat_natCast];rw [lX,<-hA,<-hB,<-hq]
 rw [hJ];rw [<-hA] at gX;rw [<-hB] at tI;have hC:=fun w=>a2E w A B [⟨l.neg,q,tb⟩] (by simp;omega);have fZ:(pl.map CV.i).length=pl.length:=length_map ..;refine a4J 46 400003 47 400003 Tryz.func68 Tryz.ntmps68 rfl rfl (fun _ _=>rfl) rfl rfl rfl rfl rfl ?_;intro v v2 w U hU;refine aS (aR ?_);refine nc zd (nc ze ?_);refine aS (aR ?_);refine nc zg (nc zg (nc zh (nc zg (nc zh (nc zg (nc zg (nc zh (nc (zbA 46 47 (x:=hP) (hnb:=i0 (by first | rfl | kernel_rfl))) (nc zl (nc zE (nc zE (nc zw (nc zx (nc ze ?_))))))))))))));refine AWp.wk (a7 (s':=(1,AV.val (.lst (c.map Lt.cv)))::(2,.val (.lst (d.map Lt.cv)))::(3,.bp 3 0 [])::(100003,.bx (.row [.row [.i (i:Int),fa.cw,fb.cw],.row [.i (j:Int),ta.cw,tb.cw],.sc (M3 v pl.length),pt.cw]))::(7,.bp 7 0 [])::(100007,.bx q.cw)::[(400003,.mrow 3 1 (pl.map CV.i))]) ⟨rfl,rfl,rfl,rfl,rfl,rfl,rfl,trivial⟩) ?_;refine aS (aD (by kernel_rfl) (by kernel_rfl) ?_);refine nc zl (nc zg (nc zg (nc zh (nc (zt (j:=j) (H:=cA) (hz:=hsd)) (nc zbH (nc zu (nc zj (nc zg (nc zg (nc zh (nc (zbN b0J) (nc (zbO b0J) (nc zx ?_)))))))))))));refine ⟨by kernel_rfl,?_⟩;refine aS (aD (by kernel_rfl) (by kernel_rfl) ?_);refine nc zl (nc zg (nc zg (nc zh (nc (zk (z:=gX w)) (nc zl (nc zg (nc zg (nc zh (nc (zk (z:=tI w)) (nc zj (nc zy (nc zy (nc (zk (z:=hC w)) (nc ze ?_))))))))))))));refine ⟨by kernel_rfl,?_⟩;exact aT ⟨.inr rfl,_,Wk.refl _,rfl,rfl,trivial⟩
noncomputable def a2X (ld:Tm->Tm->Bool) (c d:List Lt) (m:Mt):Option (List Lt):=
 if (mgT m.fr.a m.pt).2=true/\ld (a8 (mgS m.fr.a m.pt) m.fr.a) (a8 (mgS m.fr.a m.pt) m.fr.b)=true/\ld (a8 (mgS m.fr.a m.pt) m.ti.a) (a8 (mgS m.fr.a m.pt) m.ti.b)=true then some ((E6 m c d).map (Lt.rep (mgS m.fr.a m.pt))) else none
noncomputable def a6u (ld:Tm->Tm->Bool) (c d:List Lt) (ms:List Mt):List (List Lt):=ms.filterMap (a2X ld c d)
theorem b3L {ld:Tm->Tm->Bool} {c d:List Lt} {ms:List Mt} {k:Nat} {m:Mt} (h:ms[k]?=some m):a6u ld c d (ms.take (k+1))=a6u ld c d (ms.take k)++(a2X ld c d m).toList:=by
 unfold a6u;rw [List.take_add_one,h,List.filterMap_append];congr 1
structure c0k (fd:Nat) (ld:Tm->Tm->Bool) (c d:List Lt) (m:Mt):Prop where
 un:∀ w,AFun Tryz.prog w 65 [m.fr.a.cw,m.pt.cw] (.tup [.lst ((mgT m.fr.a m.pt).1.map Bd.cv),.b (mgT m.fr.a m.pt).2])
 ap:∀ w t,t=m.fr.a\/t=m.fr.b\/t=m.ti.a\/t=m.ti.b->AFun Tryz.prog w 66 [.lst ((mgT m.fr.a m.pt).1.map Bd.cv),t.cw] (.val (a8 (mgS m.fr.a m.pt) t).cw)
 ld1:∀ w,AFun Tryz.prog w fd [(a8 (mgS m.fr.a m.pt) m.fr.a).cw,(a8 (mgS m.fr.a m.pt) m.fr.b).cw] (.val (.b (ld (a8 (mgS m.fr.a m.pt) m.fr.a) (a8 (mgS m.fr.a m.pt) m.fr.b))))
 ld2:∀ w,AFun Tryz.prog w fd [(a8 (mgS m.fr.a m.pt) m.ti.a).cw,(a8 (mgS m.fr.a m.pt) m.ti.b).cw] (.val (.b (ld (a8 (mgS m.fr.a m.pt) m.ti.a) (a8 (mgS m.fr.a m.pt) m.ti.b))))
 ca:∀ w,AFun Tryz.prog w 67 [.lst ((mgT m.fr.a m.pt).1.map Bd.cv),.lst ((E6 m c d).map Lt.cv)] (.val (.lst (((E6 m c d).map (Lt.rep (mgS m.fr.a m.pt))).map Lt.cv)))
 i:0<=m.fr.n/\m.fr.n<c.length
 j:0<=m.ti.n/\m.ti.n<d.length
 fb:m.fr.b.rng/\m.fr.b.size<=1000000
 ta:m.ti.a.rng/\m.ti.a.size<=100000
 pl:m.pl.length<=1000000
set_option maxHeartbeats 16000000 in
theorem a5h (W:World) (fl fd:Nat) (ld:Tm->Tm->Bool) (c d d':List Lt) (L M:List Int) (tp:Int) (htp : -1<=tp/\tp<=4000000000000000000) (eF:c.length<=1000) (hdl:d'.length<=1000) (hc:∀ l∈c,l.rok) (hd:∀ l∈d',l.rok)
  (hTop:∀ w,AFun Tryz.prog w 63 [.lst (c.map Lt.cv)] (.val (.i tp))) (hRen:∀ w,AFun Tryz.prog w 18 [.lst (d.map Lt.cv),.i (tp+1)] (.val (.lst (d'.map Lt.cv))))
  (cK:∀ w,AFun Tryz.prog w fl [.lst (c.map Lt.cv)] (.val (.lst (L.map CV.i)))) (hlM:∀ w,AFun Tryz.prog w fl [.lst (d'.map Lt.cv)] (.val (.lst (M.map CV.i))))
  (hL:∀ n∈L,0<=n/\n<c.length) (hM:∀ n∈M,0<=n/\n<d'.length) (mP:L.length<=1000000) (hMl:M.length<=1000000)
  (hlw:∀ w,∀ l,l∈c\/l∈d'->AFun Tryz.prog w fd [l.a.cw,l.b.cw] (.val (.b (ld l.a l.b)))/\AFun Tryz.prog w fd [l.b.cw,l.a.cw] (.val (.b (ld l.b l.a)))) (kC:∀ w∈B7 ld d' M,w.a.size<=1000000) (yM:∀ w∈B7 ld c L,0<=w.n/\w.n<c.length)
  (hml:(W0 (v9 c) (B7 ld c L) (B7 ld d' M)).length<=1000000) (hfo:∀ m∈W0 (v9 c) (B7 ld c L) (B7 ld d' M),c0k fd ld c d' m) :
  AFun Tryz.prog W 39 [ruC fl fd,.lst (c.map Lt.cv),.lst (d.map Lt.cv)] (.val (.lst ((a6u ld c d' (W0 (v9 c) (B7 ld c L) (B7 ld d' M))).map clC))):=by
 have xZ:a2V Tryz.prog 118:=x9 Tryz.func118 rfl rfl;have pT:a2V Tryz.prog 90:=x9 Tryz.func90 rfl rfl;have hh:=fun Ls=>a6V c 118 118 _ _ (B7 ld c L) (B7 ld d' M) xZ xZ yM kC (a0N fl fd ld c (by omega) L hL mP (fun w l hl=>hlw w l (.inl hl))) (a0N fl fd ld d' (by omega) M hM hMl (fun w l hl=>hlw w l (.inr hl))) Ls;obtain ⟨ms,hms⟩:∃ ms,ms=W0 (v9 c) (B7 ld c L) (B7 ld d' M):=⟨_,rfl⟩
 rw [<-hms] at hh hml hfo |-;refine b5r Tryz.func39 Tryz.ntmps39 rfl rfl rfl rfl ?_;intro w U hW;have hme:=fun w=>b1B w fl fd c d' L M cK hlM;obtain ⟨caps,eJ⟩:∃ caps,caps=[CV.ptr (.fn 118 0 [.ptr (.lst (L.map CV.i)),.ptr (.lst (c.map Lt.cv)),.ptr (ruC fl fd)]),.ptr (.lst (c.map Lt.cv)),.ptr (.fn 118 0 [.ptr (.lst (M.map CV.i)),.ptr (.lst (d'.map Lt.cv)),.ptr (ruC fl fd)])]:=⟨_,rfl⟩
 rw [<-eJ] at hme hh;refine I0 (aR ?_);refine nc zd (nc zd (nc zd (nc ze ?_)));refine ⟨rfl,?_⟩;refine I0 (aD (by kernel_rfl) (by kernel_rfl) ?_);refine nc zj (nc zj (nc (zk (z:=hTop w)) (nc zA (nc (zk (z:=hRen w)) (nc zx ?_)))));refine ⟨by kernel_rfl,?_⟩;refine ⟨rfl,?_⟩;refine I0 (aR ?_);refine nc (zbk 350001 (C:=fun v h=>by first | (rw [hW.1] at h;cases h) | (have h2:=hU _ v h;cases h2))) ?_;refine ⟨rfl,?_⟩;refine a1B ((p9 3 rfl rfl rfl (s':=[(4,.bp 4 0 []),(100004,.bx (.lst (c.map Lt.cv))),(5,.bp 5 0 []),(100005,.bx (.lst (d'.map Lt.cv))),(7,.bp 350001 0 []),(450001,.obj),(35500100,⟨0,.lst [],1,0,[]⟩)]) ⟨rfl,rfl,rfl,rfl,rfl,rfl,rfl,trivial⟩ rfl rfl rfl).trans ((p9 4 rfl rfl rfl (s':=[(3,.val (.ptr (ruC fl fd))),(5,.bp 5 0 []),(100005,.bx (.lst (d'.map Lt.cv))),(7,.bp 350001 0 []),(450001,.obj),(35500100,⟨0,.lst [],1,0,[]⟩)]) ⟨rfl,rfl,rfl,rfl,rfl,rfl,trivial⟩ rfl rfl rfl).trans ((p9 5 rfl rfl rfl (s':=[(3,.val (.ptr (ruC fl fd))),(4,.val (.ptr (.lst (c.map Lt.cv)))),(7,.bp 350001 0 []),(450001,.obj),(35500100,⟨0,.lst [],1,0,[]⟩)]) ⟨rfl,rfl,rfl,rfl,rfl,trivial⟩ rfl rfl rfl).trans (b9K 35500100 300005 26 1 rfl rfl rfl rfl rfl rfl)))) ?_;refine a5V (I0 (aR ?_));refine nc zI (nc zI (nc zI (nc (zk (z:=hme w)) ?_)));refine ⟨rfl,?_⟩;refine a0E ?_;refine a1B (a7 (s':=(21,AV.val (.fn 90 0 caps))::(3,.val (.ptr (ruC fl fd)))::(4,.val (.ptr (.lst (c.map Lt.cv))))::(5,.val (.ptr (.lst (d'.map Lt.cv))))::(7,.bp 350001 0 [])::obE []) ⟨rfl,rfl,rfl,rfl,rfl,rfl,rfl,rfl,trivial⟩) ?_;refine a1L (a2h (ps:=[22]) (fun k=>obE (a6u ld c d' (ms.take k))) [(3,.val (.ptr (ruC fl fd))),(4,.val (.ptr (.lst (c.map Lt.cv)))),(5,.val (.ptr (.lst (d'.map Lt.cv)))),(7,.bp 350001 0 [])] (fun X v=>[(71,.hdl v X)]) rfl pT (hh fun k=>a6u ld c d' (ms.take k)) rfl (fun _ _ _=>rfl) ⟨rfl,rfl,rfl,rfl,trivial⟩ rfl ⟨.inl ⟨_,rfl⟩,.inl ⟨_,rfl⟩,.inl ⟨_,rfl⟩,.inr rfl,trivial⟩ ⟨rfl,rfl,rfl,trivial⟩ ⟨by kernel_rfl,by kernel_rfl,fun k=>rfl,rfl,rfl,rfl⟩ (fun k X hX x=>by
   simp only [mem_cons,not_mem_nil,or_false] at hX;rcases hX with rfl | rfl<;>rfl) (fun X hX => .inr ⟨71,fun _=>rfl,by decide,by decide,by
   simp only [mem_cons,not_mem_nil,or_false] at hX;unfold RN;omega⟩) (by kernel_rfl) ?_) ?_
 ·intro k m hm X hX v w U hU eL;have hF:=hfo m (mem_of_getElem? hm);have xR:k<ms.length:=by
   rcases Nat.lt_or_ge k ms.length with h | h
   ·exact h
   ·rw [getElem?_eq_none h] at hm;cases hm
  obtain ⟨L0,hL0⟩:∃ L0,L0=a6u ld c d' (ms.take k):=⟨_,rfl⟩
  have hL0l:L0.length<=1000000:=by have h1:=List.length_filterMap_le (a2X ld c d') (ms.take k);rw [length_take] at h1;rw [hL0];show (a6u ld c d' (ms.take k)).length<=_;unfold a6u;omega
  have hszc:=a9A L0;have xH:(L0.map clC).length=L0.length:=length_map ..;rw [b3L hm,<-hL0];obtain ⟨ok,kH⟩:∃ ok,ok=(mgT m.fr.a m.pt).2:=⟨_,rfl⟩
  obtain ⟨g1,wQ⟩:∃ g,g=ld (a8 (mgS m.fr.a m.pt) m.fr.a) (a8 (mgS m.fr.a m.pt) m.fr.b):=⟨_,rfl⟩
  obtain ⟨g2,oX⟩:∃ g,g=ld (a8 (mgS m.fr.a m.pt) m.ti.a) (a8 (mgS m.fr.a m.pt) m.ti.b):=⟨_,rfl⟩
  have rA:a2X ld c d' m=if ok=true/\g1=true/\g2=true then some ((E6 m c d').map (Lt.rep (mgS m.fr.a m.pt))) else none:=by unfold a2X;rw [kH,wQ,oX]
  have gA:(ok=false\/g1=false\/g2=false)->a2X ld c d' m=none:=fun h=>by
   rw [rA,if_neg];rintro ⟨h1,h2,h3⟩;rcases h with h | h | h
   ·rw [h1] at h;cases h
   ·rw [h2] at h;cases h
   ·rw [h3] at h;cases h
  have qK:ok=true->g1=true->g2=true->a2X ld c d' m=some ((E6 m c d').map (Lt.rep (mgS m.fr.a m.pt))):=fun h1 h2 h3=>by rw [rA,if_pos ⟨h1,h2,h3⟩]
  have gB:∀ w,AFunV Tryz.prog w (.fn fd 0 []) [(a8 (mgS m.fr.a m.pt) m.fr.a).cw,(a8 (mgS m.fr.a m.pt) m.fr.b).cw] (.val (.b g1)):=fun w=>⟨fd,0,[],rfl,by rw [wQ];exact hF.ld1 w⟩
  have gI:∀ w,AFunV Tryz.prog w (.fn fd 0 []) [(a8 (mgS m.fr.a m.pt) m.ti.a).cw,(a8 (mgS m.fr.a m.pt) m.ti.b).cw] (.val (.b g2)):=fun w=>⟨fd,0,[],rfl,by rw [oX];exact hF.ld2 w⟩
  simp only [mem_cons,not_mem_nil,or_false] at hX;rcases hX with rfl | rfl
  ·have hJn:=a1D c d' m eF hdl hc hd hF.i hF.j hF.fb hF.ta hF.pl;show AWp _ _ _ _ _ _ ((22,AV.val (.row [.row [.i m.fr.n,m.fr.a.cw,m.fr.b.cw],.row [.i m.ti.n,m.ti.a.cw,m.ti.b.cw],.sc (M3 v m.pl.length),m.pt.cw]))::(71,.hdl v 400002)::(3,.val (.ptr (ruC fl fd)))::(4,.val (.ptr (.lst (c.map Lt.cv))))::(5,.val (.ptr (.lst (d'.map Lt.cv))))::(7,.bp 350001 0 [])::obX L0 400002 m.pl);refine aR ?_;refine ne (zbO c0j) (nc zx ?_);refine ⟨rfl,fun w1 mC=>a1F ?_⟩;refine AWp.wk (a7 (s':=(8,AV.bp 8 0 [])::(100008,.bx (.row [.row [.i m.fr.n,m.fr.a.cw,m.fr.b.cw],.row [.i m.ti.n,m.ti.a.cw,m.ti.b.cw],.sc (M3 v m.pl.length),m.pt.cw]))::(3,.val (.ptr (ruC fl fd)))::(4,.val (.ptr (.lst (c.map Lt.cv))))::(5,.val (.ptr (.lst (d'.map Lt.cv))))::(7,.bp 350001 0 [])::(71,.hdl v 400002)::obX L0 400002 m.pl) ⟨rfl,rfl,rfl,rfl,rfl,rfl,rfl,rfl,rfl,rfl,rfl,trivial⟩) ?_;refine aB (aS (aR ?_));refine nc zg (nc zg (nc zh (nc zg (nc zh (nc (zk (z:=hF.un w1)) (nc zl (nc zE (nc zE (nc ze (nc ze ?_))))))))));refine AWp.wk (a7 (s':=(9,AV.val (.lst ((mgT m.fr.a m.pt).1.map Bd.cv)))::(10,.val (.b ok))::(8,AV.bp 8 0 [])::(100008,.bx (.row [.row [.i m.fr.n,m.fr.a.cw,m.fr.b.cw],.row [.i m.ti.n,m.ti.a.cw,m.ti.b.cw],.sc (M3 v m.pl.length),m.pt.cw]))::(3,.val (.ptr (ruC fl fd)))::(4,.val (.ptr (.lst (c.map Lt.cv))))::(5,.val (.ptr (.lst (d'.map Lt.cv))))::(7,.bp 350001 0 [])::(71,.hdl v 400002)::obX L0 400002 m.pl) ⟨rfl,by rw [kH];rfl,rfl,rfl,rfl,rfl,rfl,rfl,rfl,rfl,rfl,rfl,rfl,trivial⟩) ?_;cases ok with
   | false =>
    rw [gA (.inl rfl)];refine aS (aS (aR ?_));refine nc zl (nc zZ ?_);refine aC rfl (fun _=>?_) (fun h=>by cases h);refine aE ?_;refine ⟨rfl,a7 ⟨rfl,?_,?_,rfl,trivial⟩⟩
    ·show some (AV.sl _ _ _ _)=some (AV.sl _ _ _ _);simp
    ·show some (AV.mrow _ _ _)=some (AV.mrow _ _ _);simp
   | true =>
    refine aS (aS (aR ?_));refine nc zl (nc zZ ?_);refine aC rfl (fun h=>by cases h) (fun _=>aK ?_);refine aS (aD (by kernel_rfl) (by kernel_rfl) ?_);refine nc zg (nc zh (nc zg (nc zh (ne (zbO [.i 0,.row [.i 0,.lst []],.row [.i 0,.lst []]]) (ne (zbO [.i 0,.row [.i 0,.lst []],.row [.i 0,.lst []]]) (nc zx (nc zx ?_)))))));refine ⟨by kernel_rfl,?_⟩;refine AWp.wk ((a7 (s':=(9,AV.val (.lst ((mgT m.fr.a m.pt).1.map Bd.cv)))::(11,.bp 11 0 [])::(100011,.bx (.row [.i m.fr.n,m.fr.a.cw,m.fr.b.cw]))::(12,.bp 12 0 [])::(100012,.bx (.row [.i m.ti.n,m.ti.a.cw,m.ti.b.cw]))::(8,AV.bp 8 0 [])::(100008,.bx (.row [.row [.i m.fr.n,m.fr.a.cw,m.fr.b.cw],.row [.i m.ti.n,m.ti.a.cw,m.ti.b.cw],.sc (M3 v m.pl.length),m.pt.cw]))::(3,.val (.ptr (ruC fl fd)))::(4,.val (.ptr (.lst (c.map Lt.cv))))::(5,.val (.ptr (.lst (d'.map Lt.cv))))::(7,.bp 350001 0 [])::(71,.hdl v 400002)::obX L0 400002 m.pl) ⟨rfl,rfl,rfl,rfl,rfl,rfl,rfl,rfl,rfl,rfl,rfl,rfl,rfl,rfl,rfl,rfl,trivial⟩).trans (a4G 3 rfl rfl)) ?_;cases g1 with
    | false =>
     rw [gA (.inr (.inl rfl))];refine aS (aD (by kernel_rfl) (by kernel_rfl) ?_);refine nc zbH (nc zu (nc zl (nc zg (nc zh (nc (zk (z:=hF.ap w1 _ (.inl rfl))) (nc zl (nc zg (nc zh (nc (zk (z:=hF.ap w1 _ (.inr (.inl rfl)))) (nc (zH (E:=gB w1)) (nc zl (nc zq (nc zq (nc zq (nc zq (nc zq (nc zq (nc zq (nc zq (nc zq (nc zq (nc zq (nc zr ?_)))))))))))))))))))))));refine ⟨by kernel_rfl,?_⟩;refine aC rfl (fun h=>by cases h) (fun _=>aK ?_);refine ⟨rfl,a7 ⟨rfl,?_,?_,rfl,trivial⟩⟩
     ·show some (AV.sl _ _ _ _)=some (AV.sl _ _ _ _);simp
     ·show some (AV.mrow _ _ _)=some (AV.mrow _ _ _);simp
    | true =>
     refine aS (aD (by kernel_rfl) (by kernel_rfl) ?_);refine nc zbH (nc zu (nc zl (nc zg (nc zh (nc (zk (z:=hF.ap w1 _ (.inl rfl))) (nc zl (nc zg (nc zh (nc (zk (z:=hF.ap w1 _ (.inr (.inl rfl)))) (nc (zH (E:=gB w1)) (nc zl (nc (zbH (r:=gb)) (nc (zu (r:=gb)) (nc (zl (p:=gb)) (nc (zg (r:=gb)) (nc (zh (r:=gb)) (nc (zk (p:=gb) (z:=hF.ap w1 _ (.inr (.inr (.inl rfl))))) (nc (zl (p:=gb)) (nc (zg (r:=gb)) (nc (zh (r:=gb)) (nc (zk (p:=gb) (z:=hF.ap w1 _ (.inr (.inr (.inr rfl))))) (nc (zH (t:=gb) (E:=gI w1)) (nc zp ?_)))))))))))))))))))))));refine ⟨by kernel_rfl,?_⟩;cases g2 with
     | false =>
      rw [gA (.inr (.inr rfl))];refine aC rfl (fun h=>by cases h) (fun _=>aK ?_);refine ⟨rfl,a7 ⟨rfl,?_,?_,rfl,trivial⟩⟩
      ·show some (AV.sl _ _ _ _)=some (AV.sl _ _ _ _);simp
      ·show some (AV.mrow _ _ _)=some (AV.mrow _ _ _);simp
     | true =>
      rw [qK rfl rfl rfl];have xI:=hF.ca w1;obtain ⟨z,hz⟩:∃ z,z=(E6 m c d').map (Lt.rep (mgS m.fr.a m.pt)):=⟨_,rfl⟩
      rw [<-hz] at xI |-;refine aC rfl (fun _=>?_) (fun h=>by cases h);refine AWp.wk (a7 (s':=(9,AV.val (.lst ((mgT m.fr.a m.pt).1.map Bd.cv)))::(8,AV.bp 8 0 [])::(100008,.bx (.row [.row [.i m.fr.n,m.fr.a.cw,m.fr.b.cw],.row [.i m.ti.n,m.ti.a.cw,m.ti.b.cw],.sc (M3 v m.pl.length),m.pt.cw]))::(4,.val (.ptr (.lst (c.map Lt.cv))))::(5,.val (.ptr (.lst (d'.map Lt.cv))))::(7,.bp 350001 0 [])::(71,.hdl v 400002)::obX L0 400002 m.pl) ⟨rfl,rfl,rfl,rfl,rfl,rfl,rfl,rfl,rfl,rfl,rfl,trivial⟩) ?_;refine aD (by kernel_rfl) (by kernel_rfl) ?_;refine nc z8 (nc zl (nc zj (nc zI (nc zI (nc (zbA 71 71 (x:=hJn) (hnb:=i0 (by first | rfl | kernel_rfl))) (nc (zk (z:=xI)) (nc zy (ne (zbb 300006) (nc zbc ?_)))))))));refine ⟨by kernel_rfl,?_⟩;refine ⟨rfl,(a7 (s':=[(450001,.obj),(35500100,.sl 300006 0 (L0++[z]).length 1),(300006,.mrow 26 1 ((L0++[z]).map clC)),(400002,.mrow 3 1 (m.pl.map CV.i))]) ⟨rfl,?_,?_,rfl,trivial⟩).trans (B2 300006 300005 rfl rfl (by kernel_rfl) (by kernel_rfl))⟩
      ·show some (AV.sl _ _ _ _)=some (AV.sl _ _ _ _);rw [length_append,<-xH];rfl
      ·show some (AV.mrow _ _ _)=some (AV.mrow _ _ _);rw [map_append (f:=clC)];rfl
  ·have hJn:=a1x c d' m eF hdl hc hd hF.i hF.j hF.fb hF.ta hF.pl;show AWp _ _ _ _ _ _ ((22,AV.val (.row [.row [.i m.fr.n,m.fr.a.cw,m.fr.b.cw],.row [.i m.ti.n,m.ti.a.cw,m.ti.b.cw],.sc (M3 v m.pl.length),m.pt.cw]))::(71,.hdl v 400003)::(3,.val (.ptr (ruC fl fd)))::(4,.val (.ptr (.lst (c.map Lt.cv))))::(5,.val (.ptr (.lst (d'.map Lt.cv))))::(7,.bp 350001 0 [])::obX L0 400003 m.pl);refine aR ?_;refine ne (zbO c0j) (nc zx ?_);refine ⟨rfl,fun w1 mC=>a1F ?_⟩;refine AWp.wk (a7 (s':=(8,AV.bp 8 0 [])::(100008,.bx (.row [.row [.i m.fr.n,m.fr.a.cw,m.fr.b.cw],.row [.i m.ti.n,m.ti.a.cw,m.ti.b.cw],.sc (M3 v m.pl.length),m.pt.cw]))::(3,.val (.ptr (ruC fl fd)))::(4,.val (.ptr (.lst (c.map Lt.cv))))::(5,.val (.ptr (.lst (d'.map Lt.cv))))::(7,.bp 350001 0 [])::(71,.hdl v 400003)::obX L0 400003 m.pl) ⟨rfl,rfl,rfl,rfl,rfl,rfl,rfl,rfl,rfl,rfl,rfl,trivial⟩) ?_;refine aB (aS (aR ?_));refine nc zg (nc zg (nc zh (nc zg (nc zh (nc (zk (z:=hF.un w1)) (nc zl (nc zE (nc zE (nc ze (nc ze ?_))))))))));refine AWp.wk (a7 (s':=(9,AV.val (.lst ((mgT m.fr.a m.pt).1.map Bd.cv)))::(10,.val (.b ok))::(8,AV.bp 8 0 [])::(100008,.bx (.row [.row [.i m.fr.n,m.fr.a.cw,m.fr.b.cw],.row [.i m.ti.n,m.ti.a.cw,m.ti.b.cw],.sc (M3 v m.pl.length),m.pt.cw]))::(3,.val (.ptr (ruC fl fd)))::(4,.val (.ptr (.lst (c.map Lt.cv))))::(5,.val (.ptr (.lst (d'.map Lt.cv))))::(7,.bp 350001 0 [])::(71,.hdl v 400003)::obX L0 400003 m.pl) ⟨rfl,by rw [kH];rfl,rfl,rfl,rfl,rfl,rfl,rfl,rfl,rfl,rfl,rfl,rfl,trivial⟩) ?_;cases ok with
   | false =>
    rw [gA (.inl rfl)];refine aS (aS (aR ?_));refine nc zl (nc zZ ?_);refine aC rfl (fun _=>?_) (fun h=>by cases h);refine aE ?_;refine ⟨rfl,a7 ⟨rfl,?_,?_,rfl,trivial⟩⟩
    ·show some (AV.sl _ _ _ _)=some (AV.sl _ _ _ _);simp
    ·show some (AV.mrow _ _ _)=some (AV.mrow _ _ _);simp
   | true =>
    refine aS (aS (aR ?_));refine nc zl (nc zZ ?_);refine aC rfl (fun h=>by cases h) (fun _=>aK ?_);refine aS (aD (by kernel_rfl) (by kernel_rfl) ?_);refine nc zg (nc zh (nc zg (nc zh (ne (zbO [.i 0,.row [.i 0,.lst []],.row [.i 0,.lst []]]) (ne (zbO [.i 0,.row [.i 0,.lst []],.row [.i 0,.lst []]]) (nc zx (nc zx ?_)))))));refine ⟨by kernel_rfl,?_⟩;refine AWp.wk ((a7 (s':=(9,AV.val (.lst ((mgT m.fr.a m.pt).1.map Bd.cv)))::(11,.bp 11 0 [])::(100011,.bx (.row [.i m.fr.n,m.fr.a.cw,m.fr.b.cw]))::(12,.bp 12 0 [])::(100012,.bx (.row [.i m.ti.n,m.ti.a.cw,m.ti.b.cw]))::(8,AV.bp 8 0 [])::(100008,.bx (.row [.row [.i m.fr.n,m.fr.a.cw,m.fr.b.cw],.row [.i m.ti.n,m.ti.a.cw,m.ti.b.cw],.sc (M3 v m.pl.length),m.pt.cw]))::(3,.val (.ptr (ruC fl fd)))::(4,.val (.ptr (.lst (c.map Lt.cv))))::(5,.val (.ptr (.lst (d'.map Lt.cv))))::(7,.bp 350001 0 [])::(71,.hdl v 400003)::obX L0 400003 m.pl) ⟨rfl,rfl,rfl,rfl,rfl,rfl,rfl,rfl,rfl,rfl,rfl,rfl,rfl,rfl,rfl,rfl,trivial⟩).trans (a4G 3 rfl rfl)) ?_;cases g1 with
    | false =>
     rw [gA (.inr (.inl rfl))];refine aS (aD (by kernel_rfl) (by kernel_rfl) ?_);refine nc zbH (nc zu (nc zl (nc zg (nc zh (nc (zk (z:=hF.ap w1 _ (.inl rfl))) (nc zl (nc zg (nc zh (nc (zk (z:=hF.ap w1 _ (.inr (.inl rfl)))) (nc (zH (E:=gB w1)) (nc zl (nc zq (nc zq (nc zq (nc zq (nc zq (nc zq (nc zq (nc zq (nc zq (nc zq (nc zq (nc zr ?_)))))))))))))))))))))));refine ⟨by kernel_rfl,?_⟩;refine aC rfl (fun h=>by cases h) (fun _=>aK ?_);refine ⟨rfl,a7 ⟨rfl,?_,?_,rfl,trivial⟩⟩
     ·show some (AV.sl _ _ _ _)=some (AV.sl _ _ _ _);simp
     ·show some (AV.mrow _ _ _)=some (AV.mrow _ _ _);simp
    | true =>
     refine aS (aD (by kernel_rfl) (by kernel_rfl) ?_);refine nc zbH (nc zu (nc zl (nc zg (nc zh (nc (zk (z:=hF.ap w1 _ (.inl rfl))) (nc zl (nc zg (nc zh (nc (zk (z:=hF.ap w1 _ (.inr (.inl rfl)))) (nc (zH (E:=gB w1)) (nc zl (nc (zbH (r:=gb)) (nc (zu (r:=gb)) (nc (zl (p:=gb)) (nc (zg (r:=gb)) (nc (zh (r:=gb)) (nc (zk (p:=gb) (z:=hF.ap w1 _ (.inr (.inr (.inl rfl))))) (nc (zl (p:=gb)) (nc (zg (r:=gb)) (nc (zh (r:=gb)) (nc (zk (p:=gb) (z:=hF.ap w1 _ (.inr (.inr (.inr rfl))))) (nc (zH (t:=gb) (E:=gI w1)) (nc zp ?_)))))))))))))))))))))));refine ⟨by kernel_rfl,?_⟩;cases g2 with
     | false =>
      rw [gA (.inr (.inr rfl))];refine aC rfl (fun h=>by cases h) (fun _=>aK ?_);refine ⟨rfl,a7 ⟨rfl,?_,?_,rfl,trivial⟩⟩
      ·show some (AV.sl _ _ _ _)=some (AV.sl _ _ _ _);simp
      ·show some (AV.mrow _ _ _)=some (AV.mrow _ _ _);simp
     | true =>
      rw [qK rfl rfl rfl];have xI:=hF.ca w1;obtain ⟨z,hz⟩:∃ z,z=(E6 m c d').map (Lt.rep (mgS m.fr.a m.pt)):=⟨_,rfl⟩
      rw [<-hz] at xI |-;refine aC rfl (fun _=>?_) (fun h=>by cases h);refine AWp.wk (a7 (s':=(9,AV.val (.lst ((mgT m.fr.a m.pt).1.map Bd.cv)))::(8,AV.bp 8 0 [])::(100008,.bx (.row [.row [.i m.fr.n,m.fr.a.cw,m.fr.b.cw],.row [.i m.ti.n,m.ti.a.cw,m.ti.b.cw],.sc (M3 v m.pl.length),m.pt.cw]))::(4,.val (.ptr (.lst (c.map Lt.cv))))::(5,.val (.ptr (.lst (d'.map Lt.cv))))::(7,.bp 350001 0 [])::(71,.hdl v 400003)::obX L0 400003 m.pl) ⟨rfl,rfl,rfl,rfl,rfl,rfl,rfl,rfl,rfl,rfl,rfl,trivial⟩) ?_;refine aD (by kernel_rfl) (by kernel_rfl) ?_;refine nc z8 (nc zl (nc zj (nc zI (nc zI (nc (zbA 71 71 (x:=hJn) (hnb:=i0 (by first | rfl | kernel_rfl))) (nc (zk (z:=xI)) (nc zy (ne (zbb 300006) (nc zbc ?_)))))))));refine ⟨by kernel_rfl,?_⟩;refine ⟨rfl,(a7 (s':=[(450001,.obj),(35500100,.sl 300006 0 (L0++[z]).length 1),(300006,.mrow 26 1 ((L0++[z]).map clC)),(400003,.mrow 3 1 (m.pl.map CV.i))]) ⟨rfl,?_,?_,rfl,trivial⟩).trans (B2 300006 300005 rfl rfl (by kernel_rfl) (by kernel_rfl))⟩
      ·show some (AV.sl _ _ _ _)=some (AV.sl _ _ _ _);rw [length_append,<-xH];rfl
      ·show some (AV.mrow _ _ _)=some (AV.mrow _ _ _);rw [map_append (f:=clC)];rfl
 ·rintro e s' g ⟨rfl,rfl⟩;rw [take_length];refine ⟨rfl,rfl,?_⟩;refine aS (aR ?_);refine nc z8 (nc ze ?_);obtain ⟨R,hR⟩:∃ R,R=a6u ld c d' ms:=⟨_,rfl⟩
  rw [<-hR];refine aT ⟨⟨.inr rfl,[(6,AV.val (.lst (((R.map clC).drop 0).take R.length)))],?_,?_,trivial,rfl⟩,rfl⟩
  ·exact (a8s 6 300005 (e:=26) (z:=1) (lo:=0) (len:=R.length) (l:=R.map clC) rfl rfl rfl (.inl hW.2) (by simp) (s':=[(299999,.ob g 0)]) ⟨rfl,trivial⟩ rfl).trans (a7 ⟨rfl,rfl,trivial⟩)
  ·rw [List.drop_zero,List.take_of_length_le (by simp)];rfl
set_option maxHeartbeats 2000000 in
theorem a8T (W:World) (a b:Tm) (ha:(a.rng/\a.ok)/\a.size<=16) (hb:(b.rng/\b.ok)/\b.size<=16) (tJ:∀ τ,uni τ [(a,b)]->a.ten/\b.ten) (l:List (Tm×Tm)) (cY:l=[(a,b)]) (r:List Bd×Bool) (hT:ToldU l r):AFun Tryz.prog W 92 [.lst (l.map prv)] (.tup [.lst (r.1.map Bd.cv),.b r.2]):=by
 have hl:∀ p∈l,(p.1.rng/\p.1.ok)/\(p.2.rng/\p.2.ok):=fun p hp=>by rw [cY,mem_singleton] at hp;rw [hp];exact ⟨ha.1,hb.1⟩
 have hpz:b1k l=a.size+b.size:=by rw [cY];unfold b1k;simp
 have mI:b1k l<=1000:=by have:=ha.2;have:=hb.2;omega
 obtain ⟨k,j,e1,f1,f2⟩:=b1l l;have hj:=e1 k (Nat.le_refl _);have xX:=a7c k l j hj hl mI;refine c9 (rs:=[.lst (r.1.map Bd.cv),.b r.2]) Tryz.func92 Tryz.ntmps92 rfl rfl rfl rfl ?_;intro w U hW;refine aS (aR ?_);refine nc ze (nc ze ?_);refine aS (aR ?_);refine nc (zW (z:=b5s) (G:=fun k v h=>by first | (rw [hW.1] at h;cases h) | (have h2:=hU k v h;cases h2))) ?_;refine nc ze ?_;refine aS (aS (aR ?_));refine nc zl (nc zl (nc (zW (z:=xX) (G:=i0 (by first | rfl | kernel_rfl))) (nc zZ ?_)));cases iF:j.2 with
 | false =>
  rw [hT.no (f1 iF)];refine aC rfl (fun hc=>?_) (fun hc=>by cases hc);refine aS (aR ?_);refine nc ze (nc ze ?_);exact aT (And.intro (.inr rfl) rfl)
 | true =>
  obtain ⟨cn,od,H,r',e2,g1,g2,g3,ki,hcn,n1,n2⟩:=f2 iF;obtain ⟨e3,e4⟩:=e2 k (Nat.le_refl _);obtain ⟨E',hI⟩:=a0R l hj (E:=[]) ⟨⟨id,id,Cls.nil,by show 0+i9 _ 0<=_;simp [i9]⟩,(fun x hx=>by cases hx),by show i9 _ 0<=_;simp [i9]⟩ rfl hl (by show i9 _ 0+_<=_;simpa [i9] using mI) iF;have hF:=hI.fitU;have eS:usB j.1.ns 0:=fun m=>by rw [b1K hj];exact ⟨Int.le_refl _,Int.le_refl _⟩
  obtain ⟨fL,dS,qA,hhl⟩:=O0 k 0 e3 hF (by simpa using eS) (by omega) (fun h hm=>by cases hm) (Nat.le_refl _);have tW:=a9X k 0 e4 fL (fun h hm=>qA h (mem_filter.1 hm).1) (by decide) dS;have hnsl:od.1.ns.length<=1000:=Nat.le_trans (C4 _) tW.big;have oL:∀ x∈od.2,x<od.1.ns.length:=fun x hx=>(ki.hd x hx).1;have sV:od.2.length<=1000:=Nat.le_trans (a1t _ ki.nd oL) hnsl;have yQ:=b6o k j.1 cn od e3 e4 hF eS sV;have fM:Q3 od.1.vr:=b7O k 0 e4 (a4N k 0 e3 (b7f hj ⟨List.nodup_nil,fun p hp=>by cases hp⟩));have qT:∀ p∈od.1.vr,p.1<=9223372036854775807:=fun p hp=>by obtain ⟨v1,v2⟩:=g1.vrt p.1 p.2 (G5 fM.1 hp);have v3:=((Tm.rng_iff _).1 ((Y6 _).1 tW.trm p.2 v1).1).1;omega
  refine aC rfl (fun hc=>by cases hc) (fun hc=>aK ?_);by_cases h:od.2.length=cn.2.length
  ·have h9:decide ((od.2.length:Int)=cn.2.length)=true:=by rw [h];simp
   rw [h9] at yQ;obtain ⟨k1,tm,e5,c1,c5,c2,hm⟩:=n2 h;have hu:=(hm (od.1.vr.map fun p=>(⟨p.1,tm.2.getD (H p.2) tm0⟩:Bd)) (fun v=>a4q fM.1 (List.Perm.refl _) (fun n=>tm.2.getD (H n) tm0) v)).uni;rw [cY] at hu;obtain ⟨ha10,hb10⟩:=tJ _ hu;have dE:od.1.vr.length<20:=c0P (cY▸g1) fM ha10 hb10 (by
    have h1:=b7D k 0 e4;have h2:=a4U k 0 e3;have h3:=b7h hj;have h4:plc l=a.size+b.size:=by rw [cY];unfold plc;simp
    have h5:pw ([]:List Nd)=0:=rfl;have h6:=C4 od.1.ns;have h7:pw (⟨[],[],[]⟩:Cl).ns=0:=rfl;omega)
   have wS:=(TI.all (t:=(od.1,List.replicate od.1.ns.length tm0)) (N:=od.1.ns.length) ⟨tW,by simp,Nat.le_refl _⟩ (fun n hn=>oL n (List.mem_reverse.1 hn)) (e5 k1 (Nat.le_refl _))).1.fit;have wG:=b4z k1 od.1 od.2 tm (e5 k1 (Nat.le_refl _)) tW c2 oL sV c1 wS (by rw [c5];exact fM) (by rw [c5];omega);refine aS (aR ?_);refine nc zl (nc (zW (z:=yQ) (G:=i0 (by first | rfl | kernel_rfl))) (nc zl (nc zE (nc zE (nc ze (nc ze ?_))))));refine aS (aS (aR ?_));refine nc zl (nc zZ ?_);refine aC rfl (fun hc=>by cases hc) (fun hc=>aK ?_);refine aS (a9e 2 rfl rfl rfl rfl rfl rfl wG (by kernel_rfl) (fun σ=>by kernel_rfl) (fun σ=>by kernel_rfl) (fun σ=>rfl) (fun σ=>i0 (by kernel_rfl)) ?_);refine nc zl (nc zl ?_);refine ⟨rfl,⟨rfl,rfl,rfl,rfl,rfl,rfl,rfl,trivial⟩,fun σ hσ=>⟨by kernel_rfl,?_⟩⟩;obtain ⟨vr',hp,hσ1⟩:=hσ;rw [c5] at hp;obtain ⟨t1,t2,t3⟩:=b4R hT fM qT hp hσ1 hm;have dH:σ.1.length<20:=by rw [hσ1,length_map,hp.length_eq];omega
   refine nc (zk (z:=b6N _ σ.1 dH t3)) (nc ze (nc ze ?_));rw [t1];exact aT (And.intro (.inr rfl) rfl)
  ·have h9:decide ((od.2.length:Int)=cn.2.length)=false:=by rw [decide_eq_false_iff_not];omega
   rw [h9] at yQ;rw [hT.no (n1 h)];refine aS (aR ?_);refine nc zl (nc (zW (z:=yQ) (G:=i0 (by first | rfl | kernel_rfl))) (nc zl (nc zE (nc zE (nc ze (nc ze ?_))))));refine aS (aS (aR ?_));refine nc zl (nc zZ ?_);refine aC rfl (fun hc=>?_) (fun hc=>by cases hc);refine aS (aR ?_);refine nc ze (nc ze ?_);exact aT (And.intro (.inr rfl) rfl)
set_option maxHeartbeats 2000000 in
theorem a8N (W:World) (a b:Tm) (ha:(a.rng/\a.ok)/\a.size<=16) (hb:(b.rng/\b.ok)/\b.size<=16) (tJ:∀ τ,uni τ [(a,b)]->a.ten/\b.ten) (r:List Bd×Bool) (hT:ToldU [(a,b)] r):AFun Tryz.prog W 65 [a.cw,b.cw] (.tup [.lst (r.1.map Bd.cv),.b r.2]):=by
 refine c9 (rs:=[.lst (r.1.map Bd.cv),.b r.2]) Tryz.func65 Tryz.ntmps65 rfl rfl rfl rfl ?_;intro w U hW;refine aS (aR ?_);refine nc zd (nc zd (nc ze (nc ze ?_)));refine aS (aR ?_);refine nc zj (nc zj (nc (zba [2,2]) (nc zy (nc (zk (z:=a8T _ a b ha hb tJ [(a,b)] rfl r hT)) (nc zE (nc zE (nc ze (nc ze ?_))))))));exact aT (And.intro (.inr rfl) rfl)
theorem a4t (u:Tm):∀ (p:List Int) (t z:Tm),C8 u p t=some z->z.strip=z
 | [],t,z,h=>by cases h;exact Tm.strip_strip u
 | k::ks,t,z,h=>by
  rw [C8] at h;cases hp:t.pa k with
  | none=>rw [hp] at h;cases h
  | some x =>
   rw [hp,Option.bind_some] at h;cases hv:C8 u ks x with
   | none=>rw [hv] at h;cases h
   | some v =>
    rw [hv,Option.map_some] at h;have h:=Option.some.inj h;subst h;have hf:=a8p hp;rw [Tm.strip_eq,Tm.ps_of_sym (t:=⟨t.f,_⟩) (by show 0<=t.f;omega)];simp only;rw [map_append,map_cons,S4,S4,a4t u ks x v hv]
theorem b4M {t:Tm} (h:t.size<=10000000000):t.strip.ok:=by
 induction t using Tm.indp with
 | h t ih =>
  have hs:=Tm.size_eq t;refine (Tm.ok_iff _).2 ⟨?_,fun s gD=>?_⟩
  ·rw [Tm.strip_l,length_map];have:∀ l:List Tm,l.length<=(l.flatMap Tm.flat).length:=by
    intro l
    induction l with
    | nil=>exact Nat.le_refl _
    | cons x l ih =>
     rw [flatMap_cons,length_append,length_cons];have:0<x.flat.length:=by rw [Tm.flat_eq];simp
     omega
   have:=this t.ps;omega
  ·rw [Tm.strip_l] at gD;obtain ⟨x,hx,rfl⟩:=mem_map.1 gD;refine ih x hx ?_;have:=t8 Tm.flat hx;have h2:x.size=x.flat.length:=rfl;omega
theorem b2Q:∀ (l:List Tm) (i:Nat) (pl:List Int) (q:List Int×Tm),q∈syL l i pl->∃ j x,l[j]?=some x/\q∈sy x (pl++[((i+j:Nat):Int)])
 | [],i,pl,q,h=>by rw [M0] at h;cases h
 | t::l,i,pl,q,h=>by
  rw [H3] at h;rcases mem_append.1 h with h | h
  ·exact ⟨0,t,rfl,h⟩
  ·obtain ⟨j,x,h1,h2⟩:=b2Q l (i+1) pl q h;exact ⟨j+1,x,by simpa using h1,by rw [show i+(j+1)=i+1+j by omega];exact h2⟩
theorem c0L (t:Tm):∀ (pl:List Int) (q:List Int×Tm),q∈sy t pl->∃ p,q.1=pl++p/\atP p t=some q.2/\¬ q.2.f<0/\p.length<t.size:=by
 induction t using Tm.ind with
 | h f l ih =>
  intro pl q hq;rw [Z0] at hq;split at hq
  ·cases hq
  ·rename_i hf;rcases mem_cons.1 hq with rfl | hq
   ·exact ⟨[],by simp,rfl,hf,Tm.size_pos _⟩
   ·obtain ⟨j,x,h1,h2⟩:=b2Q l 0 pl q hq;obtain ⟨p,e1,e2,e3,e4⟩:=ih x (mem_of_getElem? h1) _ q h2;refine ⟨((0+j:Nat):Int)::p,by rw [e1,List.append_assoc];rfl,?_,e3,?_⟩
    ·have hpa:(Tm.mk f l).pa ((0+j:Nat):Int)=some x:=by unfold Tm.pa;rw [if_pos (by omega),Int.toNat_natCast,Nat.zero_add,Tm.ps_of_sym (by show 0<=f;have:¬ f<0:=hf;omega)];exact h1
     rw [atP,hpa];exact e2
    ·have:=a4E (show ¬ f<0 from hf) h1;rw [length_cons];omega
theorem b3l:∀ (l:List Tm) (i:Nat) (pl:List Int),(∀ t∈l,∀ pl,(sy t pl).length<=t.flat.length)->(syL l i pl).length<=(l.flatMap Tm.flat).length
 | [],_,_,_=>by simp [M0]
 | t::l,i,pl,h=>by
  rw [H3,length_append,flatMap_cons,length_append];have h1:=h t (by simp) (pl++[(i:Int)]);have h2:=b3l l (i+1) pl fun s hs=>h s (List.mem_cons_of_mem _ hs);omega
theorem c1g (t:Tm):∀ pl,(sy t pl).length<=t.size:=by
 induction t using Tm.ind with
 | h f l ih =>
  intro pl;rw [Z0];split
  ·simp
  ·rename_i hf;have h1:=b3l l 0 pl ih;have h2:(Tm.mk f l).size=1+(l.flatMap Tm.flat).length:=by rw [Tm.size_eq,Tm.ps_of_sym (by show 0<=f;have:¬ f<0:=hf;omega)]
   rw [length_cons,h2];show (syL l 0 pl).length+1<=_;omega
theorem a3H {ld:Tm->Tm->Bool} {c:List Lt} {L:List Int} {w:Wy} (h:w∈B7 ld c L):w.n∈L/\∃ l,c[w.n.toNat]?=some l/\(((w.a=l.a/\w.b=l.b)\/(w.a=l.b/\w.b=l.a))/\ld w.a w.b=true):=by
 obtain ⟨n,hn,hw⟩:=mem_flatMap.1 h;unfold a4j at hw;split at hw
 ·rename_i l hl;obtain ⟨h1,h2⟩:=mem_filter.1 hw;simp only [wy2,mem_cons,not_mem_nil,or_false] at h1;rcases h1 with rfl | rfl
  ·exact ⟨hn,l,hl,.inl ⟨rfl,rfl⟩,h2⟩
  ·exact ⟨hn,l,hl,.inr ⟨rfl,rfl⟩,h2⟩
 ·cases hw
theorem a8f (ld:Tm->Tm->Bool) (c:List Lt):∀ L:List Int,(B7 ld c L).length<=2*L.length
 | []=>Nat.zero_le _
 | n::L=>by
  have h1:=a8f ld c L;have h2:(a4j ld c n).length<=2:=by
   unfold a4j;split
   ·exact List.length_filter_le _ _
   ·exact Nat.zero_le _
  show (a4j ld c n++B7 ld c L).length<=_;rw [length_append,length_cons];omega
theorem b2T {neg:Int->Bool} {src tgt:List Wy} {m:Mt} (h:m∈W0 neg src tgt):m.fr∈src/\neg m.fr.n=false/\m.ti∈tgt/\(m.pl,m.pt)∈sy m.ti.a []:=by
 obtain ⟨f,hf,h⟩:=mem_flatMap.1 h;unfold mtN at h;split at h
 ·cases h
 ·rename_i hn;obtain ⟨i,hi,h⟩:=mem_flatMap.1 h;obtain ⟨q,hq,rfl⟩:=mem_map.1 h;exact ⟨hf,by simpa using hn,hi,hq⟩
theorem b8O (neg:Int->Bool) (src tgt:List Wy) (N:Nat) (h:∀ w∈tgt,w.a.size<=N):(W0 neg src tgt).length<=src.length*(tgt.length*N):=by
 have h1:∀ f (T:List Wy),(∀ w∈T,w.a.size<=N)->(mtF T f).length<=T.length*N:=fun f T=>by
  induction T with
  | nil=>intro _;exact Nat.zero_le _
  | cons i T ih =>
   intro hT;have a1:=ih fun w hw=>hT w (List.mem_cons_of_mem _ hw);have a2:=Nat.le_trans (c1g i.a []) (hT i (by simp));show (mtI f i++mtF T f).length<=_;have a3:(mtI f i).length=(sy i.a []).length:=length_map ..;rw [length_append,length_cons,Nat.add_mul,a3];omega
 induction src with
 | nil=>exact Nat.zero_le _
 | cons f S ih =>
  have h2:(mtN neg tgt f).length<=tgt.length*N:=by
   unfold mtN;split
   ·exact Nat.zero_le _
   ·exact h1 f tgt h
  show (mtN neg tgt f++W0 neg S tgt).length<=_;rw [length_append,length_cons,Nat.add_mul,Nat.one_mul];omega
def Tm.s16 (t:Tm):Prop:=(t.rng/\t.ok)/\t.size<=16
def PrOk (a b:Tm):Prop:=a.s16/\b.s16/\∀ τ,uni τ [(a,b)]->a.ten/\b.ten
theorem PrOk.tiny {a b:Tm} (h:PrOk a b):a5M [(a,b)]:=fun p hp=>by
 rw [mem_singleton] at hp;subst hp;exact ⟨h.1,h.2.1⟩
theorem b1Y {a b:Tm} (ha:a.ten) (hb:b.ten):PrOk a b:=⟨⟨ha.1,Nat.le_trans ha.2 (by omega)⟩,⟨hb.1,Nat.le_trans hb.2 (by omega)⟩,fun _ _=>⟨ha,hb⟩⟩
theorem PrOk.tell {a b:Tm} (h:PrOk a b):Tells8 [(a,b)] (mgT a b):=by
 obtain ⟨n,r,_,_,_,h⟩:=b2U (l:=[(a,b)]) (by simp) h.tiny;rw [c0y h];exact h
theorem PrOk.img {a b:Tm} (h:PrOk a b) {v:Int} (hv:0<=v):(i7 (mgT a b).1 v).size<=2955:=by
 cases h2:(mgT a b).2 with
 | true =>
  obtain ⟨ha,hb⟩:=h.2.2 _ (h.tell.yes h2).uni;exact c1t ha hb hv
 | false =>
  rw [(h.tell.no h2).1];show (q7 v).size<=_;rw [Tm.size_var (by rw [s7];omega)];omega
theorem PrOk.un {a b:Tm} (h:PrOk a b) (W:World):AFun Tryz.prog W 65 [a.cw,b.cw] (.tup [.lst ((mgT a b).1.map Bd.cv),.b (mgT a b).2]):=a8N W a b h.1 h.2.1 h.2.2 _ h.tell.told
theorem PrOk.rep {a b:Tm} (h:PrOk a b) {t:Tm} (ht:t.rng/\t.ok):(a8 (mgS a b) t).rng/\(a8 (mgS a b) t).ok/\(a8 (mgS a b) t).size<=2955*t.size:=
 ⟨b8V h.tell.bdsOk ht.1,b3d ht.2 fun v=>a9N (fun b hb=>(h.tell.ok b hb).2) v,b8n (M:=2955) (by omega) (fun v hv=>h.img hv) t⟩
theorem PrOk.ap {a b:Tm} (h:PrOk a b) {t:Tm} (ht:t.rng/\t.ok) (W:World):AFun Tryz.prog W 66 [.lst ((mgT a b).1.map Bd.cv),t.cw] (.val (a8 (mgS a b) t).cw):=
 a3S W (mgT a b).1 t (by have:=h.tell.len;omega) h.tell.bdsOk ht.1 ht.2
theorem PrOk.ca {a b:Tm} (h:PrOk a b) (W:World) (c:List Lt) (hl:c.length<=100000) (hc:∀ l∈c,l.rok):AFun Tryz.prog W 67 [.lst ((mgT a b).1.map Bd.cv),.lst (c.map Lt.cv)] (.val (.lst ((c.map (Lt.rep (mgS a b))).map Lt.cv))):=by
 obtain ⟨h1,h2⟩:=a7j hl hc;exact a4g W (mgT a b).1 c (by omega) (by have:=h.tell.len;omega) h.tell.bdsOk h1 h2
def Lt.s16 (l:Lt):Prop:=l.a.s16/\l.b.s16
theorem Lt.s16.rok {l:Lt} (h:l.s16):l.rok:=⟨h.1.1,h.2.1⟩
structure MtOk (c d:List Lt) (m:Mt):Prop where
 i:0<=m.fr.n/\m.fr.n<c.length
 j:0<=m.ti.n/\m.ti.n<d.length
 fr:∃ l,c[m.fr.n.toNat]?=some l/\((m.fr.a=l.a/\m.fr.b=l.b)\/(m.fr.a=l.b/\m.fr.b=l.a))/\l.neg=false
 ti:∃ l,d[m.ti.n.toNat]?=some l/\((m.ti.a=l.a/\m.ti.b=l.b)\/(m.ti.a=l.b/\m.ti.b=l.a))
 at_:atP m.pl m.ti.a=some m.pt
 sym:¬ m.pt.f<0
 pl:m.pl.length<m.ti.a.size
theorem c0H {ld:Tm->Tm->Bool} {c d:List Lt} {L M:List Int} (hL:∀ n∈L,0<=n/\n<c.length) (hM:∀ n∈M,0<=n/\n<d.length) {m:Mt} (h:m∈W0 (v9 c) (B7 ld c L) (B7 ld d M)):MtOk c d m:=by
 obtain ⟨h1,h2,h3,h4⟩:=b2T h;obtain ⟨a1,l,a2,a3,a4⟩:=a3H h1;obtain ⟨b1,k,b2,b3,b4⟩:=a3H h3;obtain ⟨p,e1,e2,e3,e4⟩:=c0L m.ti.a [] _ h4;have e1:m.pl=p:=e1;subst e1;refine ⟨hL _ a1,hM _ b1,⟨l,a2,a3,?_⟩,⟨k,b2,b3⟩,e2,e3,e4⟩;unfold v9 at h2;rw [a2] at h2;exact h2
theorem MtOk.fs {c d:List Lt} {m:Mt} (h:MtOk c d m) (hc:∀ l∈c,l.s16):m.fr.a.s16/\m.fr.b.s16:=by
 obtain ⟨l,h1,h2,_⟩:=h.fr;have:=hc l (mem_of_getElem? h1);rcases h2 with ⟨e1,e2⟩ | ⟨e1,e2⟩
 ·rw [e1,e2];exact this
 ·rw [e1,e2];exact ⟨this.2,this.1⟩
theorem MtOk.ts {c d:List Lt} {m:Mt} (h:MtOk c d m) (hd:∀ l∈d,l.s16):m.ti.a.s16/\m.ti.b.s16:=by
 obtain ⟨l,h1,h2⟩:=h.ti;have:=hd l (mem_of_getElem? h1);rcases h2 with ⟨e1,e2⟩ | ⟨e1,e2⟩
 ·rw [e1,e2];exact this
 ·rw [e1,e2];exact ⟨this.2,this.1⟩
theorem MtOk.put {c d:List Lt} {m:Mt} (h:MtOk c d m) (hc:∀ l∈c,l.s16) (hd:∀ l∈d,l.s16):∃ z,C8 m.fr.b m.pl m.ti.a=some z/\(z.rng/\z.ok)/\z.size+m.pt.size=m.ti.a.size+m.fr.b.size:=by
 obtain ⟨f1,f2⟩:=h.fs hc;obtain ⟨t1,t2⟩:=h.ts hd;obtain ⟨z,g1,g2,g3,g4,g5⟩:=a3J m.fr.b f2.1.1 m.pl m.ti.a m.pt t1.1.1 h.at_;refine ⟨z,g1,⟨g2,?_⟩,g5⟩;have e:=a4t m.fr.b m.pl m.ti.a z g1;rw [<-e];exact b4M (by have:=t1.2;have:=f2.2;omega)
theorem MtOk.lits {c d:List Lt} {m:Mt} (h:MtOk c d m) (hc:∀ l∈c,l.s16) (hd:∀ l∈d,l.s16):∀ l∈E6 m c d,l.rok/\l.a.size<=31/\l.b.size<=31:=fun l hl=>by
 have st:∀ x:Lt,x.s16->x.strip.rok/\x.strip.a.size<=31/\x.strip.b.size<=31:=fun x hx=>by
  refine ⟨⟨⟨Tm.strip_rng hx.1.1.1,Tm.strip_ok hx.1.1.2⟩,Tm.strip_rng hx.2.1.1,Tm.strip_ok hx.2.1.2⟩,?_,?_⟩
  ·show x.a.strip.size<=31;rw [Tm.strip_size];have:=hx.1.2;omega
  ·show x.b.strip.size<=31;rw [Tm.strip_size];have:=hx.2.2;omega
 unfold E6 at hl;rcases mem_append.1 hl with hl | hl
 ·obtain ⟨x,hx,rfl⟩:=mem_map.1 hl;exact st x (hc x (a4T hx))
 ·rcases mem_append.1 hl with hl | hl
  ·obtain ⟨x,hx,rfl⟩:=mem_map.1 hl;exact st x (hd x (a4T hx))
  ·rw [mem_singleton] at hl;subst hl;obtain ⟨z,g1,g2,g3⟩:=h.put hc hd;obtain ⟨t1,t2⟩:=h.ts hd;obtain ⟨f1,f2⟩:=h.fs hc;rw [g1];have:=m.pt.size_pos;have:=t1.2;have:=t2.2;have:=f2.2;exact ⟨⟨g2,t2.1⟩,by show z.size<=31;omega,by show m.ti.b.size<=31;omega⟩
theorem a9n {c d:List Lt} {m:Mt} (h:MtOk c d m):(E6 m c d).length+1=c.length+d.length:=by
 unfold E6;have h1:=N6 (c:=c) (n:=m.fr.n.toNat) (by have:=h.i;omega);have h2:=N6 (c:=d) (n:=m.ti.n.toNat) (by have:=h.j;omega);rw [length_append,length_append,length_map,length_map];simp;omega
theorem b5Q {fd:Nat} {ld:Tm->Tm->Bool} {c d:List Lt} {m:Mt} (uB:∀ w (a b:Tm),a.rng/\a.ok/\a.size<=1000000->b.rng/\b.ok/\b.size<=1000000->AFun Tryz.prog w fd [a.cw,b.cw] (.val (.b (ld a b)))) (eF:c.length<=1000) (hdl:d.length<=1000) (hc:∀ l∈c,l.s16) (hd:∀ l∈d,l.s16) (h:MtOk c d m) (hp:PrOk m.fr.a m.pt):c0k fd ld c d m:=by
 obtain ⟨f1,f2⟩:=h.fs hc;obtain ⟨t1,t2⟩:=h.ts hd;have hb:∀ t:Tm,t.s16->(a8 (mgS m.fr.a m.pt) t).rng/\(a8 (mgS m.fr.a m.pt) t).ok/\(a8 (mgS m.fr.a m.pt) t).size<=1000000:=fun t ht=>by obtain ⟨g1,g2,g3⟩:=hp.rep ht.1;refine ⟨g1,g2,?_⟩;have:=Nat.mul_le_mul_left 2955 ht.2;omega
 refine ⟨hp.un,fun w t ht=>hp.ap ?_ w,fun w=>uB w _ _ (hb _ f1) (hb _ f2),fun w=>uB w _ _ (hb _ t1) (hb _ t2),fun w=>hp.ca w _ (by have:=a9n h;omega) (fun l hl=>(h.lits hc hd l hl).1),h.i,h.j,⟨f2.1.1,by have:=f2.2;omega⟩,⟨t1.1.1,by have:=t1.2;omega⟩,by have:=h.pl;have:=t1.2;omega⟩;rcases ht with rfl | rfl | rfl | rfl
 ·exact f1.1
 ·exact f2.1
 ·exact t1.1
 ·exact t2.1
theorem b9q (l:Lt):0<wtL l:=by have:=l.a.size_pos;unfold wtL;omega
def al1:Lt:=⟨false,⟨1,[]⟩,⟨0,[]⟩⟩
theorem b6H {a b:List Tm}:a7y a b=false↔¬ b8M a b:=by rw [<-b6P,Bool.not_eq_true]
theorem b9n (c:List Lt):(P3 c).length<=c.length+1:=by
 unfold P3;split
 ·simp
 ·have:=a7G c c.length;omega
theorem b7B (c:List Lt):∀ k:Nat,-1<=(hvK c k).1/\(hvK c k).1<k
 | 0=>⟨by show (-1:Int) <= -1;omega,by show (-1:Int)<_;omega⟩
 | k+1=>by
  obtain ⟨h1,h2⟩:=b7B c k;unfold hvK;split
  ·omega
  ·split
   ·simp only;omega
   ·omega
theorem c0C {c:List Lt} {z:Int} (h:z∈P3 c):0<=z/\z<c.length:=by
 unfold P3 at h;split at h
 ·rw [mem_singleton] at h;have:=b7B c c.length;omega
 ·unfold gsK at h;obtain ⟨i,hi,rfl⟩:=mem_map.1 h;have:=List.mem_range.1 (mem_filter.1 hi).1;omega
abbrev sv (l:List UInt8):CV := .sc (.string ⟨l.toArray⟩)
section
variable {P:Program} {w0:World} {U0:UX} {nt:Nat} {ops:Array Oper} {o:Oper} {S:Nat->Option AV} {gs:List Nat} {d:Nat}
end
section
variable {P:Program} {w0:World} {U0:UX} {nt:Nat} {ops:Array Oper} {o:Oper} {S:Nat->Option AV} {gs:List Nat} {d:Nat}
end
theorem b6R {c:List Lt} {most:Nat} {size:Int} (h0:0<=size) (h1:size<=10) (h:a0c c most size=true):c.length<=most/\∀ l∈c,l.ten:=by
 obtain ⟨h2,h3⟩:=a2i h0 (by omega) h;refine ⟨h2,fun l hl=>?_⟩;obtain ⟨⟨⟨_,a1,a2⟩,_,a3⟩,⟨⟨_,b1,b2⟩,_,b3⟩⟩:=h3 l hl;exact ⟨⟨⟨a1,a2⟩,by omega⟩,⟨b1,b2⟩,by omega⟩
abbrev shV (n:Int):Int->Tm:=fun v=>q7 (v+n)
theorem c1E (τ:Int->Tm) {n:Int} (hn:0<=n) (t:Tm):a8 τ (a8 (shV n) t)=a8 (fun v=>τ (v+n)) t:=
 b5F τ (fun v=>v+n) fun v hv=>by have:=o5 t v hv;omega
theorem a3v {n:Int} (hn:0<=n) (t:Tm):(a8 (shV n) t).size=t.size:=b5k (g:=fun v=>v+n) fun v hv=>by have:=o5 t v hv;omega
section
variable {P:Program} {w0:World} {U0:UX} {nt:Nat} {ops:Array Oper} {o:Oper} {S:Nat->Option AV} {gs:List Nat} {d:Nat}
theorem c1z (hg:Gd w0 U0 nt ops o gs S) (hd:o.dst=some d) (hn:Nat.blt d nt=true) (h5:Nat.blt d 100000=true) {x y z:Operand} {ts:Array TypeId} {k:IntKind} {i j l:Int} {n q p n' q' p' n2 q2 p2} (ho:o.op = .call { callee := .builtin .max,args := #[x,y,z],argTypes:=ts }) (hx:ev S x=some ⟨0,.sc (.int k i),n,q,p⟩) (hy:ev S y=some ⟨0,.sc (.int k j),n',q',p'⟩) (hz:ev S z=some ⟨0,.sc (.int k l),n2,q2,p2⟩):AOp P w0 U0 nt ops o (gs++(rd x++(rd y++rd z))) [] S [(d,.val (.sc (.int k (max (max i j) l))))]:=
 j9 hg hd hn h5 (fun k hk=>List.mem_append_left _ hk) fun s hs a w D hv hm=>by have e1:=v7 hm (fun k hk=>hs k (mem_append_right _ (List.mem_append_left _ hk))) hx;have e2:=v7 hm (fun k hk=>hs k (mem_append_right _ (mem_append_right _ (List.mem_append_left _ hk)))) hy;have e3:=v7 hm (fun k hk=>hs k (mem_append_right _ (mem_append_right _ (mem_append_right _ hk)))) hz;refine ⟨.int k (max (max i j) l),?_,p6 rfl⟩;generalize a.eval=ρ at e1 e2 e3 |-;simp [execOp,ho,resolve,invoke,builtin,Builtin.max_,Builtin.max2,e1,e2,e3];split<;>split<;>omega
theorem zbP {P:Program} {w0:World} {U0:UX} {nt:Nat} {ops:Array Oper} {o:Oper} {S:Nat->Option AV} {gs:List Nat} {d:Nat} {x:Operand} {y:Operand} {z:Operand} {ts:Array TypeId} {k:IntKind} {i:Int} {j:Int} {l:Int} {n} {q} {p} {n'} {q'} {p'} {n2} {q2} {p2} (r:Gd w0 U0 nt ops o gs S:=by exact gN rfl) (t:o.dst=some d:=by exact rfl) (u:Nat.blt d nt=true:=by exact rfl) (v:Nat.blt d 100000=true:=by exact rfl) (A:o.op = .call { callee := .builtin .max,args := #[x,y,z],argTypes:=ts }:=by exact rfl) (B:ev S x=some ⟨0,.sc (.int k i),n,q,p⟩:=by exact rfl) (C:ev S y=some ⟨0,.sc (.int k j),n',q',p'⟩:=by exact rfl) (E:ev S z=some ⟨0,.sc (.int k l),n2,q2,p2⟩:=by exact rfl):AOp P w0 U0 nt ops o (gs++(rd x++(rd y++rd z))) [] S [(d,.val (.sc (.int k (max (max i j) l))))]:=c1z r t u v A B C E
end
def Y2 (c:List Lt):Int:=c.foldl (fun m l=>max (max m (U4 l.a.flat)) (U4 l.b.flat)) (-1)
theorem b6x (W:World) (c:List Lt) (hn:c.length<=1000000) (hc:∀ l∈c,l.rng):AFun Tryz.prog W 63 [.lst (c.map Lt.cv)] (.val (.i (Y2 c))):=by
 have kC:=Lt.size_all c;refine c9 (rs:=[.i (Y2 c)]) Tryz.func63 Tryz.ntmps63 rfl rfl rfl rfl ?_;intro w U hW;refine aS (aR ?_);refine nc ze ?_;refine aS (aR ?_);refine nc ze ?_;refine aS (aS (aR ?_));refine nc zl (nc zo (nc zl ?_));refine aB (n5 c.length (fun k=>[(3,.val (.i (Y2 (c.take k)))),(6,.val (.lst (c.map Lt.cv))),(7,.val (.i (c.map Lt.cv).length)),(8,.val (.i k))]) (a7 ⟨rfl,rfl,rfl,rfl,trivial⟩) ?_);intro k hk;refine aS (aR ?_);refine nc zi ?_;refine aS (aC rfl (fun kA=>?_) (fun kA=>?_))
 ·have kF:k<c.length:=by simpa using kA
  obtain ⟨x,hx⟩:∃ x,c[k]?=some x:=⟨c[k],List.getElem?_eq_getElem kF⟩
  have kS:=Lt.map_at hx;have cH:=mem_of_getElem? hx;have s1:=b3g w (hc x cH).1;have s2:=b3g w (hc x cH).2;have dD:Y2 (c.take (k+1))=max (max (Y2 (c.take k)) (U4 x.a.flat)) (U4 x.b.flat):=by unfold Y2;rw [List.take_add_one,hx,List.foldl_append];rfl
  refine aK ?_;refine aS (aB (aS (aR ?_)));refine nc (zt (j:=k) (H:=kS) (hz:=kC)) (nc zu (nc zw (nc zx ?_)));refine aD (by kernel_rfl) (by kernel_rfl) ?_;refine nc zl (nc zg (nc zh (nc (zk (z:=s1)) (nc zg (nc zh (nc (zk (z:=s2)) (nc zbP (nc ze ?_))))))));refine ⟨by kernel_rfl,?_⟩;refine aR ?_;refine nc zA (nc zl ?_);exact ⟨kF,a7 ⟨by rw [dD];rfl,rfl,rfl,rfl,trivial⟩⟩
 ·have kF:k=c.length:=by
   have:¬ k<c.length:=by simpa using kA
   omega
  subst kF;rw [take_length];refine aE ?_;refine aS (aR ?_);refine nc zl (nc ze ?_);exact aT (And.intro (.inr rfl) rfl)
end Go.Proofs.YteegmcfobgpemaaGreat
