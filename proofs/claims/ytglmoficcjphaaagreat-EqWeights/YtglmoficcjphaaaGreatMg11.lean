/-
 EqConcat ClSort AbZero ClNmW AbNilF EqFns EqFac KbRef KbRef2 OrRef OrRef2 OrCom OrLw EqRes EqDoc ClNmX ClTtM ClRefN EqRef AbStr PrQuo EqRef2 EqRef3 EqAlive EqLw
-/
import Derived.Test.YtglmoficcjphaaaGreatMg10
import Derived.Test.YtglmoficcjphaaaGreatMg2
import Derived.Test.YtglmoficcjphaaaGreatMg8
import Derived.Test.YtglmoficcjphaaaGreatMg9
import Derived.Test.YtglmoficcjphaaaGreatMg4
import Derived.Test.YtglmoficcjphaaaGreatMg3
import Derived.Laws.Strings
import Derived.Laws.Strings3
import Derived.Laws.Concat
import Derived.Lib.Strings
import Derived.Laws.BytesArg
namespace Go.Proofs.YtglmoficcjphaaaGreat
open Go.RowKit
set_option linter.unusedVariables false
set_option linter.unusedSimpArgs false
theorem a8m:(Tryz.prog.info? 44).map (fun i=>(i.zero,i.size,i.bytes))=some (some (.agg #[.bool false,.int .i64 0,.slice none 0 0,.int .i64 0,.slice none 0 0]),5,72):=by kernel_rfl
set_option maxRecDepth 100000 in
set_option maxHeartbeats 400000 in
theorem b2f (n:Nat) (hn:n≤2199023255552) (w:World) :
  Calls Tryz.prog 76 #[.slice none 0 0,.int .i64 (n:Int)] w fun e w'=>∃ v,e = .returned v∧w'.ownsRow w.heap.size 44 5 v 0 []∧Below w.heap.size w w':=by
 obtain ⟨i,hi1,hi2,hi3,hi4⟩:=info_parts a8m
 rcases Nat.eq_zero_or_pos n with rfl | h0
 ·go_enter Tryz.func76,Tryz.ntmps76
  go_wp2
  go_ret
  exact ⟨_,rfl,World.ownsRow_nil _ _ _ _,bW _⟩
 ·have hr:=Lib.run_append_nil_zeros (P:=Tryz.prog) w 26 3 26 44 i (.agg #[.bool false,.int .i64 0,.slice none 0 0,.int .i64 0,.slice none 0 0]) .i64 .i64 Tryz.underlying26 Tryz.underlying3 hi1 hi2 n h0 (by rw [hi3];omega) (by omega) (by rw [hi4];omega)
  go_enter Tryz.func76,Tryz.ntmps76
  go_wp2_with (at_builtin;refine Lib.wpList_append_run _ rfl _ _ _ _ rfl _ _ rfl rfl _ _ hr ?_)
  go_wp2
  go_ret
  refine ⟨_,rfl,World.ownsRow_made w.drew _ _ (Nat.le_refl _) (grownCap_le_maxLen _ _ _ _ (by unfold maxLen;omega)) ?_,(Below.refl _ _).drew.alloc (Nat.le_refl _) _⟩
  have:=grownCap_ge w n 0 44
  simp [size_zeroCells]
  try omega
set_option maxRecDepth 100000 in
set_option maxHeartbeats 800000 in
theorem a6V (a:Option Addr) (m c:Nat) (A:Nat→Option Addr) (L C:Nat→Nat) (R:Nat→List Value) (w:World) (hr:Rw 5 w a m A L C R) (hm:m≤1000) (hs:a8S L m≤1099511627776) :
  Calls Tryz.prog 51 #[.slice a m c] w fun e w'=>∃ v,e = .returned v∧w'.ownsRow w.heap.size 44 5 v (a8S L m) (a9M R m)∧Below w.heap.size w w':=by
 obtain ⟨J,hJ⟩:∃ J:Nat→List Value,J=a9M R:=⟨_,rfl⟩
 obtain ⟨N,hN⟩:∃ N:Nat→Nat,N=a8S L:=⟨_,rfl⟩
 have HS:Hid (∀ k,J (k+1)=J k++R k):=fun k=>by rw [hJ];rfl
 have HSN:Hid (∀ k,N (k+1)=N k+L k):=fun k=>by rw [hN];rfl
 have HJ0:Hid (J 0=[]∧N 0=0):=by rw [hJ,hN];exact ⟨rfl,rfl⟩
 have HL:Hid (∀ k,k≤m→N k≤1099511627776):=fun k hk=>by rw [hN];exact Nat.le_trans (b7c L hk) hs
 have HR:Hid (∀ B w',Below B w w'→w.heap.size≤B→Rw 5 w' a m A L C R):=fun B w' hb hB=>hr.below hb hB
 have HR0:Hid (Rw 5 w a m A L C R):=hr
 rw [←hJ,←hN]
 clear hJ hs hr hN
 go_enter Tryz.func51,Tryz.ntmps51
 go_wp2
 go_loop [3,11] (fun s i=>∃ k x:Nat,i = .int .i64 (k:Int)∧k≤m∧s = .int .i64 (x:Int)∧x=N k) (fun s i=>m-(intOf i).toNat)
 case atStart=>exact ⟨0,0,rfl,by omega,rfl,by rw [HJ0.out.2]⟩
 case round =>
  obtain ⟨k,x,rfl,hk,rfl,hx⟩:=hrel
  have HX:Hid (x=N k):=hx
  have hx1:x≤1099511627776:=by rw [hx];exact HL.out k hk
  clear hx
  by_cases hlt:k<m
  ·rcases HR0.out.2 with h0 | ⟨b,off,rfl,hb,hc⟩
   ·omega
   have hck:=hc k hlt
   have HXX:Hid (x+L k=N (k+1)):=by show x+L k=_;rw [HSN.out k,←HX.out]
   have hx2:x+L k≤1099511627776:=by rw [HXX.out];exact HL.out (k+1) hlt
   obtain ⟨Lk,hLk⟩:∃ y,L k=y:=⟨_,rfl⟩
   obtain ⟨Ak,hAk⟩:∃ y,A k=y:=⟨_,rfl⟩
   obtain ⟨Ck,hCk⟩:∃ y,C k=y:=⟨_,rfl⟩
   rw [hLk] at HXX hx2
   rw [hLk,hAk,hCk] at hck
   clear hLk hAk hCk hc
   go_wp2
   refine ⟨⟨k+1,x+Lk,by go_num,by omega,by go_num,HXX.out⟩,?_⟩
   simp [intOf];omega
  ·obtain rfl:k=m:=by omega
   go_wp2_with fail
   refine (b2f x (by omega) w).mono ?_
   rintro e w1 ⟨v1,rfl,ho1,hb1⟩
   go_wp2
   go_loopw [6,27] (fun u i wr=>∃ j:Nat,i = .int .i64 (j:Int)∧j≤k∧wr.ownsRow w.heap.size 44 5 u (N j) (J j)∧Below w.heap.size w wr) (fun _ i _=>k-(intOf i).toNat)
   case atStart=>exact ⟨0,rfl,by omega,by rw [HJ0.out.1,HJ0.out.2];exact ho1,hb1⟩
   case round =>
    obtain ⟨j,rfl,hj,hoj,hbj⟩:=hrel
    by_cases hlt:j<k
    ·obtain ⟨hn1,hbs,hRl,hone⟩:=(HR.out _ _ hbj (Nat.le_refl _)).1 j hlt
     rcases (HR.out _ _ hbj (Nat.le_refl _)).2 with h0 | ⟨b,off,rfl,hb,hc⟩
     ·omega
     have hck:=hc j hlt
     have hJl:N j+L j≤1099511627776:=by
      have:=HL.out (j+1) hlt
      rw [HSN.out j] at this
      exact this
     have HSj':Hid (J (j+1)=J j++R j∧N (j+1)=N j+L j):=⟨HS.out j,HSN.out j⟩
     obtain ⟨Lk,hLk⟩:∃ y,L j=y:=⟨_,rfl⟩
     obtain ⟨Ak,hAk⟩:∃ y,A j=y:=⟨_,rfl⟩
     obtain ⟨Ck,hCk⟩:∃ y,C j=y:=⟨_,rfl⟩
     obtain ⟨Rk,hRk⟩:∃ y,R j=y:=⟨_,rfl⟩
     obtain ⟨Jk,hJk⟩:∃ y,J j=y:=⟨_,rfl⟩
     obtain ⟨Nk,hNk⟩:∃ y,N j=y:=⟨_,rfl⟩
     rw [hAk,hRk] at hbs
     rw [hRk] at hone
     rw [hLk,hRk] at hRl
     rw [hLk,hAk,hCk] at hck
     rw [hLk,hAk,hCk] at hn1
     rw [hJk,hRk,hNk,hLk] at HSj'
     rw [hJk,hNk] at hoj
     rw [hNk,hLk] at hJl
     have hsz:=hbj.size
     have HRl:=hid hRl
     clear hLk hAk hCk hRk hJk hNk hc hRl
     go_wp2_with (at_builtin;refine T3 _ rfl _ _ 26 rfl w.heap.size 44 (.agg #[.bool false,.int .i64 0,.slice none 0 0,.int .i64 0,.slice none 0 0]) 5 72 Tryz.underlying26 a8m rfl (by decide) _ Nk Jk rfl hoj Ak Lk Ck Rk rfl hn1 hbs HRl.out hone ?d1 ?d2 hsz ?_)
     case d1=>unfold maxLen;omega
     case d2=>omega
     intro v2 w2 ho2 hg2
     have hb2:=hbj.trans (a7i hoj hg2 hsz)
     clear hg2
     go_wp2
     go_roundw
     case rel=>exact ⟨j+1,by go_num,hlt,by rw [HSj'.out.1,HSj'.out.2];exact ho2,hb2⟩
     case measure=>simp [intOf];omega
    ·obtain rfl:j=k:=by omega
     go_wp2
     go_ret
     exact ⟨_,rfl,hoj,hbj⟩
set_option maxRecDepth 100000
theorem a7S {U:Nat→Nat→Prop} {w:World}:∀ {l:List (List Lt)} {ys:List Value},Sq ((l.map fun x=>CV.lst (x.map Lt.cv)).map fun c=>Rep U w c) ys →
  ∃ (A:Nat→Option Addr) (L C:Nat→Nat) (R:Nat→List Value),∀ r x,l[r]?=some x→ys[r]?=some (.slice (A r) (L r) (C r))∧L r=x.length∧(A r=none→L r=0∧C r=0)∧At U w (A r) (R r)∧Sq ((x.map Lt.cv).map fun c=>Rep U w c) (R r)
 | [],ys,h=>⟨fun _=>none,fun _=>0,fun _=>0,fun _=>[],fun r x hx=>by simp at hx⟩
 | x::l,ys,h=>by
  obtain ⟨y1,y2,rfl,h1,h2⟩:=h
  obtain ⟨a,n,c,rfl,g1,g2,g3,g4,zs,g5,g6⟩:=R4.1 h1
  obtain ⟨A,L,C,R,hR⟩:=a7S (l:=l) h2
  refine ⟨fun r=>match r with | 0=>a | r+1=>A r,fun r=>match r with | 0=>n | r+1=>L r,fun r=>match r with | 0=>c | r+1=>C r,fun r=>match r with | 0=>zs | r+1=>R r,fun r y hy=>?_⟩
  cases r with
  | zero =>
   simp at hy
   subst hy
   exact ⟨rfl,by rw [g1,List.length_map],g4,g5,g6⟩
  | succ r =>
   simp at hy
   exact hR r y hy
theorem a8O {U:Nat→Nat→Prop} {w:World} {l:List (List Lt)} {L:Nat→Nat} {R:Nat→List Value} (h:∀ r x,l[r]?=some x→L r=x.length∧Sq ((x.map Lt.cv).map fun c=>Rep U w c) (R r)) :
  ∀ k,k≤l.length→Sq (((l.take k).flatten.map Lt.cv).map fun c=>Rep U w c) (a9M R k)∧a8S L k=(l.take k).flatten.length:=by
 intro k
 induction k with
 | zero=>intro _;exact ⟨rfl,rfl⟩
 | succ k ih =>
  intro hk
  obtain ⟨h1,h2⟩:=ih (by omega)
  obtain ⟨x,hx⟩:∃ x,l[k]?=some x:=⟨l[k],List.getElem?_eq_getElem (by omega)⟩
  obtain ⟨h3,h4⟩:=h k x hx
  rw [List.take_add_one,hx,List.flatten_append,a9M,a8S,List.map_append,List.map_append,List.length_append,h2,h3]
  simp only [Option.toList_some,List.flatten_cons,List.flatten_nil,List.append_nil]
  exact ⟨B6 h1 h4,trivial⟩
theorem a6Z (W:World) (l:List (List Lt)) (hl:l.length≤1000) (hs:l.flatten.length≤1099511627776):AFun Tryz.prog W 51 [.lst (l.map fun x=>CV.lst (x.map Lt.cv))] (.val (.lst (l.flatten.map Lt.cv))):=by
 refine ⟨C1 Tryz.func51 rfl rfl,.inl rfl,rfl,?_⟩
 rintro U w vs hW ⟨u1,us1,rfl,h1,h3⟩
 have h3:us1=[]:=h3
 subst h3
 obtain ⟨a,n,c,rfl,g1,g2,g3,g4,ys,g5,g6⟩:=j5.1 h1
 rw [List.length_map] at g1
 subst g1
 obtain ⟨A,L,C,R,hR⟩:=a7S g6
 obtain ⟨hj,hn⟩:=a8O (fun r x hx=>⟨(hR r x hx).2.1,(hR r x hx).2.2.2.2⟩) l.length (Nat.le_refl _)
 rw [List.take_length] at hj hn
 have hrw:Rw 5 w a l.length A L C R:=by
  refine ⟨fun r hr=>?_,?_⟩
  ·obtain ⟨k1,k2,k3,k4,k5⟩:=hR r _ (List.getElem?_eq_getElem hr)
   refine ⟨k3,a7U k4,?_,P6 k5⟩
   rw [C5 (n:=fun _=>5) (fun c hc xs hx=>by
    obtain ⟨t,ht,rfl⟩:=List.mem_map.1 hc
    rw [hx.len]
    exact Lt.size_all [t] _ (by simp)) k5,k2]
   rw [List.map_const',List.sum_replicate_nat]
   simp
  ·by_cases hz:l.length=0
   ·exact .inl hz
   ·refine .inr ?_
    have hc:=a7U g5
    have hy0:=(hR 0 _ (List.getElem?_eq_getElem (by omega:0<l.length))).1
    rcases hc with hc | ⟨b,off,ha,hb,hc⟩
    ·rw [hc] at hy0;simp at hy0
    ·refine ⟨b,off,ha,hb,fun r hr=>?_⟩
     have hy:=(hR r _ (List.getElem?_eq_getElem hr)).1
     have hlt:r<ys.length:=by
      rcases Nat.lt_or_ge r ys.length with h | h
      ·exact h
      ·rw [List.getElem?_eq_none h] at hy;cases hy
     rw [hc r hlt,hy]
 refine (a6V a l.length c A L C R w hrw hl (by rw [hn];exact hs)).mono ?_
 rintro e w' ⟨v,rfl,ho,hb⟩
 obtain ⟨a',c',rfl,k1,k2,k3,k4⟩:=a9L ho
 refine ⟨_,rfl,j5.2 ⟨a',_,c',rfl,by rw [hn,List.length_map],k1,k2,k3,_,k4.keep fun b o v h1 h2=>⟨.inr h1,h2⟩,hj.keep fun b o v h1 h2=>⟨.inl h1,?_⟩⟩,hb⟩
 rw [hb.cell (World.block_lt_of_cell? w _ h2)]
 exact h2
end Go.Proofs.YtglmoficcjphaaaGreat
namespace Go.Proofs.YtglmoficcjphaaaGreat
open Go.RowKit
set_option linter.unusedVariables false
set_option linter.unusedSimpArgs false
set_option maxRecDepth 100000
noncomputable abbrev Sn.cw (s:Sn):CV := .row [s.lit.cw,s.look.cw]
noncomputable def Sn.cv (s:Sn):CV:=s.cw
def ltG {α:Type} (cmp:α→α→Int) (x y:α):Bool:=decide (cmp x y<0)
def ltO (x y:Int):Bool:=decide (x<y)
end Go.Proofs.YtglmoficcjphaaaGreat
namespace Go.Proofs.YtglmoficcjphaaaGreat
open Go.RowKit
set_option linter.unusedVariables false
set_option linter.unusedSimpArgs false
def b1h:List (Option (List Value))→Option (List Value)
 | []=>some []
 | none::_=>none
 | some x::r=>match b1h r with | some y=>some (x++y) | none=>none
def plS (k:Nat) (v:Value) (l:List CV) (r:Option (List Value)):Option (List Value):=match k,v,l with
 | 0,v,[]=>match M3 v,E9 v with | true,false=>some [v] | _,_=>none
 | 1,.nilFunc,[]=>some [.slice none 0 0]
 | 2,.nilFunc,_=>r
 | _,_,_=>none
def plC:Nat→CV→Option (List Value)
 | 0,_=>none
 | n+1,⟨k,v,l⟩=>plS k v l (b1h (l.map (plC n)))
theorem a1o {U:Nat→Nat→Prop} {w:World} {n:Nat} (ih:∀ c vs,plC n c=some vs→Rep U w c vs∧vs.length=c.size):∀ {zs:List CV} {vs:List Value},b1h (zs.map (plC n))=some vs→∃ segs:List (List Value),segs.flatten=vs∧segs.map List.length=zs.map CV.size∧zs.length=segs.length∧∀ (i:Nat) (c:CV),zs[i]?=some c→∃ seg,segs[i]?=some seg∧Rep U w c seg
 | [],vs,h=>by
  simp [b1h] at h
  subst h
  exact ⟨[],rfl,rfl,rfl,fun i c hi=>by simp at hi⟩
 | z::zs,vs,h=>by
  rw [List.map_cons] at h
  cases hz:plC n z with
  | none=>rw [hz] at h;simp [b1h] at h
  | some x =>
   rw [hz] at h
   unfold b1h at h
   split at h
   ·rename_i y hy
    cases h
    obtain ⟨segs,a1,a2,a3,a4⟩:=a1o ih hy
    obtain ⟨b1,b2⟩:=ih z x hz
    refine ⟨x::segs,by simp [a1],by simp [a2,b2],by simp [a3],fun i c hi=>?_⟩
    cases i with
    | zero=>simp at hi;subst hi;exact ⟨x,rfl,b1⟩
    | succ i=>obtain ⟨seg,c1,c2⟩:=a4 i c (by simpa using hi);exact ⟨seg,by simpa using c1,c2⟩
   ·cases h
theorem a8d {U:Nat→Nat→Prop} {w:World}:∀ (n:Nat) (c:CV) (vs:List Value),plC n c=some vs→Rep U w c vs∧vs.length=c.size
 | 0,c,vs,h=>by cases h
 | n+1,⟨k,v,l⟩,vs,h=>by
  rw [plC] at h
  unfold plS at h
  split at h
  ·split at h
   ·rename_i h1 h2
    cases h
    exact ⟨(T5 h1).2 h2,rfl⟩
   ·cases h
  ·cases h
   exact ⟨a5W U w,rfl⟩
  ·obtain ⟨segs,a1,a2,a3,a4⟩:=a1o (fun c vs h=>a8d (U:=U) (w:=w) n c vs h) h
   refine ⟨?_,?_⟩
   ·show Rep U w (.row l) vs
    rw [F5,←a1]
    exact G0 a3 a4
   ·rw [CV.size_mk,if_pos rfl,←a1,List.length_flatten,a2]
  ·cases h
section
variable {P:Program} {w0:World} {U0:UX} {nt:Nat} {ops:Array Oper} {o:Oper} {S:Nat→Option AV} {gs:List Nat} {d:Nat}
theorem b3T (zs:List CV) (hg:Gd w0 U0 nt ops o gs S) (hd:o.dst=some d) (hn:Nat.blt d nt=true) (h5:Nat.blt d 100000=true) {t:TypeId} {parts:Array (Nat×Operand)} {fs:Array Field} {it:TypeInfo} {cs:Array Value} {sz:List Nat} {r:List CV} (ho:o.op = .build t parts) (hu:P.underlying t=some (.struct fs)) (hi:P.info? t=some it) (hz:it.zero=some (.agg cs)) (hsz:szO P fs.toList 0=some sz) (hzz:zs.map CV.size=sz) (h0:b1h (zs.map (plC 6))=some cs.toList) (hr:N0 S parts.toList zs=some r) :
  AOp P w0 U0 nt ops o (gs++rds parts.toList) [] S [(d,.val (.row r))]:=
 d9 hg hd hn h5 (fun k hk=>List.mem_append_left _ hk) fun s hs a w D hv hm=>by
  obtain ⟨segs,e1,e2,e4,e5⟩:=a1o (U:=Us w0 U0 D) (w:=w) (a8d 6) h0
  obtain ⟨g1,g2⟩:=Q2 (U:=Us w0 U0 D) (w:=w) (ρ:=a.eval) (segs:=segs) hr (fun x hx c n q p hev=>A0 hm (fun k hk=>hs k (List.mem_append_right _ (a2U hx k hk))) hev) e4 e2 e5
  obtain ⟨pl,h1,h2⟩:=a3B hsz
  have hfill:=W6 (place:=fun i=>pl.toArray[i]?) sz (fun i z hz=>by rw [List.getElem?_toArray,h2 i z hz,Nat.zero_add]) (parts.toList.map fun x=>(x.1,a.eval x.2)) segs cs e1.symm (by rw [e2,hzz]) (fun x hx=>by rw [←hzz];exact g1 x hx)
  refine ⟨.agg (D8 segs (parts.toList.map fun x=>(x.1,a.eval x.2))).flatten.toArray,?_,k8 (H6.2 ⟨_,rfl,g2⟩)⟩
  have hb:P.built t (parts.map fun x=>(x.1,a.eval x.2)).toList=some (D8 segs (parts.toList.map fun x=>(x.1,a.eval x.2))).flatten.toArray:=by
   unfold Program.built
   rw [hi,hu]
   simp only [hz,h1]
   rw [Array.toList_map]
   exact hfill
  have:=run_build w t _ _ hb
  generalize a.eval=ρ at this ⊢
  simp [execOp,ho,this]
theorem zbO {P:Program} {w0:World} {U0:UX} {nt:Nat} {ops:Array Oper} {o:Oper} {S:Nat→Option AV} {gs:List Nat} {d:Nat} {t:TypeId} {parts:Array (Nat×Operand)} {fs:Array Field} {it:TypeInfo} {cs:Array Value} {sz:List Nat} {r:List CV} (zs:List CV) (u:Gd w0 U0 nt ops o gs S:=by exact gN rfl) (v:o.dst=some d:=by exact rfl) (y:Nat.blt d nt=true:=by exact rfl) (A:Nat.blt d 100000=true:=by exact rfl) (B:o.op = .build t parts:=by exact rfl) (C:P.underlying t=some (.struct fs):=by exact rfl) (E:P.info? t=some it:=by exact rfl) (F:it.zero=some (.agg cs):=by exact rfl) (G:szO P fs.toList 0=some sz:=by exact rfl) (H:zs.map CV.size=sz:=by exact rfl) (h0:b1h (zs.map (plC 6))=some cs.toList:=by exact rfl) (hr:N0 S parts.toList zs=some r:=by exact rfl):AOp P w0 U0 nt ops o (gs++rds parts.toList) [] S [(d,.val (.row r))]:=b3T zs u v y A B C E F G H h0 hr
end
end Go.Proofs.YtglmoficcjphaaaGreat
namespace Go.Proofs.YtglmoficcjphaaaGreat
open Go.RowKit
set_option linter.unusedVariables false
set_option linter.unusedSimpArgs false
set_option maxRecDepth 100000
theorem Z9 (x:Int) (w:World) :
  Calls Tryz.prog 122 #[.int .u8 x] w fun e w'=>e = .returned (.bool false)∧w'=w:=by
 go_enter Tryz.func122,Tryz.ntmps122
 go_wp2
 go_ret
 exact ⟨by simp,rfl⟩
set_option maxHeartbeats 400000 in
theorem a6O (x y:Int) (w:World) :
  Calls Tryz.prog 91 #[.int .u8 x,.int .u8 y] w fun e w'=>e = .returned (.int .i64 (y7 x y))∧Below w.heap.size w w':=by
 rcases Int.lt_trichotomy x y with h | h | h
 ·have h2:y7 x y = -1:=if_pos h
  rw [h2]
  clear h2
  go_enter Tryz.func91,Tryz.ntmps91
  go_wp2_with (go_at_call 122;refine (Z9 _ _).mono ?_;rintro e w1 ⟨rfl,rfl⟩)
  go_ret
  exact ⟨rfl,bW _⟩
 ·subst h
  have h2:y7 x x=0:=by simp [y7]
  rw [h2]
  clear h2
  go_enter Tryz.func91,Tryz.ntmps91
  go_wp2_with (go_at_call 122;refine (Z9 _ _).mono ?_;rintro e w1 ⟨rfl,rfl⟩)
  go_ret
  exact ⟨rfl,bW _⟩
 ·have h2:y7 x y=1:=by unfold y7;rw [if_neg (by omega),if_pos h]
  rw [h2]
  clear h2
  go_enter Tryz.func91,Tryz.ntmps91
  go_wp2_with (go_at_call 122;refine (Z9 _ _).mono ?_;rintro e w1 ⟨rfl,rfl⟩)
  go_ret
  exact ⟨rfl,bW _⟩
theorem b4E (W:World) (x y:Int):AFun Tryz.prog W 91 [by8 x,by8 y] (.val (.i (y7 x y))):=by
 refine ⟨C1 Tryz.func91 rfl rfl,.inl rfl,rfl,?_⟩
 rintro U w vs hW ⟨u1,us1,rfl,h1,u2,us2,rfl,h2,h3⟩
 have h3:us2=[]:=h3
 subst h3
 obtain ⟨rfl,_⟩:=l8.1 h1
 obtain ⟨rfl,_⟩:=l8.1 h2
 refine (a6O x y w).mono ?_
 rintro e w' ⟨rfl,hb⟩
 exact ⟨_,rfl,l8.2 ⟨rfl,rfl⟩,hb⟩
theorem b1x (W:World) (x y:Lt) (hx:x.rng) (hy:y.rng):AFun Tryz.prog W 64 [x.cw,y.cw] (.val (.i (A4 x y))):=by
 refine b6 (rs:=[.i (A4 x y)]) Tryz.func64 Tryz.ntmps64 rfl rfl rfl rfl ?_
 intro w U hW
 refine aS (aR ?_)
 refine nc zd (nc zd (nc ze ?_))
 refine aS (aS (aD (by kernel_rfl) (by kernel_rfl) ?_))
 refine nc zy (nc (zw (z:=a4U w x)) (nc zy (nc (zw (z:=a4U w y)) (nc (zw (z:=b4E w _ _)) (nc ze ?_)))))
 refine ⟨by kernel_rfl,?_⟩
 refine aS (aR ?_)
 refine nc zl (nc z7 ?_)
 refine aC rfl (fun hc=>?_) (fun hc=>?_)
 ·have e:A4 x y=y7 (sgZ x.neg) (sgZ y.neg):=by unfold A4;rw [if_pos];exact of_decide_eq_true hc
  rw [e]
  refine aS (aR ?_)
  refine nc zl (nc ze ?_)
  exact aT (And.intro (.inr rfl) rfl)
 ·have e:A4 x y=a0d x y:=by unfold A4;rw [if_neg];exact of_decide_eq_false hc
  rw [e]
  refine aK ?_
  refine aS (aR ?_)
  refine nc zy (nc zy (nc (zw (z:=b1Z w x y hx hy)) (nc ze ?_)))
  exact aT (And.intro (.inr rfl) rfl)
theorem a8X (W:World) (x y:Lt) (hx:x.rng) (hy:y.rng):AFun Tryz.prog W 45 [x.cw,y.cw] (.val (.b (smL x y))):=by
 refine b6 (rs:=[.b (smL x y)]) Tryz.func45 Tryz.ntmps45 rfl rfl rfl rfl ?_
 intro w U hW
 refine aS (aR ?_)
 refine nc zd (nc zd (nc ze ?_))
 refine aS (aR ?_)
 refine nc zy (nc zy (nc (zw (z:=b1x w x y hx hy)) (nc zt (nc ze ?_))))
 exact aT (And.intro (.inr rfl) rfl)
def eqF (p:Lt→Lt→Bool):List Lt→List Lt→Bool
 | [],[]=>true
 | x::c,y::d=>p x y&&eqF p c d
 | _,_=>false
theorem b0N {p:Lt→Lt→Bool}:∀ {c d:List Lt},c.length≠d.length→eqF p c d=false
 | [],[],h=>absurd rfl h
 | [],_::_,_=>rfl
 | _::_,[],_=>rfl
 | x::c,y::d,h=>by rw [eqF,b0N (c:=c) (d:=d) (by simpa using h),Bool.and_false]
theorem b5F {p:Lt→Lt→Bool}:∀ {c d:List Lt} {k:Nat} {x y:Lt},c[k]?=some x→d[k]?=some y→p x y=false→eqF p c d=false
 | [],_,k,_,_,h,_,_=>by simp at h
 | _::_,[],k,_,_,_,h,_=>by simp at h
 | a::c,b::d,0,x,y,h1,h2,h=>by
  simp at h1 h2
  subst h1 h2
  rw [eqF,h,Bool.false_and]
 | a::c,b::d,k+1,x,y,h1,h2,h=>by rw [eqF,b5F (c:=c) (d:=d) (k:=k) (by simpa using h1) (by simpa using h2) h,Bool.and_false]
theorem b0z {p:Lt→Lt→Bool}:∀ {c d:List Lt},c.length=d.length→(∀ (k:Nat) (x y:Lt),c[k]?=some x→d[k]?=some y→p x y=true)→eqF p c d=true
 | [],[],_,_=>rfl
 | [],_::_,h,_=>by simp at h
 | _::_,[],h,_=>by simp at h
 | x::c,y::d,h,hp=>by
  rw [eqF,hp 0 x y rfl rfl,Bool.true_and]
  exact b0z (by simpa using h) fun k a b h1 h2=>hp (k+1) a b (by simpa using h1) (by simpa using h2)
theorem b4K (c d:List Lt):eqF smL c d=a0S c d:=by
 induction c generalizing d with
 | nil=>cases d<;>rfl
 | cons x c ih=>cases d with
  | nil=>rfl
  | cons y d=>rw [eqF,ih,b1Q];rfl
theorem b6t (W:World) (p:Lt→Lt→Bool) (fc:CV) (c d:List Lt) (hl:c.length≤1000000) (hc:∀ W,∀ x∈c,∀ y∈d,L4 Tryz.prog W fc [x.cw,y.cw] (.val (.b (p x y)))):AFun Tryz.prog W 42 [.lst (c.map Lt.cv),.lst (d.map Lt.cv),fc] (.val (.b (eqF p c d))):=by
 have hs1:=Lt.size_all c
 have hs2:=Lt.size_all d
 refine b6 (rs:=[.b (eqF p c d)]) Tryz.func42 Tryz.ntmps42 rfl rfl rfl rfl ?_
 intro w U hW
 refine aS (aR ?_)
 refine nc ze ?_
 refine aS (aS (aR ?_))
 refine nc zl (nc zp (nc zl (nc zp (nc z7 ?_))))
 refine aC rfl (fun h=>?_) (fun h=>?_)
 ·have h:=of_decide_eq_true h
  rw [List.length_map,List.length_map] at h
  rw [b0N (p:=p) (c:=c) (d:=d) (by omega)]
  refine aS (aR ?_)
  refine nc ze ?_
  exact aT (And.intro (.inr rfl) rfl)
 have hll:c.length=d.length:=by
  have:=of_decide_eq_false h
  simp only [List.length_map,ne_eq,Decidable.not_not] at this
  omega
 refine aK ?_
 refine aS (aS (aR ?_))
 refine nc zl (nc zp (nc zl ?_))
 refine aB (y0 c.length (fun k=>∀ (i:Nat) (x y:Lt),i<k→c[i]?=some x→d[i]?=some y→p x y=true) (fun k=>[(1,.val (.lst (d.map Lt.cv))),(2,.val fc),(15,.val (.lst (c.map Lt.cv))),(16,.val (.i (c.map Lt.cv).length)),(17,.val (.i k))]) (a7 ⟨rfl,rfl,rfl,rfl,rfl,trivial⟩) (fun i _ _ hi=>by omega) ?_)
 intro k hk hI
 refine aS (aR ?_)
 refine nc zi ?_
 refine aS (aC rfl (fun hlt=>?_) (fun hlt=>?_))
 ·have hkl:k<c.length:=by simpa using hlt
  obtain ⟨x,hx⟩:∃ x,c[k]?=some x:=⟨c[k],List.getElem?_eq_getElem hkl⟩
  obtain ⟨y,hy⟩:∃ y,d[k]?=some y:=⟨d[k]'(by omega),List.getElem?_eq_getElem (by omega)⟩
  have hx':=Lt.map_at hx
  have hy':=Lt.map_at hy
  refine aK ?_
  refine aS (aB (aS (aR ?_)))
  refine nc zl (nc (zq (j:=k) (H:=hx') (hz:=hs1)) (nc zr (nc zk (nc ze (nc zo ?_)))))
  refine aS (aR ?_)
  refine nc zl (nc zl (nc (zq (j:=k) (H:=hy') (hz:=hs2)) (nc zr (nc zk (nc zo ?_)))))
  refine aS (aR ?_)
  refine nc zl (nc zy (nc zy (nc (zK (E:=hc w x (List.mem_of_getElem? hx) y (List.mem_of_getElem? hy))) (nc zX ?_))))
  refine aC rfl (fun hq=>?_) (fun hq=>?_)
  ·rw [b5F hx hy (by simpa using hq)]
   refine aS (aR ?_)
   refine nc ze ?_
   exact aT (And.intro (.inr rfl) rfl)
  ·have hq:p x y=true:=by simpa using hq
   refine aK ?_
   refine aR ?_
   refine nc zu (nc zl ?_)
   refine ⟨hkl,fun i a b hi h1 h2=>?_,a7 ⟨rfl,rfl,rfl,rfl,rfl,trivial⟩⟩
   rcases Nat.lt_or_ge i k with h3 | h3
   ·exact hI i a b h3 h1 h2
   ·have:i=k:=by omega
    subst this
    rw [hx] at h1
    rw [hy] at h2
    cases h1
    cases h2
    exact hq
 ·have hkl:k=c.length:=by
   have:¬ k<c.length:=by simpa using hlt
   omega
  subst hkl
  rw [b0z hll fun i x y h1 h2=>hI i x y (by have:=(List.getElem?_eq_some_iff.1 h1).1;omega) h1 h2]
  refine aE ?_
  refine aS (aR ?_)
  refine nc ze ?_
  exact aT (And.intro (.inr rfl) rfl)
theorem a4J (W:World) (c d:List Lt) (hl:c.length≤1000000) (hc:∀ l∈c,l.rng) (hd:∀ l∈d,l.rng):AFun Tryz.prog W 22 [.lst (c.map Lt.cv),.lst (d.map Lt.cv)] (.val (.b (a0S c d))):=by
 have h:=fun w=>b6t w smL (.sc (.func (.func 45) #[] #[])) c d hl (fun W x hx y hy => .inr ⟨_,rfl,a8X W x y (hc x hx) (hd y hy)⟩)
 rw [b4K] at h
 refine b6 (rs:=[.b (a0S c d)]) Tryz.func22 Tryz.ntmps22 rfl rfl rfl rfl ?_
 intro w U hW
 refine aS (aR ?_)
 refine nc ze ?_
 refine aS (aR ?_)
 refine nc zl (nc zl (nc (zw (z:=h w)) (nc ze ?_)))
 exact aT (And.intro (.inr rfl) rfl)
def okCl (c:List Lt):Prop:=c.length≤12∧∀ l∈c,(l.a.rng∧l.a.ok∧l.a.size≤1000)∧(l.b.rng∧l.b.ok∧l.b.size≤1000)
theorem a7J {c:List Lt} {s:Tm}:s∈C6 c↔∃ l∈c,s=l.a∨s=l.b:=by
 unfold C6
 rw [List.mem_flatMap]
 constructor
 ·rintro ⟨l,hl,h⟩
  exact ⟨l,hl,by simpa using h⟩
 ·rintro ⟨l,hl,h⟩
  exact ⟨l,hl,by simpa using h⟩
theorem okCl.sid {c:List Lt} (h:okCl c):(a5R c).rng∧(a5R c).ok∧(a5R c).size≤24001:=by
 have hm:∀ s∈C6 c,s.rng∧s.ok∧s.size≤1000:=fun s hs=>by
  obtain ⟨l,hl,e⟩:=a7J.1 hs
  rcases e with rfl | rfl
  ·exact (h.2 l hl).1
  ·exact (h.2 l hl).2
 have hl:=a3J c
 have h1:=h.1
 refine ⟨(Tm.rng_iff _).2 ⟨by show _≤(0:Int)∧(0:Int)≤_;omega,fun s hs=>(hm s hs).1⟩,(Tm.ok_iff _).2 ⟨by show (C6 c).length≤_;omega,fun s hs=>(hm s hs).2.1⟩,?_⟩
 rw [Tm.size_sym (show ¬ (a5R c).f<0 by show ¬ (0:Int)<0;decide)]
 show 1+((C6 c).map Tm.size).sum≤_
 have:∀ L:List Tm,(∀ s∈L,s.size≤1000)→(L.map Tm.size).sum≤1000*L.length:=fun L=>by
  induction L with
  | nil=>intro _;exact Nat.zero_le _
  | cons x L ih =>
   intro g
   rw [List.map_cons,List.sum_cons,List.length_cons]
   have a1:=g x (by simp)
   have a2:=ih fun s hs=>g s (List.mem_cons_of_mem _ hs)
   omega
 have:=this (C6 c) fun s hs=>(hm s hs).2.2
 omega
theorem okCl.nv {c:List Lt} (h:okCl c):(a5R c).nv.length≤24001:=Nat.le_trans (b9M _) h.sid.2.2
theorem okCl.rng {c:List Lt} (h:okCl c):∀ l∈c,l.rng:=fun l hl=>⟨(h.2 l hl).1.1,(h.2 l hl).2.1⟩
theorem okCl.ok {c:List Lt} (h:okCl c):∀ l∈c,l.a.ok∧l.b.ok:=fun l hl=>⟨(h.2 l hl).1.2.1,(h.2 l hl).2.2.1⟩
def Lt.z:Lt:=⟨false,⟨0,[]⟩,⟨0,[]⟩⟩
noncomputable abbrev ltZ:CV := .row [.b false,.row [.i 0,.lst []],.row [.i 0,.lst []]]
def b8H (c:List Lt) (g:Int→Int):List Bd:=b3q (a5R c).nv ((a3r (a5R c).nv.length).map g)
end Go.Proofs.YtglmoficcjphaaaGreat
namespace Go.Proofs.YtglmoficcjphaaaGreat
open Go.RowKit
set_option linter.unusedVariables false
set_option linter.unusedSimpArgs false
section
variable {P:Program} {w0:World} {U0:UX} {nt:Nat} {s:AS}
end
end Go.Proofs.YtglmoficcjphaaaGreat
namespace Go.Proofs.YtglmoficcjphaaaGreat
open Go.RowKit
set_option linter.unusedVariables false
set_option linter.unusedSimpArgs false
set_option maxRecDepth 100000
theorem a7m (W:World) (x y:List Lt) (hl:x.length+y.length≤1000000):AFun Tryz.prog W 51 [.lst [.lst (x.map Lt.cv),.lst (y.map Lt.cv)]] (.val (.lst ((x++y).map Lt.cv))):=by
 have h:=a6Z W [x,y] (by simp) (by simp;omega)
 have e:[x,y].flatten=x++y:=by simp
 rw [e] at h
 exact h
theorem a1U (W:World) (c:List Lt) (n:Nat) (hn:n<c.length) (hl:c.length≤100000):AFun Tryz.prog W 29 [.lst (c.map Lt.cv),.i (n:Int)] (.val (.lst ((L2 c n).map Lt.cv))):=by
 have hsz:=Lt.size_all c
 have hc2:=fun w=>a7m w (c.take n) (c.drop (n+1)) (by rw [List.length_take,List.length_drop];omega)
 rw [List.map_take,List.map_drop] at hc2
 have hlen:(c.map Lt.cv).length=c.length:=List.length_map ..
 refine b6 (rs:=[.lst ((L2 c n).map Lt.cv)]) Tryz.func29 Tryz.ntmps29 rfl rfl rfl rfl ?_
 intro w U hW
 refine aS (aR ?_)
 refine nc ze ?_
 refine aS (aD (by kernel_rfl) (by kernel_rfl) ?_)
 refine nc zl (nc zl (nc zbM (nc zl (nc zl (nc zu (nc (zbz (lo:=n+1)) (nc zD (nc (zw (z:=hc2 w)) (nc ze ?_)))))))))
 refine ⟨by kernel_rfl,?_⟩
 exact aT (And.intro (.inr rfl) rfl)
theorem b0P {c:List Lt} (hl:c.length≤100000) (h:∀ l∈c,(l.a.rng∧l.a.ok)∧l.b.rng∧l.b.ok):(⟨0,C6 c⟩:Tm).rng∧(⟨0,C6 c⟩:Tm).ok:=by
 have hm:∀ s∈C6 c,s.rng∧s.ok:=fun s hs=>by
  obtain ⟨l,hl,e⟩:=a7J.1 hs
  rcases e with rfl | rfl
  ·exact (h l hl).1
  ·exact (h l hl).2
 have hlen:=a3J c
 exact ⟨(Tm.rng_iff _).2 ⟨by show _≤(0:Int)∧(0:Int)≤_;omega,fun s hs=>(hm s hs).1⟩,(Tm.ok_iff _).2 ⟨by show (C6 c).length≤_;omega,fun s hs=>(hm s hs).2⟩⟩
theorem b0U {c:List Lt} (h:∀ l∈c,l.ten):∀ l∈c,(l.a.rng∧l.a.ok)∧l.b.rng∧l.b.ok:=fun l hl=>⟨(h l hl).1.1,(h l hl).2.1⟩
theorem a8W (W:World) {a b:Tm} (ha:a.ten) (hb:b.ten) (c:List Lt) (hl:c.length≤100000) (hc:∀ l∈c,(l.a.rng∧l.a.ok)∧l.b.rng∧l.b.ok):AFun Tryz.prog W 28 [.lst ((mgT a b).1.map Bd.cv),.lst (c.map Lt.cv)] (.val (.lst ((c.map (Lt.rep (mgS a b))).map Lt.cv))):=by
 have hT:=a1f ha hb
 obtain ⟨h1,h2⟩:=b0P hl hc
 exact a2r W (mgT a b).1 c (by omega) (by have:=hT.len;omega) hT.bdsOk h1 h2
theorem a9h (W:World) {a b:Tm} (ha:a.ten) (hb:b.ten):AFun Tryz.prog W 27 [a.cw,b.cw] (.tup [.lst ((mgT a b).1.map Bd.cv),.b (mgT a b).2]):=
 a8K W a b ha.1.1 ha.1.2 hb.1.1 hb.1.2 (by have:=ha.2;have:=hb.2;omega) _ (a1f ha hb).told
theorem a7T:∀ t:Tm,a9 (b5 []) t=t.strip:=fun t=>b0h t
theorem b8c (c:List Lt):c.map (Lt.rep (b5 []))=c.map Lt.strip:=by
 refine List.map_congr_left fun l _=>?_
 unfold Lt.rep Lt.strip
 rw [a7T,a7T]
theorem a5B (W:World) (c:List Lt) (i:Int) (hl:c.length≤100000) (hc:∀ l∈c,(l.a.rng∧l.a.ok)∧l.b.rng∧l.b.ok):AFun Tryz.prog W 18 [.lst (c.map Lt.cv),.i i] (.val (.lst (((if 0≤i∧i<c.length then L2 c i.toNat else c).map Lt.strip).map Lt.cv))):=by
 have hap:∀ (d:List Lt) (w:World),d.length≤100000→(∀ l∈d,(l.a.rng∧l.a.ok)∧l.b.rng∧l.b.ok)→AFun Tryz.prog w 28 [.lst [],.lst (d.map Lt.cv)] (.val (.lst ((d.map Lt.strip).map Lt.cv))):=fun d w h1 h2=>by
  obtain ⟨g1,g2⟩:=b0P h1 h2
  have:=a2r w [] d (by omega) (by simp) (fun b hb=>by cases hb) g1 g2
  rw [b8c] at this
  exact this
 have hsz:=Lt.size_all c
 refine b6 (rs:=[.lst (((if 0≤i∧i<c.length then L2 c i.toNat else c).map Lt.strip).map Lt.cv)]) Tryz.func18 Tryz.ntmps18 rfl rfl rfl rfl ?_
 intro w U hW
 refine aS (aR ?_)
 refine nc ze ?_
 by_cases h0:i≥0
 ·have g0:decide (i≥0)=true:=decide_eq_true h0
  by_cases h1:i<c.length
  ·have g1:decide (i<((c.map Lt.cv).length:Int))=true:=decide_eq_true (by rw [List.length_map];exact h1)
   obtain ⟨n,rfl⟩:∃ n:Nat,i=(n:Int):=⟨i.toNat,by omega⟩
   rw [if_pos ⟨h0,h1⟩,Int.toNat_natCast]
   have hn:n<c.length:=by omega
   have hol:=a0z hn
   refine aS (aS (aR ?_))
   refine nc zl (nc zbg (nc zl (nc (zl (p:=gb)) (nc (zl (p:=gb)) (nc (zp (r:=gb)) (nc (zi (r:=gb)) (nc zM ?_)))))))
   refine aC rfl (fun _=>?_) (fun h=>by rw [g1] at h;cases h)
   refine aR ?_
   refine nc zl (nc zl (nc (zw (z:=a1U w c n hn hl)) (nc ze ?_)))
   refine aS (aR ?_)
   refine nc zl ?_
   refine nc (zw (z:=hap (L2 c n) w (by omega) (fun l h=>hc l (a3M h)))) ?_
   refine nc ze ?_
   exact aT (And.intro (.inr rfl) rfl)
  ·have g1:decide (i<((c.map Lt.cv).length:Int))=false:=decide_eq_false (by rw [List.length_map];exact h1)
   rw [if_neg (by omega)]
   refine aS (aS (aR ?_))
   refine nc zl (nc zbg (nc zl (nc (zl (p:=gb)) (nc (zl (p:=gb)) (nc (zp (r:=gb)) (nc (zi (r:=gb)) (nc zM ?_)))))))
   refine aC rfl (fun h=>by rw [g1] at h;cases h) (fun _=>aK ?_)
   refine aS (aR ?_)
   refine nc zl (nc (zw (z:=hap c w hl hc)) (nc ze ?_))
   exact aT (And.intro (.inr rfl) rfl)
 ·have g0:decide (i≥0)=false:=decide_eq_false h0
  rw [if_neg (by omega)]
  refine aS (aS (aR ?_))
  refine nc zl (nc zbg (nc zl (nc zO (nc zO (nc zO (nc zO (nc zP ?_)))))))
  refine aC rfl (fun h=>by cases h) (fun _=>aK ?_)
  refine aS (aR ?_)
  refine nc zl (nc (zw (z:=hap c w hl hc)) (nc ze ?_))
  exact aT (And.intro (.inr rfl) rfl)
noncomputable def clC (c:List Lt):CV := .lst (c.map Lt.cv)
theorem a8f (L:List (List Lt)):∀ x∈L.map clC,x.size=1:=by
 intro x hx
 obtain ⟨c,_,rfl⟩:=List.mem_map.1 hx
 rfl
noncomputable abbrev obE (L:List (List Lt)):AS:=[(450001,.obj),(35500100,.sl 300005 0 L.length 1),(300005,.mrow 26 1 (L.map clC))]
noncomputable abbrev c1n:List CV:=[.b false,.row [.i 0,.lst []],.row [.i 0,.lst []]]
def htK (h:Option Nat) (k:Nat):Bool:=match h with | some i=>decide (i<k) | none=>false
def usK (h:Option Nat) (u:List Bool) (k:Nat):List Bool:=match h with | some i=>if i<k then u.set i true else u | none=>u
noncomputable def c1X (X:List Tm) (y:Tm):Bool:=X.any fun x=>decide (kb x y=1)
theorem b7O (l:Lt):0<wtL l:=by have:=l.a.size_pos;unfold wtL;omega
noncomputable def orD (l:Lt):List (Tm×Tm):=(if kb l.a l.b>0 then [(l.a,l.b)] else [])++(if kb l.a l.b = -1∨kb l.a l.b=2 then [(l.b,l.a)] else [])
noncomputable def prL (p:Tm×Tm):CV := .lst [p.1.cw,p.2.cw]
theorem b9F {x:List Int} {k:Nat} {z:Int} (h:x[k]?=some z):(x.map CV.i)[k]?=some (.i z):=by rw [List.getElem?_map,h];rfl
def al1:Lt:=⟨false,⟨1,[]⟩,⟨0,[]⟩⟩
def al2:Lt:=⟨true,⟨2,[]⟩,⟨0,[]⟩⟩
end Go.Proofs.YtglmoficcjphaaaGreat
namespace Go.Proofs.YtglmoficcjphaaaGreat
open Go.RowKit
set_option linter.unusedVariables false
set_option linter.unusedSimpArgs false
theorem b1q (c:List Lt):(X6 c).length≤c.length+1:=by
 unfold X6
 split
 ·simp
 ·have:=a6h c c.length;omega
end Go.Proofs.YtglmoficcjphaaaGreat
namespace Go.Proofs.YtglmoficcjphaaaGreat
open Go.RowKit
set_option linter.unusedVariables false
set_option linter.unusedSimpArgs false
set_option maxRecDepth 100000
theorem b5n (c:List Lt):∀ k:Nat,-1≤(hvK c k).1∧(hvK c k).1<k
 | 0=>⟨by show (-1:Int) ≤ -1;omega,by show (-1:Int)<_;omega⟩
 | k+1=>by
  obtain ⟨h1,h2⟩:=b5n c k
  unfold hvK
  split
  ·omega
  ·split
   ·simp only;omega
   ·omega
theorem b5V {c:List Lt} {z:Int} (h:z∈X6 c):0≤z∧z<c.length:=by
 unfold X6 at h
 split at h
 ·rw [List.mem_singleton] at h
  have:=b5n c c.length
  omega
 ·unfold gsK at h
  obtain ⟨i,hi,rfl⟩:=List.mem_map.1 h
  have:=List.mem_range.1 (List.mem_filter.1 hi).1
  omega
theorem b4f {c:List Lt} (h:∀ l∈c,l.ten):∀ l∈c,l.fit:=fun l hl=>⟨⟨(h l hl).1.1.1,(h l hl).1.1.2,by have:=(h l hl).1.2;omega⟩,(h l hl).2.1.1,(h l hl).2.1.2,by have:=(h l hl).2.2;omega⟩
noncomputable def a0c (c:List Lt) (L:List Int) (k:Nat):List (List Lt):=(L.take k).filterMap fun z=>b0u c z.toNat
theorem b5h (c:List Lt) (L:List Int) (k:Nat):(a0c c L k).length≤L.length:=by
 unfold a0c
 exact Nat.le_trans (List.length_filterMap_le _ _) (by rw [List.length_take];omega)
theorem b2A {c:List Lt} {L:List Int} {k:Nat} {n:Nat} (h:L[k]?=some (n:Int)):a0c c L (k+1)=a0c c L k++(b0u c n).toList:=by
 unfold a0c
 rw [List.take_add_one,h,List.filterMap_append]
 congr 1
theorem b0M {c:List Lt} (h:∀ l∈c,l.ten) (n:Nat):∀ l∈L2 c n,l.ten:=fun l hl=>h l (a3M hl)
set_option maxHeartbeats 4000000 in
theorem a7L (W:World) (c:List Lt) (hl:c.length≤100) (hc:∀ l∈c,l.ten):AFun Tryz.prog W 12 [.lst (c.map Lt.cv)] (.val (.lst ((Q8 c).map clC))):=by
 have hsz:=Lt.size_all c
 have hLk:=fun w=>b1I w c (by omega) (b4f hc)
 have hLat:∀ z∈X6 c,0≤z∧z<c.length:=fun z hz=>b5V hz
 have hLl:(X6 c).length≤101:=by have:=b1q c;omega
 have hres:Q8 c=a0c c (X6 c) (X6 c).length:=by unfold Q8 a0c;rw [List.take_length]
 rw [hres]
 obtain ⟨L,hL⟩:∃ L,L=X6 c:=⟨_,rfl⟩
 rw [←hL] at hLk hLat hLl ⊢
 have hszL:=i7 L
 refine b6 (rs:=[.lst ((a0c c L L.length).map clC)]) Tryz.func12 Tryz.ntmps12 rfl rfl rfl rfl ?_
 intro w U hW
 refine aS (aR ?_)
 refine nc ze ?_
 refine aS (aR ?_)
 refine nc ze ?_
 refine aS (aS (aR ?_))
 refine nc zl (nc (zw (z:=hLk w)) (nc zp (nc zl ?_)))
 let st:Nat→AS:=fun k=>[(0,.val (.lst (c.map Lt.cv))),(3,.own (.lst ((a0c c L k).map clC)) 200043),(200043,.tok 26 1),(9,.val (.lst (L.map CV.i))),(10,.val (.i (L.map CV.i).length)),(11,.val (.i k))]
 refine aB (o5 L.length st ((O6 3 200043 26 1 rfl rfl rfl rfl rfl rfl rfl).trans (a7 ⟨rfl,rfl,rfl,rfl,rfl,rfl,trivial⟩)) ?_)
 intro k hk
 refine aS (aR ?_)
 refine nc zi ?_
 refine aS (aC rfl (fun hlt=>?_) (fun hlt=>?_))
 ·have hkl:k<L.length:=by simpa using hlt
  obtain ⟨z,hz⟩:∃ z,L[k]?=some z:=⟨L[k],List.getElem?_eq_getElem hkl⟩
  obtain ⟨hz0,hz1⟩:=hLat z (List.mem_of_getElem? hz)
  obtain ⟨n,rfl⟩:∃ n:Nat,z=(n:Int):=⟨z.toNat,by omega⟩
  have hz':=b9F hz
  have hn:n<c.length:=by omega
  obtain ⟨x,hx⟩:∃ x,c[n]?=some x:=⟨c[n],List.getElem?_eq_getElem hn⟩
  have hx':=Lt.map_at hx
  have hxt:=hc x (List.mem_of_getElem? hx)
  have hS:=b2A (c:=c) hz
  have hrc:b0u c n=if x.neg=true∧(mgT x.a x.b).2=true then some ((L2 c n).map (Lt.rep (mgS x.a x.b))) else none:=by unfold b0u;rw [hx]
  have hlen3:=b5h c L k
  have hlen4:((a0c c L k).map clC).length≤101:=by rw [List.length_map];omega
  have hsz3:=a8f (a0c c L k)
  refine aK ?_
  refine aS (aB (aS (aR ?_)))
  refine nc (zq (j:=k) (H:=hz') (hz:=hszL)) (nc zr (nc ze ?_))
  refine aS (aS (aR ?_))
  refine nc zl (nc zl (nc (zq (j:=n) (H:=hx') (hz:=hsz)) (nc zbL (nc zr (nc zX ?_)))))
  refine aC rfl (fun hb=>?_) (fun hb=>?_)
  ·have hb:(!x.neg)=true:=hb
   have hng:x.neg=false:=by simpa using hb
   have e:a0c c L (k+1)=a0c c L k:=by rw [hS,hrc,if_neg (by rw [hng];rintro ⟨h,_⟩;cases h)];simp
   refine aE ?_
   refine aR ?_
   refine nc zu (nc zl ?_)
   refine ⟨hkl,a7 ⟨rfl,?_,rfl,rfl,rfl,rfl,trivial⟩⟩
   rw [e];rfl
  ·have hb:(!x.neg)=false:=hb
   have hng:x.neg=true:=by simpa using hb
   refine aK ?_
   refine aS (aD (by kernel_rfl) (by kernel_rfl) ?_)
   refine nc zl (nc zl (nc (zq (j:=n) (H:=hx') (hz:=hsz)) (nc zbL (nc zr (nc zl (nc zl (nc (zq (j:=n) (H:=hx') (hz:=hsz)) (nc zbL (nc zr (nc (zw (z:=a9h w hxt.1 hxt.2)) (nc zl (nc zx (nc zx (nc ze (nc ze ?_)))))))))))))))
   refine ⟨by kernel_rfl,?_⟩
   obtain ⟨ok,hok⟩:∃ ok,ok=(mgT x.a x.b).2:=⟨_,rfl⟩
   rw [←hok] at hrc
   refine aS (aR ?_)
   refine nc zl ?_
   refine AWp.wk (a7 (s':=[(0,.val (.lst (c.map Lt.cv))),(3,.own (.lst ((a0c c L k).map clC)) 200043),(200043,.tok 26 1),(9,.val (.lst (L.map CV.i))),(10,.val (.i (L.map CV.i).length)),(11,.val (.i k)),(5,.val (.i (n:Int))),(6,.val (.lst ((mgT x.a x.b).1.map Bd.cv))),(35,.val (.b ok))]) ⟨rfl,rfl,rfl,rfl,rfl,rfl,rfl,rfl,by rw [hok];rfl,trivial⟩) ?_
   cases ok with
   | false =>
    have e:a0c c L (k+1)=a0c c L k:=by rw [hS,hrc,if_neg (by rintro ⟨_,h⟩;cases h)];simp
    refine aC rfl (fun h=>by cases h) (fun _=>aK ?_)
    refine aR ?_
    refine nc zu (nc zl ?_)
    refine ⟨hkl,a7 ⟨rfl,?_,rfl,rfl,rfl,rfl,trivial⟩⟩
    rw [e];rfl
   | true =>
    have e:a0c c L (k+1)=a0c c L k++[(L2 c n).map (Lt.rep (mgS x.a x.b))]:=by rw [hS,hrc,if_pos ⟨hng,rfl⟩];rfl
    have hol:=a0z hn
    refine aC rfl (fun _=>?_) (fun h=>by cases h)
    refine aR ?_
    refine nc zl (nc zl (nc zl (nc zl (nc (zw (z:=a1U w c n hn (by omega))) (nc (zw (z:=a8W w hxt.1 hxt.2 (L2 c n) (by omega) (b0U (b0M hc n)))) (nc zD (nc zE (nc ze ?_))))))))
    refine aR ?_
    refine nc zu (nc zl ?_)
    refine ⟨hkl,(a7 (s':=[(0,.val (.lst (c.map Lt.cv))),(3,.own (.lst ((a0c c L (k+1)).map clC)) 300043),(300043,.tok 26 1),(9,.val (.lst (L.map CV.i))),(10,.val (.i (L.map CV.i).length)),(11,.val (.i ((k+1:Nat):Int)))]) ⟨rfl,?_,rfl,rfl,rfl,rfl,trivial⟩).trans (C3 300043 200043 rfl rfl rfl rfl)⟩
    show some (AV.own (.lst _) _)=some (AV.own (.lst _) _)
    rw [e,List.map_append (f:=clC)]
    rfl
 ·have hkl:k=L.length:=by
   have:¬ k<L.length:=by simpa using hlt
   omega
  subst hkl
  refine aE ?_
  refine aS (aR ?_)
  refine nc zl (nc ze ?_)
  exact aT (And.intro (.inr rfl) rfl)
noncomputable def c3q (c:List Lt) (L:List Int) (k:Nat):List (List Lt):=(L.take k).flatMap fun z=>c1y c z.toNat
noncomputable def c3V (c:List Lt) (l:Lt) (n m:Nat):List (List Lt):=(List.range m).flatMap fun j=>c1t c l n j
def c2s (a b:Tm) (d:List Bd):Prop:=(∀ W,AFun Tryz.prog W 30 [.lst [a.cw],.lst [b.cw]] (.tup [.lst (d.map Bd.cv),.b (mgT a b).2]))∧d.length≤1000000∧(∀ x∈d,x.t.rng∧x.t.ok)∧d.map Bd.strip=(mgT a b).1.map Bd.strip
noncomputable def dT (a b:Tm):List Bd:=open Classical in if h:∃ d,c2s a b d then Classical.choose h else []
def c3o (c:List Lt) (i:Int) (k:Nat):List Lt:=(List.range k).filterMap fun j:Nat=>if (j:Int)=i then none else c[j]?
noncomputable def c0M (c:List Lt) (i:Nat):Option (List Lt):=match c[i]? with
 | some x=>if x.neg=true∧(mgT x.a x.b).2=true∧(i:Int)∈X6 c then some ((L2 c i).map (c0e (dT x.a x.b))) else none
 | none=>none
noncomputable def c3E (c:List Lt) (k:Nat):List (List Lt):=(List.range k).filterMap (c0M c)
def sdT (l:Lt) (n:Nat):Tm:=if n=0 then l.a else l.b
noncomputable def c0H (c:List Lt) (i j p q:Nat):Option (List Lt):=match c[i]?,c[j]? with
 | some x,some y =>
  if i=j∨x.neg=true∨y.neg=true∨(i:Int)∉X6 c then none
  else if (mgT (sdT x p) (sdT y q)).2=true∧b8t (a9 (mgS (sdT x p) (sdT y q)) (sdT x p)) (a9 (mgS (sdT x p) (sdT y q)) (sdT x (1-p)))=true then some ((L2 c i++[(⟨true,sdT x (1-p),sdT y (1-q)⟩:Lt)]).map (c0e (dT (sdT x p) (sdT y q))))
  else none
 | _,_=>none
noncomputable def c0y (c:List Lt) (N:Nat):Option (List Lt):=c0H c (N / 4 / c.length) (N / 4 % c.length) (N / 2 % 2) (N % 2)
noncomputable def c3Z (c:List Lt) (k:Nat):List (List Lt):=(List.range k).filterMap (c0y c)
def stC (L:List (List Lt)):List (List Lt):=L.map (List.map Lt.strip)
theorem b3B (c:List Lt) (g:Int→Int) (hg:∀ n,0≤n→n≤24001→0≤g n∧g n≤24001) (hn:okCl c):∀ b∈b8H c g,∃ u,b.t=p5 u∧0≤u∧u≤24001:=fun b hb=>by
 unfold b8H at hb
 obtain ⟨u,hu,e⟩:=b8b hb
 obtain ⟨n,hn2,rfl⟩:=List.mem_map.1 hu
 have:=T4.1 hn2
 have hl:=hn.nv
 exact ⟨_,e,hg n (by omega) (by omega)⟩
theorem b6y {L:List Bd} (h:∀ b∈L,∃ u,b.t=p5 u) (v:Int):∃ u,b5 L v=p5 u:=by
 unfold b5
 cases hf:b0 L v with
 | none=>exact ⟨v,rfl⟩
 | some t =>
  have:∃ b∈L,b.t=t:=by
   clear h
   induction L with
   | nil=>cases hf
   | cons b L ih =>
    unfold b0 at hf
    split at hf
    ·exact ⟨b,by simp,by injection hf⟩
    ·obtain ⟨x,hx,e⟩:=ih hf
     exact ⟨x,List.mem_cons_of_mem _ hx,e⟩
  obtain ⟨b,hb,rfl⟩:=this
  obtain ⟨u,e⟩:=h b hb
  exact ⟨u,e⟩
theorem b1w {img:Int→Tm} (h:∀ v,∃ u,img v=p5 u) (t:Tm):(a9 img t).size=t.size:=by
 have:=a5e img t
 have e:(t.vs.map fun v=>(((img v).size:Nat):Int)-1).sum=0:=by
  generalize t.vs=l
  induction l with
  | nil=>rfl
  | cons v l ih =>
   obtain ⟨u,hu⟩:=h v
   rw [List.map_cons,List.sum_cons,ih,hu,V2];rfl
 rw [e] at this
 omega
theorem okCl.rep {c:List Lt} (hn:okCl c) {L:List Bd} (hL:∀ b∈L,∃ u,b.t=p5 u∧0≤u∧u≤24001):okCl (c.map (Lt.rep (b5 L))):=by
 refine ⟨by rw [List.length_map];exact hn.1,fun l hl=>?_⟩
 obtain ⟨x,hx,rfl⟩:=List.mem_map.1 hl
 have hv:∀ v,∃ u,b5 L v=p5 u:=b6y fun b hb=>by obtain ⟨u,e,_⟩:=hL b hb;exact ⟨u,e⟩
 have hb:bdsOk L:=fun b hb=>by
  obtain ⟨u,e,h1,h2⟩:=hL b hb
  rw [e]
  exact ⟨a7Z h1 (by omega),by rw [V2];omega⟩
 have key:∀ t:Tm,(t.rng∧t.ok∧t.size≤1000)→((a9 (b5 L) t).rng∧(a9 (b5 L) t).ok∧(a9 (b5 L) t).size≤1000):=fun t ht=>by
  refine ⟨a3E ht.1 fun v h1 h2=>(a1a hb h1 h2).1,a6n ht.2.1 fun v=>?_,by rw [b1w hv];exact ht.2.2⟩
  obtain ⟨u,hu⟩:=hv v
  rw [hu]
  exact b0I u
 exact ⟨key _ (hn.2 x hx).1,key _ (hn.2 x hx).2⟩
theorem okCl.inD {c:List Lt} (hn:okCl c):okCl (inD c):=by
 refine ⟨by rw [b6u];exact hn.1,fun l hl=>?_⟩
 obtain ⟨x,hx,rfl⟩:=b1i.1 hl
 rcases a9V x with e | e<;>rw [e]
 ·exact hn.2 x hx
 ·exact ⟨(hn.2 x hx).2,(hn.2 x hx).1⟩
theorem okCl.ded {c:List Lt} (hn:okCl c) {q:Lt→Lt→Bool}:okCl (a4a q c):=⟨Nat.le_trans (b3x c) hn.1,fun l hl=>hn.2 l (b4r hl)⟩
theorem b6z (c:List Lt):b8H c id=b7S c:=by
 unfold b8H b7S
 rw [List.map_id]
def snL (c:List Lt):List Sn:=c.map fun l=>b3p l (lkL l)
theorem okCl.norm {c:List Lt} (hn:okCl c):okCl (nmP c):=by
 unfold nmP
 rw [b5B,b5z,←b6z]
 exact (hn.inD.rep (b3B _ id (fun n h1 h2=>⟨h1,h2⟩) hn.inD)).ded
end Go.Proofs.YtglmoficcjphaaaGreat
namespace Go.Proofs.YtglmoficcjphaaaGreat
open Go.RowKit
set_option linter.unusedVariables false
set_option linter.unusedSimpArgs false
def alk (x y:Lt):Prop:=(x.a.strip=y.a.strip∧x.b.strip=y.b.strip)∨(x.a.strip=y.b.strip∧x.b.strip=y.a.strip)
def TautQ (c:List Lt):Prop:=(∃ l∈c,l.neg=false∧l.a.strip=l.b.strip)∨∃ x∈c,∃ y∈c,x.neg≠y.neg∧alk x y
def c2c (x y:Lt):Bool:=(x.neg&&!y.neg)&&(a4A x ⟨true,y.a,y.b⟩||a4A x ⟨true,y.b,y.a⟩)
def ttD (c:List Lt):Bool:=c.any fun x=>(!x.neg&&B0 x.a x.b)||c.any (c2c x)
theorem TautQ.turn {c d:List Lt} (h:TautQ c) (hs:∀ l∈c,∃ m∈d,m.neg=l.neg∧alk m l):TautQ d:=by
 rcases h with ⟨l,hl,hn,he⟩ | ⟨x,hx,y,hy,hn,he⟩
 ·obtain ⟨m,hm,e1,e2⟩:=hs l hl
  refine .inl ⟨m,hm,by rw [e1,hn],?_⟩
  rcases e2 with ⟨p,q⟩ | ⟨p,q⟩
  ·rw [p,q,he]
  ·rw [p,q,he]
 ·obtain ⟨m,hm,e1,e2⟩:=hs x hx
  obtain ⟨k,hk,f1,f2⟩:=hs y hy
  refine .inr ⟨m,hm,k,hk,by rw [e1,f1];exact hn,?_⟩
  unfold alk at *
  rcases e2 with ⟨p,q⟩ | ⟨p,q⟩<;>rcases f2 with ⟨p2,q2⟩ | ⟨p2,q2⟩<;>rcases he with ⟨p3,q3⟩ | ⟨p3,q3⟩<;>simp [p,q,p2,q2,p3,q3]
theorem TautQ.rep {c:List Lt} (h:TautQ c) (img:Int→Tm):TautQ (c.map (Lt.rep img)):=by
 have key:∀ s t:Tm,s.strip=t.strip→(a9 img s).strip=(a9 img t).strip:=fun s t e=>by
  rw [←a1B img s,←a1B img t,e]
 rcases h with ⟨l,hl,hn,he⟩ | ⟨x,hx,y,hy,hn,he⟩
 ·exact .inl ⟨_,List.mem_map_of_mem hl,hn,key _ _ he⟩
 ·refine .inr ⟨_,List.mem_map_of_mem hx,_,List.mem_map_of_mem hy,hn,?_⟩
  rcases he with ⟨p,q⟩ | ⟨p,q⟩
  ·exact .inl ⟨key _ _ p,key _ _ q⟩
  ·exact .inr ⟨key _ _ p,key _ _ q⟩
theorem TautQ.norm {c:List Lt} (h:TautQ c):TautQ (nmP c):=by
 unfold nmP
 rw [b5B,b5z]
 have h1:TautQ (inD c):=h.turn fun l hl=>⟨rtL l,b1i.2 ⟨l,hl,rfl⟩,by rcases a9V l with e | e<;>rw [e]<;>rfl,by
  rcases a9V l with e | e<;>rw [e]
  ·exact .inl ⟨rfl,rfl⟩
  ·exact .inr ⟨rfl,rfl⟩⟩
 refine (h1.rep (b5 (b7S (inD c)))).turn fun l hl=>?_
 obtain ⟨m,hm,e⟩:=b5a (q:=smL) (fun x=>by unfold smL;rw [decide_eq_true_iff,s8]) hl
 unfold smL at e
 rw [decide_eq_true_iff,s8] at e
 obtain ⟨n,a,b⟩:=m
 obtain ⟨n2,a2,b2⟩:=l
 simp only [Lt.strip,Lt.mk.injEq] at e
 exact ⟨_,hm,e.1,.inl ⟨e.2.1,e.2.2⟩⟩
end Go.Proofs.YtglmoficcjphaaaGreat
namespace Go.Proofs.YtglmoficcjphaaaGreat
open Go.RowKit
set_option linter.unusedVariables false
set_option linter.unusedSimpArgs false
set_option maxRecDepth 100000
def c4a (t:Tm):Tm:=l7 (b3q t.nv ((a3r t.nv.length).map fun _=>0)) t
def okL (l:Lt):Prop:=(l.a.rng∧l.a.ok∧l.a.size≤1000)∧(l.b.rng∧l.b.ok∧l.b.size≤1000)
end Go.Proofs.YtglmoficcjphaaaGreat
namespace Go.Proofs.YtglmoficcjphaaaGreat
open Go.RowKit
set_option linter.unusedVariables false
set_option linter.unusedSimpArgs false
abbrev sv (l:List UInt8):CV := .sc (.string ⟨l.toArray⟩)
section
variable {P:Program} {w0:World} {U0:UX} {nt:Nat} {ops:Array Oper} {o:Oper} {S:Nat→Option AV} {gs:List Nat} {d:Nat}
end
section
variable {P:Program} {w0:World} {U0:UX} {nt:Nat} {ops:Array Oper} {o:Oper} {S:Nat→Option AV} {gs:List Nat} {d:Nat}
end
end Go.Proofs.YtglmoficcjphaaaGreat
namespace Go.Proofs.YtglmoficcjphaaaGreat
open Go.RowKit
set_option linter.unusedVariables false
set_option linter.unusedSimpArgs false
set_option maxRecDepth 100000
theorem b9K {A:List (List Lt)} {k:Nat} {x:List Lt} (h:A[k]?=some x):(A.map clC)[k]?=some (.lst (x.map Lt.cv)):=by rw [List.getElem?_map,h];rfl
def fa5:Tm:=⟨2,[⟨1,[]⟩]⟩
def vx5:Tm:=⟨-1,[]⟩
def px5:Tm:=⟨3,[⟨-1,[]⟩]⟩
def tt5:Tm:=⟨0,[]⟩
def cl5:List Lt:=[⟨true,vx5,fa5⟩,⟨false,px5,tt5⟩]
theorem b8E {t:Tm} (h1:t.rng) (h2:t.ok) (h3:t.size≤10):t.ten:=⟨⟨h1,h2⟩,h3⟩
theorem b0n:fa5.ten:=b8E (by simp [fa5,Tm.rng]) (by simp [fa5,Tm.ok]) (by simp [fa5,Tm.size,Tm.flat])
theorem b1g:vx5.ten:=b8E (by simp [vx5,Tm.rng]) (by simp [vx5,Tm.ok]) (by simp [vx5,Tm.size,Tm.flat])
theorem b7a:px5.ten:=b8E (by simp [px5,Tm.rng]) (by simp [px5,Tm.ok]) (by simp [px5,Tm.size,Tm.flat])
theorem b6o:tt5.ten:=b8E (by simp [tt5,Tm.rng]) (by simp [tt5,Tm.ok]) (by simp [tt5,Tm.size,Tm.flat])
theorem b8d:∀ l∈cl5,l.ten:=fun l hl=>by
 simp only [cl5,List.mem_cons,List.not_mem_nil,or_false] at hl
 rcases hl with rfl | rfl
 ·exact ⟨b1g,b0n⟩
 ·exact ⟨b7a,b6o⟩
theorem mg5:(mgT vx5 fa5).2=true∧mgS vx5 fa5 0=fa5:=by
 have hT:=a1f b1g b0n
 have hfr:∀ σ:Int→Tm,a9 σ fa5=fa5:=fun σ=>by simp [fa5,a9]
 have hvr:∀ σ:Int→Tm,a9 σ vx5=(σ 0).strip:=fun σ=>by simp [vx5,a9]
 have hfs:fa5.strip=fa5:=by simp [fa5,Tm.strip]
 have h2:(mgT vx5 fa5).2=true:=by
  cases h:(mgT vx5 fa5).2 with
  | true=>rfl
  | false =>
   exfalso
   refine (hT.no h).2 (fun _=>fa5) ?_
   rw [C4,hfr,hvr,hfs]
 refine ⟨h2,?_⟩
 have hm:=hT.yes h2
 have hu:=hm.uni
 rw [C4,hfr,hvr,hm.bare 0 (by omega)] at hu
 exact hu
theorem hv5:X6 cl5=[0]:=by
 have h:hvK cl5 2=(0,wtL ⟨true,vx5,fa5⟩):=by
  have h1:hvK cl5 1=(0,wtL ⟨true,vx5,fa5⟩):=by
   unfold hvK
   show (if (⟨true,vx5,fa5⟩:Lt).neg=true∧(hvK cl5 0).2<wtL ⟨true,vx5,fa5⟩ then _ else _)=_
   rw [if_pos ⟨rfl,b7O _⟩];rfl
  unfold hvK
  show (if (⟨false,px5,tt5⟩:Lt).neg=true∧_ then _ else hvK cl5 1)=_
  rw [if_neg (by intro h;cases h.1),h1]
 unfold X6
 show (if (hvK cl5 2).1≥0 then _ else _)=_
 rw [h,if_pos (by decide)]
 show [(hvK cl5 2).1]=[0]
 rw [h]
theorem c2b:Q8 cl5=[[⟨false,⟨3,[fa5]⟩,tt5⟩]]:=by
 obtain ⟨h1,h2⟩:=mg5
 unfold Q8
 rw [hv5]
 have h3:b0u cl5 (0:Int).toNat=some [⟨false,⟨3,[fa5]⟩,tt5⟩]:=by
  unfold b0u
  show (if (⟨true,vx5,fa5⟩:Lt).neg=true∧(mgT vx5 fa5).2=true then some ((L2 cl5 0).map (Lt.rep (mgS vx5 fa5))) else none)=_
  rw [if_pos ⟨rfl,h1⟩]
  have e:L2 cl5 0=[⟨false,px5,tt5⟩]:=rfl
  rw [e]
  have e2:a9 (mgS vx5 fa5) px5=⟨3,[fa5]⟩:=by
   simp [px5,a9,h2]
   simp [fa5,Tm.strip]
  have e3:a9 (mgS vx5 fa5) tt5=tt5:=by simp [tt5,a9]
  simp only [List.map_cons,List.map_nil,Lt.rep,e2,e3]
 rw [List.filterMap_cons]
 simp only [h3]
 rfl
set_option maxHeartbeats 2000000 in
theorem a6W (W:World):AFun Tryz.prog W 7 [] (.val (.b true)):=by
 have hR:=fun w=>a7L w cl5 (by simp [cl5]) b8d
 rw [c2b] at hR
 have hc5:cl5.map Lt.cv=[.row [.b true,.row [.i (-1),.lst []],.row [.i 2,.lst [.row [.i 1,.lst []]]]],.row [.b false,.row [.i 3,.lst [.row [.i (-1),.lst []]]],.row [.i 0,.lst []]]]:=by simp [cl5,vx5,fa5,px5,tt5,Lt.cv,Tm.cv_eq]
 have hr5:([[⟨false,⟨3,[fa5]⟩,tt5⟩]]:List (List Lt)).map clC=[.lst [.row [.b false,.row [.i 3,.lst [.row [.i 2,.lst [.row [.i 1,.lst []]]]]],.row [.i 0,.lst []]]]]:=by simp [clC,fa5,tt5,Lt.cv,Tm.cv_eq]
 rw [hc5,hr5] at hR
 refine b6 (rs:=[.b true]) Tryz.func7 Tryz.ntmps7 rfl rfl rfl rfl ?_
 intro w U hW
 refine aS (aR ?_)
 refine nc ze ?_
 refine aS (aR ?_)
 refine nc zbN (nc zD (nc zn (nc zk (nc zo ?_))))
 refine aS (aR ?_)
 refine nc zbN (nc zy (nc (zbO c1n) (nc zbN (nc zD (nc (zbO [.i 0,.lst []]) (nc (zbO c1n) (nc zD (nc (zw (z:=hR w)) (nc ze ?_)))))))))
 refine aS (aR ?_)
 refine nc zl (nc zp (nc zt (nc zl (nc (zl (p:=gb)) (nc (zq (j:=0) (r:=gb) (H:=rfl) (hz:=sZ rfl)) (nc (zr (r:=gb)) (nc (zp (r:=gb)) (nc (zt (r:=gb)) (nc zM (nc zl (nc (zl (p:=gb)) (nc (zq (j:=0) (r:=gb) (H:=rfl) (hz:=sZ rfl)) (nc (zr (r:=gb)) (nc (zq (j:=0) (r:=gb) (H:=rfl) (hz:=sZ rfl)) (nc (zbL (r:=gb)) (nc (zbL (r:=gb)) (nc (zr (r:=gb)) (nc (zq (j:=0) (r:=gb) (H:=rfl) (hz:=sZ rfl)) (nc (zbL (r:=gb)) (nc (zr (r:=gb)) (nc (zt (r:=gb)) (nc zM (nc ze ?_)))))))))))))))))))))))
 exact aT (And.intro (.inr rfl) rfl)
theorem b3D {c:List Lt} {most:Nat} {size:Int} (h0:0≤size) (h1:size≤10) (h:U7 c most size=true):c.length≤most∧∀ l∈c,l.ten:=by
 obtain ⟨h2,h3⟩:=a6Q h0 (by omega) h
 refine ⟨h2,fun l hl=>?_⟩
 obtain ⟨⟨⟨_,a1,a2⟩,_,a3⟩,⟨⟨_,b1,b2⟩,_,b3⟩⟩:=h3 l hl
 exact ⟨⟨⟨a1,a2⟩,by omega⟩,⟨b1,b2⟩,by omega⟩
def Tm.big5 (t:Tm):Prop:=t.rng∧t.ok∧t.size≤29550
def Lt.big5 (l:Lt):Prop:=l.a.big5∧l.b.big5
theorem b5e {a b:Tm} (ha:a.ten) (hb:b.ten) {c:List Lt} (hc:∀ l∈c,l.ten):∀ l∈c.map (Lt.rep (mgS a b)),l.big5:=fun l hl=>by
 obtain ⟨x,hx,rfl⟩:=List.mem_map.1 hl
 exact ⟨b5o ha hb (hc x hx).1,b5o ha hb (hc x hx).2⟩
theorem b1f {c d:List Lt} (h:d∈Q8 c):∃ n x,n<c.length∧(n:Int)∈X6 c∧c[n]?=some x∧x.neg=true∧(mgT x.a x.b).2=true∧d=(L2 c n).map (Lt.rep (mgS x.a x.b)):=by
 obtain ⟨z,hz,he⟩:=List.mem_filterMap.1 h
 obtain ⟨h0,h1⟩:=b5V hz
 unfold b0u at he
 split at he
 ·rename_i x hx
  split at he
  ·rename_i hg
   exact ⟨z.toNat,x,by omega,by rw [Int.toNat_of_nonneg h0];exact hz,hx,hg.1,hg.2,(Option.some.inj he).symm⟩
  ·cases he
 ·cases he
theorem b6w {c d:List Lt} (hc:∀ l∈c,l.ten) (h:d∈Q8 c):d.length+1=c.length∧∀ l∈d,l.big5:=by
 obtain ⟨n,x,hn,_,hx,_,_,rfl⟩:=b1f h
 have hxt:=hc x (List.mem_of_getElem? hx)
 exact ⟨by rw [List.length_map];exact a0z hn,b5e hxt.1 hxt.2 (b0M hc n)⟩
theorem b6G (c:List Lt):(Q8 c).length≤c.length+1:=Nat.le_trans (List.length_filterMap_le _ _) (b1q c)
theorem b9z (l:Lt):l.strip.strip=l.strip:=by
 unfold Lt.strip
 simp only [Tm.strip_strip]
theorem a6r (c:List Lt):(c.map Lt.strip).map Lt.strip=c.map Lt.strip:=by
 rw [List.map_map]
 exact List.map_congr_left fun l _=>b9z l
end Go.Proofs.YtglmoficcjphaaaGreat
