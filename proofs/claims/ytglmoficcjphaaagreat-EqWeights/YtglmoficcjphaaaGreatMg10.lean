/-
 ClTaut OrFns3 AbMapT AbQ SbQ AbBackB SbImg SbApM ClSides ClWith SrtGen ClNmM AbKind CodeMath CodeLen CodePut CodePutMore RefSame CodeRef CodeAlive CodeReadMath CodeRead CodeUint CodeText CodeBackMath ClBy ClCode ClPut ClGet ClGet2 ClA ClB ClNmN EqMath EqWays
-/
import Derived.Test.YtglmoficcjphaaaGreatMg9
import Derived.Test.YtglmoficcjphaaaGreatMg4
import Derived.Test.YtglmoficcjphaaaGreatMg2
import Derived.Test.YtglmoficcjphaaaGreatMg3
import Derived.Test.YtglmoficcjphaaaGreatMg7
import Derived.WalkKit
import Derived.Test.YtglmoficcjphaaaGreatChecked
import Derived.WalkLawsBesides
import Derived.WalkSpells
import Derived.Test.YtglmoficcjphaaaGreatMg1
import Derived.Laws.BitsAllLaws
import Derived.Deep.QuietTactic
import Derived.BigQuiet
import Derived.Laws.BytesArg
import Derived.Test.YtglmoficcjphaaaGreatMg8
namespace Go.Proofs.YtglmoficcjphaaaGreat
open Go.RowKit
set_option linter.unusedVariables false
set_option linter.unusedSimpArgs false
set_option maxRecDepth 100000
def ltL (cmp:Lt→Lt→Int) (x y:Lt):Bool:=decide (cmp x y<0)
def a0d (x y:Lt):Int:=if v9 x.a y.a≠0 then v9 x.a y.a else v9 x.b y.b
def b3n (l:Lt):Lt:=⟨l.neg,l.b,l.a⟩
def c2a (l:Lt):Lt:=if 0≤v9 l.a l.b then l else b3n l
def c0R (l:Lt):Bool:=!l.neg&&B0 l.a l.b
def c2k (L:List Lt) (i:Nat):Bool:=match L[i]?,L[i-1]? with
 | some x,some y=>decide (0<i)&&((!(x.neg == y.neg))&&decide (a0d x y=0))
 | _,_=>false
def c2B (L:List Lt):Bool:=(List.range L.length).any (c2k L)
def c2l (L:List Lt):List Lt:=x6 (ltL a0d) 0 (L.length-1) 1 L
def c2V (c:List Lt):Bool:=c.any c0R||c2B (c2l (c.map c2a))
def okC (c:List Lt):Prop:=∀ l∈c,l.a.rng∧l.b.rng
theorem b5j (W:World) (p:Lt→Bool) (fc:CV) (c:List Lt) (hl:c.length≤1000000) (hc:∀ W,∀ x∈c,L4 Tryz.prog W fc [x.cw] (.val (.b (p x)))):AFun Tryz.prog W 96 [.lst (c.map Lt.cv),fc] (.val (.i (match c.findIdx? p with | some i=>(i:Int) | none => -1))):=by
 have hsz:=Lt.size_all c
 obtain ⟨R,hR⟩:∃ R:Int,R=match c.findIdx? p with | some i=>(i:Int) | none => -1:=⟨_,rfl⟩
 rw [←hR]
 refine b6 (rs:=[.i R]) Tryz.func96 Tryz.ntmps96 rfl rfl rfl rfl ?_
 intro w U hW
 refine aS (aR ?_)
 refine nc ze ?_
 refine aS (aS (aR ?_))
 refine nc zl (nc zp (nc zl ?_))
 refine aB (y0 c.length (fun k=>∀ x∈c.take k,p x=false) (fun k=>[(0,.val (.lst (c.map Lt.cv))),(1,.val fc),(7,.val (.i (c.map Lt.cv).length)),(8,.val (.i k))]) (a7 ⟨rfl,rfl,rfl,rfl,trivial⟩) (by simp) ?_)
 intro k hk hI
 refine aS (aR ?_)
 refine nc zi ?_
 refine aS (aC rfl (fun hlt=>?_) (fun hlt=>?_))
 ·have hkl:k<c.length:=by simpa using hlt
  obtain ⟨x,hx⟩:∃ x,c[k]?=some x:=⟨c[k],List.getElem?_eq_getElem hkl⟩
  have hx':=Lt.map_at hx
  have hxm:=List.mem_of_getElem? hx
  refine aK ?_
  refine aS (aB (aS (aR ?_)))
  refine nc zl (nc ze ?_)
  refine aS (aR ?_)
  refine nc zl (nc zl (nc zl (nc (zq (j:=k) (H:=hx') (hz:=hsz)) (nc zr (nc (zK (E:=hc w x hxm)) ?_)))))
  refine aC rfl (fun hp=>?_) (fun hp=>?_)
  ·have hRk:R=k:=by
    rw [hR]
    have:c.findIdx? p=some k:=by
     rw [List.findIdx?_eq_some_iff_getElem]
     obtain ⟨hk2,e⟩:=List.getElem?_eq_some_iff.1 hx
     refine ⟨hk2,by rw [e];exact hp,fun j hj=>?_⟩
     have:=hI c[j] (List.mem_take_iff_getElem.2 ⟨j,by omega,rfl⟩)
     simpa using this
    rw [this]
   rw [hRk]
   refine aS (aR ?_)
   refine nc zl (nc ze ?_)
   exact aT (And.intro (.inr rfl) rfl)
  ·refine aK ?_
   refine aR ?_
   refine nc zu (nc zl ?_)
   refine ⟨hkl,?_,a7 ⟨rfl,rfl,rfl,rfl,trivial⟩⟩
   intro y hy
   rw [List.take_add_one,hx,List.mem_append] at hy
   rcases hy with hy | hy
   ·exact hI y hy
   ·simp at hy;rw [hy];exact hp
 ·have hkl:k=c.length:=by
   have:¬ k<c.length:=by simpa using hlt
   omega
  subst hkl
  rw [List.take_length] at hI
  have hRn:R = -1:=by
   rw [hR,List.findIdx?_eq_none_iff.2 fun x hx=>by rw [hI x hx]]
  rw [hRn]
  refine aE ?_
  refine aS (aR ?_)
  refine nc ze ?_
  exact aT (And.intro (.inr rfl) rfl)
theorem b4y (W:World) (p:Lt→Bool) (fc:CV) (c:List Lt) (hl:c.length≤1000000) (hc:∀ W,∀ x∈c,L4 Tryz.prog W fc [x.cw] (.val (.b (p x)))):AFun Tryz.prog W 67 [.lst (c.map Lt.cv),fc] (.val (.b (c.any p))):=by
 have e:decide ((match c.findIdx? p with | some i=>(i:Int) | none => -1)≥0)=c.any p:=by
  cases h:c.findIdx? p with
  | none =>
   have h1:=List.findIdx?_eq_none_iff.1 h
   have:c.any p=false:=by
    rw [List.any_eq_false]
    intro x hx
    rw [h1 x hx];simp
   rw [this];rfl
  | some i =>
   obtain ⟨hi,hp,_⟩:=List.findIdx?_eq_some_iff_getElem.1 h
   have:c.any p=true:=List.any_eq_true.2 ⟨_,List.getElem_mem hi,hp⟩
   rw [this]
   simp
 refine b6 (rs:=[.b (c.any p)]) Tryz.func67 Tryz.ntmps67 rfl rfl rfl rfl ?_
 intro w U hW
 refine aS (aR ?_)
 refine nc ze ?_
 refine aS (aR ?_)
 refine nc zl (nc zl (nc (zw (z:=b5j w p fc c hl hc)) (nc zbg (nc ze ?_))))
 rw [e]
 exact aT (And.intro (.inr rfl) rfl)
theorem b1Z (W:World) (x y:Lt) (hx:x.a.rng∧x.b.rng) (hy:y.a.rng∧y.b.rng):AFun Tryz.prog W 93 [x.cw,y.cw] (.val (.i (a0d x y))):=by
 refine b6 (rs:=[.i (a0d x y)]) Tryz.func93 Tryz.ntmps93 rfl rfl rfl rfl ?_
 intro w U hW
 refine aS (aR ?_)
 refine nc zd (nc zd (nc ze ?_))
 refine aS (aS (aR ?_))
 refine nc zg (nc zh (nc zg (nc zh (nc (zw (z:=a1L w hx.1 hy.1)) (nc ze ?_)))))
 refine aS (aR ?_)
 refine nc zl (nc z7 ?_)
 refine aC rfl (fun hc=>?_) (fun hc=>?_)
 ·have e:a0d x y=v9 x.a y.a:=by unfold a0d;rw [if_pos (by simpa using hc)]
  rw [e]
  refine aS (aR ?_)
  refine nc zl (nc ze ?_)
  exact aT (And.intro (.inr rfl) rfl)
 ·have e:a0d x y=v9 x.b y.b:=by unfold a0d;rw [if_neg (by simpa using hc)]
  rw [e]
  refine aK ?_
  refine aS (aR ?_)
  refine nc zg (nc zh (nc zg (nc zh (nc (zw (z:=a1L w hx.2 hy.2)) (nc ze ?_)))))
  exact aT (And.intro (.inr rfl) rfl)
def wtC (c:List Lt):Nat:=(c.map fun l=>l.a.size+l.b.size).sum
theorem T0 (W:World) (c:List Lt) (hn:c.length≤1000000) (hl:wtC c≤1000000000) (hc:okC c):AFun Tryz.prog W 23 [.lst (c.map Lt.cv)] (.val (.i (wtC c:Int))):=by
 have hsz:=Lt.size_all c
 have htk:∀ k,wtC (c.take k)≤wtC c:=fun k=>by
  have:wtC c=wtC (c.take k)+wtC (c.drop k):=by
   unfold wtC
   rw [←List.sum_append,←List.map_append,List.take_append_drop]
  omega
 refine b6 (rs:=[.i (wtC c:Int)]) Tryz.func23 Tryz.ntmps23 rfl rfl rfl rfl ?_
 intro w U hW
 refine aS (aR ?_)
 refine nc ze ?_
 refine aS (aR ?_)
 refine nc ze ?_
 refine aS (aS (aR ?_))
 refine nc zl (nc zp (nc zl ?_))
 refine aB (o5 c.length (fun k=>[(3,.val (.i (wtC (c.take k):Int))),(6,.val (.lst (c.map Lt.cv))),(7,.val (.i (c.map Lt.cv).length)),(8,.val (.i k))]) (a7 ⟨rfl,rfl,rfl,rfl,trivial⟩) ?_)
 intro k hk
 refine aS (aR ?_)
 refine nc zi ?_
 refine aS (aC rfl (fun hlt=>?_) (fun hlt=>?_))
 ·have hkl:k<c.length:=by simpa using hlt
  obtain ⟨x,hx⟩:∃ x,c[k]?=some x:=⟨c[k],List.getElem?_eq_getElem hkl⟩
  have hx':=Lt.map_at hx
  have hxm:=List.mem_of_getElem? hx
  have hw1:wtC (c.take (k+1))=wtC (c.take k)+(x.a.size+x.b.size):=by
   unfold wtC
   rw [List.take_add_one,hx,List.map_append,List.sum_append]
   simp
  have hle:=htk (k+1)
  have s1:=a0A w (hc x hxm).1 (by omega)
  have s2:=a0A w (hc x hxm).2 (by omega)
  refine aK ?_
  refine aS (aB (aS (aR ?_)))
  refine nc (zq (j:=k) (H:=hx') (hz:=hsz)) (nc zr (nc zk (nc zo ?_)))
  refine aD (by kernel_rfl) (by kernel_rfl) ?_
  refine nc zl (nc zg (nc zh (nc (zw (z:=s1)) (nc zg (nc zh (nc (zw (z:=s2)) (nc zu (nc zu (nc ze ?_)))))))))
  refine ⟨by kernel_rfl,?_⟩
  refine aR ?_
  refine nc zu (nc zl ?_)
  refine ⟨hkl,a7 ⟨?_,rfl,rfl,rfl,trivial⟩⟩
  rw [hw1,Int.natCast_add,Int.natCast_add]
  rfl
 ·have hkl:k=c.length:=by
   have:¬ k<c.length:=by simpa using hlt
   omega
  subst hkl
  rw [List.take_length]
  refine aE ?_
  refine aS (aR ?_)
  refine nc zl (nc ze ?_)
  exact aT (And.intro (.inr rfl) rfl)
def Lt.fit (l:Lt):Prop:=l.a.fit∧l.b.fit
def wtL (l:Lt):Int:=(l.a.size:Int)+(l.b.size:Int)
theorem b6R (W:World) (l:Lt) (h:l.fit):AFun Tryz.prog W 66 [l.cw] (.val (.i (wtL l))):=by
 have h1:=h.1.2.2
 have h2:=h.2.2.2
 refine b6 (rs:=[.i (wtL l)]) Tryz.func66 Tryz.ntmps66 rfl rfl rfl rfl ?_
 intro w U hW
 refine aS (aR ?_)
 refine nc zd (nc ze ?_)
 refine aS (aD (by kernel_rfl) (by kernel_rfl) ?_)
 refine nc zg (nc zh (nc (zw (z:=a0A w h.1.1 (by omega))) (nc zg (nc zh (nc (zw (z:=a0A w h.2.1 (by omega))) (nc zu (nc ze ?_)))))))
 refine ⟨by kernel_rfl,?_⟩
 exact aT (And.intro (.inr rfl) rfl)
def hvK (c:List Lt):Nat→Int×Int
 | 0=>(-1,0)
 | k+1=>match c[k]? with
  | none=>hvK c k
  | some l=>if l.neg=true∧(hvK c k).2<wtL l then ((k:Int),wtL l) else hvK c k
theorem b7M (W:World) (c:List Lt) (hn:c.length≤100000) (hc:∀ l∈c,l.fit):AFun Tryz.prog W 47 [.lst (c.map Lt.cv)] (.val (.i (hvK c c.length).1)):=by
 have hsz:=Lt.size_all c
 refine b6 (rs:=[.i (hvK c c.length).1]) Tryz.func47 Tryz.ntmps47 rfl rfl rfl rfl ?_
 intro w U hW
 refine aS (aR ?_)
 refine nc ze ?_
 refine aS (aR ?_)
 refine nc ze (nc ze ?_)
 refine aS (aS (aR ?_))
 refine nc zl (nc zp (nc zl ?_))
 let st:Nat→AS:=fun k=>[(3,.val (.i (hvK c k).1)),(4,.val (.i (hvK c k).2)),(8,.val (.lst (c.map Lt.cv))),(9,.val (.i (c.map Lt.cv).length)),(10,.val (.i k))]
 refine aB (o5 c.length st (a7 ⟨rfl,rfl,rfl,rfl,rfl,trivial⟩) ?_)
 intro k hk
 refine aS (aR ?_)
 refine nc zi ?_
 refine aS (aC rfl (fun hlt=>?_) (fun hlt=>?_))
 ·have hkl:k<c.length:=by simpa using hlt
  obtain ⟨x,hx⟩:∃ x,c[k]?=some x:=⟨c[k],List.getElem?_eq_getElem hkl⟩
  have hx':=Lt.map_at hx
  have hxf:=hc x (List.mem_of_getElem? hx)
  have hK:hvK c (k+1)=if x.neg=true∧(hvK c k).2<wtL x then ((k:Int),wtL x) else hvK c k:=by conv=>lhs;unfold hvK;rw [hx]
  refine aK ?_
  refine aS (aB (aS (aR ?_)))
  refine nc zl (nc (zq (j:=k) (H:=hx') (hz:=hsz)) (nc zr (nc zk (nc ze (nc zo ?_)))))
  refine AWp.wk (a7 (s':=[(3,.val (.i (hvK c k).1)),(4,.val (.i (hvK c k).2)),(5,.val (.i k)),(6,.bp 6 0 []),(100006,.bx x.cw),(8,.val (.lst (c.map Lt.cv))),(9,.val (.i (c.map Lt.cv).length)),(10,.val (.i k))]) ⟨rfl,rfl,rfl,rfl,rfl,rfl,rfl,rfl,trivial⟩) ?_
  refine aS (aS (aR ?_))
  refine nc zg (nc zh (nc zX ?_))
  refine aC rfl (fun hb=>?_) (fun hb=>?_)
  ·have hb:(!x.neg)=true:=hb
   have hng:x.neg=false:=by simpa using hb
   have e:hvK c (k+1)=hvK c k:=by rw [hK,if_neg (by rw [hng];simp)]
   refine aE ?_
   refine aR ?_
   refine nc zu (nc zl ?_)
   refine ⟨hkl,a7 ⟨?_,?_,rfl,rfl,rfl,trivial⟩⟩
   ·rw [e];rfl
   ·rw [e];rfl
  ·have hb:(!x.neg)=false:=hb
   have hng:x.neg=true:=by simpa using hb
   refine aK ?_
   refine aS (aR ?_)
   refine nc zy (nc (zw (z:=b6R w x hxf)) (nc ze ?_))
   refine aS (aR ?_)
   refine nc zl (nc zl (nc zH ?_))
   refine aC rfl (fun hg=>?_) (fun hg=>?_)
   ·have hg:decide (wtL x>(hvK c k).2)=true:=hg
    have hg:=of_decide_eq_true hg
    have e:hvK c (k+1)=((k:Int),wtL x):=by rw [hK,if_pos ⟨hng,by omega⟩]
    refine aR ?_
    refine nc zl (nc zl (nc ze (nc ze ?_)))
    refine aR ?_
    refine nc zu (nc zl ?_)
    refine ⟨hkl,a7 ⟨?_,?_,rfl,rfl,rfl,trivial⟩⟩
    ·rw [e];rfl
    ·rw [e];rfl
   ·have hg:decide (wtL x>(hvK c k).2)=false:=hg
    have hg:=of_decide_eq_false hg
    have e:hvK c (k+1)=hvK c k:=by rw [hK,if_neg (fun h=>by have:=h.2;omega)]
    refine aK ?_
    refine aR ?_
    refine nc zu (nc zl ?_)
    refine ⟨hkl,a7 ⟨?_,?_,rfl,rfl,rfl,trivial⟩⟩
    ·rw [e];rfl
    ·rw [e];rfl
 ·have hkl:k=c.length:=by
   have:¬ k<c.length:=by simpa using hlt
   omega
  subst hkl
  refine aE ?_
  refine aS (aR ?_)
  refine nc zl (nc ze ?_)
  exact aT (And.intro (.inr rfl) rfl)
noncomputable def c2q (c:List Lt) (x:Lt):Bool:=!(c.any fun l=>a9e (H3 l) (H3 x))
noncomputable def a4g (c:List Lt) (i:Int):Bool:=if 0≤i then (match c[i.toNat]? with | some x=>c2q c x | none=>false) else false
theorem b1J (W:World) (c:List Lt) (k:Nat) (x l:Lt) (hx:c[k]?=some x) (hxf:x.fit) (hl:l.fit):AFun Tryz.prog W 68 [l.cw,.ptr (.lst (c.map Lt.cv)),.ptr (.i (k:Int))] (.val (.b (a9e (H3 l) (H3 x)))):=by
 have hsz:=Lt.size_all c
 have hx':=Lt.map_at hx
 refine b6 (rs:=[.b (a9e (H3 l) (H3 x))]) Tryz.func68 Tryz.ntmps68 rfl rfl rfl rfl ?_
 intro w U hW
 refine aS (aR ?_)
 refine nc zd (nc ze ?_)
 refine aS (aD (by kernel_rfl) (by kernel_rfl) ?_)
 refine nc zy (nc zbE (nc zbE (nc (zq (j:=k) (H:=hx') (hz:=hsz)) (nc zr (nc (zw (z:=b7A w l x hl hxf)) (nc ze ?_))))))
 refine ⟨by kernel_rfl,?_⟩
 exact aT (And.intro (.inr rfl) rfl)
theorem b3w (W:World) (c:List Lt) (i:Int) (hn:c.length≤100000) (hc:∀ l∈c,l.fit):AFun Tryz.prog W 48 [.lst (c.map Lt.cv),.i i] (.val (.b (a4g c i))):=by
 refine b6 (rs:=[.b (a4g c i)]) Tryz.func48 Tryz.ntmps48 rfl rfl rfl rfl ?_
 intro w U hW
 refine aS (aR ?_)
 refine nc zd (nc zd (nc ze ?_))
 by_cases hi:i<0
 ·have g:decide (i<0)=true:=decide_eq_true hi
  have e:a4g c i=false:=by unfold a4g;rw [if_neg (by omega)]
  rw [e]
  refine aS (aS (aR ?_))
  refine nc zy (nc zi (nc zl (nc zO (nc zO (nc zO (nc zO (nc zM ?_)))))))
  refine aC rfl (fun _=>?_) (fun h=>by cases h)
  refine aS (aR ?_)
  refine nc ze ?_
  exact aT (And.intro (.inr rfl) rfl)
 ·have g:decide (i<0)=false:=decide_eq_false hi
  refine aS (aS (aR ?_))
  refine nc zy (nc zi (nc zl (nc (zy (p:=gb)) (nc (zy (p:=gb)) (nc (zp (r:=gb)) (nc (zbg (r:=gb)) (nc zP ?_)))))))
  refine aC rfl (fun h=>?_) (fun h=>?_)
  ·have h:decide (i≥((c.map Lt.cv).length:Int))=true:=h
   have h:=of_decide_eq_true h
   rw [List.length_map] at h
   have e:a4g c i=false:=by unfold a4g;rw [if_pos (by omega),List.getElem?_eq_none (by omega)]
   rw [e]
   refine aS (aR ?_)
   refine nc ze ?_
   exact aT (And.intro (.inr rfl) rfl)
  ·have h:decide (i≥((c.map Lt.cv).length:Int))=false:=h
   have h:=of_decide_eq_false h
   rw [List.length_map] at h
   obtain ⟨k,rfl⟩:∃ k:Nat,i=(k:Int):=⟨i.toNat,by omega⟩
   have hkl:k<c.length:=by omega
   obtain ⟨x,hx⟩:∃ x,c[k]?=some x:=⟨c[k],List.getElem?_eq_getElem hkl⟩
   have hxf:=hc x (List.mem_of_getElem? hx)
   have e:a4g c (k:Int)=!(c.any fun l=>a9e (H3 l) (H3 x)):=by unfold a4g;rw [if_pos (by omega),Int.toNat_natCast,hx];rfl
   rw [e]
   refine aK ?_
   refine AWp.wk ((N2 2 rfl rfl rfl (s':=[(3,.bp 3 0 []),(100003,.bx (.i (k:Int)))]) ⟨rfl,rfl,trivial⟩ rfl rfl rfl).trans (N2 3 rfl rfl rfl (s':=[(2,.val (.ptr (.lst (c.map Lt.cv))))]) ⟨rfl,trivial⟩ rfl rfl rfl)) ?_
   refine aS (aR ?_)
   refine nc zbE (nc zB ?_)
   refine nc (zw (z:=b4y w (fun l=>a9e (H3 l) (H3 x)) (.fn 68 0 [.ptr (.lst (c.map Lt.cv)),.ptr (.i (k:Int))]) c (by omega) (fun w l hl => .inl ⟨_,_,_,rfl,b1J w c k x l hx hxf (hc l hl)⟩))) ?_
   refine nc zX (nc ze ?_)
   exact aT (And.intro (.inr rfl) rfl)
noncomputable def gsK (c:List Lt) (k:Nat):List Int:=((List.range k).filter fun i:Nat=>a4g c (i:Int)).map fun i:Nat=>(i:Int)
theorem a6h (c:List Lt) (k:Nat):(gsK c k).length≤k:=by
 unfold gsK
 rw [List.length_map]
 exact Nat.le_trans (List.length_filter_le _ _) (by rw [List.length_range];exact Nat.le_refl _)
theorem a8g (c:List Lt) (k:Nat):gsK c (k+1)=gsK c k++(if a4g c (k:Int)=true then [(k:Int)] else []):=by
 unfold gsK
 rw [List.range_succ,List.filter_append,List.map_append]
 congr 1
 by_cases h:a4g c (k:Int)=true
 ·rw [if_pos h,List.filter_cons_of_pos (by exact h)];rfl
 ·rw [if_neg h,List.filter_cons_of_neg (by exact h)];rfl
noncomputable def X6 (c:List Lt):List Int:=if (hvK c c.length).1≥0 then [(hvK c c.length).1] else gsK c c.length
theorem b1I (W:World) (c:List Lt) (hn:c.length≤100000) (hc:∀ l∈c,l.fit):AFun Tryz.prog W 26 [.lst (c.map Lt.cv)] (.val (.lst ((X6 c).map CV.i))):=by
 refine b6 (rs:=[.lst ((X6 c).map CV.i)]) Tryz.func26 Tryz.ntmps26 rfl rfl rfl rfl ?_
 intro w U hW
 obtain ⟨hvv,hhv⟩:∃ z,z=(hvK c c.length).1:=⟨_,rfl⟩
 have hlk:X6 c=if hvv≥0 then [hvv] else gsK c c.length:=by unfold X6;rw [hhv]
 have hH:=b7M w c hn hc
 rw [←hhv] at hH
 refine aS (aR ?_)
 refine nc ze ?_
 refine aS (aS (aR ?_))
 refine nc zl (nc (zw (z:=hH)) (nc ze ?_))
 refine aS (aR ?_)
 refine nc zl (nc zbg ?_)
 refine aC rfl (fun h=>?_) (fun h=>?_)
 ·have h:decide (hvv≥0)=true:=h
  rw [hlk,if_pos (of_decide_eq_true h)]
  refine aS (aR ?_)
  refine nc zl (nc zD (nc ze ?_))
  exact aT (And.intro (.inr rfl) rfl)
 ·have h:decide (hvv≥0)=false:=h
  rw [hlk,if_neg (of_decide_eq_false h)]
  refine aK ?_
  refine aS (aR ?_)
  refine nc ze ?_
  refine aS (aS (aR ?_))
  refine nc zl (nc zp (nc zl ?_))
  let st:Nat→AS:=fun k=>[(0,.val (.lst (c.map Lt.cv))),(4,.own (.lst ((gsK c k).map CV.i)) 200023),(200023,.tok 3 1),(13,.val (.i (c.map Lt.cv).length)),(14,.val (.i k))]
  refine aB (o5 c.length st ((O6 4 200023 3 1 rfl rfl rfl rfl rfl rfl rfl).trans (a7 ⟨rfl,rfl,rfl,rfl,rfl,trivial⟩)) ?_)
  intro k hk
  refine aS (aR ?_)
  refine nc zi ?_
  refine aS (aC rfl (fun hlt=>?_) (fun hlt=>?_))
  ·have hkl:k<c.length:=by simpa using hlt
   have hl3:((gsK c k).map CV.i).length≤k:=by rw [List.length_map];exact a6h c k
   have hl4:=a6h c k
   have hsz3:∀ x∈(gsK c k).map CV.i,x.size=1:=i7 _
   refine aK ?_
   refine aS (aB (aS (aR ?_)))
   refine nc zl (nc ze ?_)
   refine aS (aR ?_)
   refine nc zl (nc zl (nc (zw (z:=b3w w c k hn hc)) ?_))
   refine aC rfl (fun hg=>?_) (fun hg=>?_)
   ·have hg:a4g c (k:Int)=true:=hg
    refine aR ?_
    refine nc zl (nc zl (nc zD (nc zE (nc ze ?_))))
    refine AWp.wk ((a7 (s':=[(0,.val (.lst (c.map Lt.cv))),(4,.own (.lst ((gsK c k).map CV.i++[CV.i (k:Int)])) 300023),(300023,.tok 3 1),(13,.val (.i (c.map Lt.cv).length)),(14,.val (.i k))]) ⟨rfl,rfl,rfl,rfl,rfl,trivial⟩).trans (C3 300023 200023 rfl rfl rfl rfl)) ?_
    refine aR ?_
    refine nc zu (nc zl ?_)
    refine ⟨hkl,a7 ⟨rfl,?_,rfl,rfl,rfl,trivial⟩⟩
    show some (AV.own (.lst _) _)=some (AV.own (.lst _) _)
    rw [a8g,if_pos hg,List.map_append]
    rfl
   ·have hg:a4g c (k:Int)=false:=hg
    refine aK ?_
    refine aR ?_
    refine nc zu (nc zl ?_)
    refine ⟨hkl,a7 ⟨rfl,?_,rfl,rfl,rfl,trivial⟩⟩
    show some (AV.own (.lst _) _)=some (AV.own (.lst _) _)
    rw [a8g,if_neg (by rw [hg];decide),List.append_nil]
  ·have hkl:k=c.length:=by
    have:¬ k<c.length:=by simpa using hlt
    omega
   subst hkl
   refine aE ?_
   refine aS (aR ?_)
   refine nc zl (nc ze ?_)
   exact aT (And.intro (.inr rfl) rfl)
noncomputable def prC (p:Tm×Tm):CV := .row [p.1.cw,p.2.cw]
noncomputable def orK (l:Lt) (k:Nat):List (Tm×Tm):=(([(l.a,l.b),(l.b,l.a)].take k).filter fun p=>decide (kb p.1 p.2=1∨kb p.1 p.2=2)).map fun p=>(p.1.strip,p.2.strip)
end Go.Proofs.YtglmoficcjphaaaGreat
namespace Go.Proofs.YtglmoficcjphaaaGreat
open Go.RowKit Go.MapKept
set_option linter.unusedVariables false
set_option linter.unusedSimpArgs false
set_option maxRecDepth 100000
section
variable {P:Program} {w0:World} {U0:UX} {nt:Nat} {ops:Array Oper} {o:Oper} {S:Nat→Option AV} {gs:List Nat} {d:Nat} {s:AS} {a:Act} {w:World} {D:Nat→Nat→Prop} {hv:Nat→Value}
theorem b6n {U:Nat→Nat→Prop} {w:World} {v:Value} {et:TypeId} (hz2:(P.info? et).map (·.zero)=some (some (.agg #[.int .i64 0,.slice none 0 0]))) (hr:Rep U w (.row [.i 0,.lst []]) v.cells.toList) (hh:∃ it,P.info? et=some it∧it.zero=some v):VRep U w (.row [.i 0,.lst []]) v:=by
 obtain ⟨it,h1,h2⟩:=hh
 rw [h1,Option.map_some,h2] at hz2
 injection hz2 with hz2
 injection hz2 with hz2
 subst hz2
 exact ⟨_,rfl,hr⟩
end
end Go.Proofs.YtglmoficcjphaaaGreat
namespace Go.Proofs.YtglmoficcjphaaaGreat
open Go.RowKit Go.MapKept
set_option linter.unusedVariables false
set_option linter.unusedSimpArgs false
def QUp (q:(Nat→Nat→Prop)→World→Prop):Prop:=∀ (U V:Nat→Nat→Prop) (w w':World),q U w→Below w.heap.size w w'→(∀ b o,b<w.heap.size→U b o→V b o)→q V w'
def a6F (P:Program) (q:(Nat→Nat→Prop)→World→Prop) (f:FuncId) (args:List CV) (r:AV):Prop:=
 b3k P f∧(r.t=0∨r.t=4)∧r.n=0∧∀ (U:Nat→Nat→Prop) (w:World) (vs:List Value),q U w→VReps U w args vs →
  Calls P f vs.toArray w fun e w'=>∃ v,e = .returned v∧RR (fun b o=>U b o∨w.heap.size≤b) w' r v∧Below w.heap.size w w'
def a6K (P:Program) (q:(Nat→Nat→Prop)→World→Prop) (fc:CV) (args:List CV) (r:AV):Prop:=∃ f n l,fc = .fn f n l∧a6F P q f (l.take n++(args++l.drop n)) r
section
variable {P:Program} {w0:World} {U0:UX} {nt:Nat} {ops:Array Oper} {o:Oper} {S:Nat→Option AV} {gs:List Nat} {d:Nat} {s:AS} {a:Act} {w:World} {D:Nat→Nat→Prop} {hv:Nat→Value} {q:(Nat→Nat→Prop)→World→Prop}
theorem SimG.atQ {W:World} (h:SimG w0 U0 nt s a w D hv) (hQ:QUp q) (hW:Hw W w0 U0) (hq:q U0.m w0):q (Us w0 U0 D) w:=
 hQ _ _ _ _ hq (h.below.below hW.2) fun b o hb hu => .inl ⟨hb,hu,hW.2 b⟩
theorem b6x {W:World} (hQ:QUp q) (hW:Hw W w0 U0) (hq:q U0.m w0) {f:FuncId} {xs:Array Operand} {ts:Array TypeId} {cs:List CV} {r:AV} (hg:Gd w0 U0 nt ops o gs S) (hd:o.dst=some d) (hn:Nat.blt d nt=true) (h5:Nat.blt d 100000=true)
  (ho:o.op = .call { callee := .value (.func f),args:=xs,argTypes:=ts }) (hx:Y3 S xs.toList=some cs) (hc:a6F P q f cs r):AOp P w0 U0 nt ops o (gs++rdl xs.toList) [] S [(d,r)]:=by
 intro s hs _ a w ⟨D,hv,h⟩ Q K hK
 rw [if_pos (hg s (fun k hk=>hs k (List.mem_append_left _ hk)) a w D hv h)]
 have hargs:=E7 h (fun k hk=>hs k (List.mem_append_right _ hk)) hx
 obtain ⟨h1,h2,h3,h4⟩:=hc
 have hcall:=h4 _ w _ (h.atQ hQ hW hq) hargs
 have he:(execOp a.eval o).run P w = .ok (.enter f (xs.toList.map a.eval).toArray) w:=by
  have hf:a.eval (.func f) = .func (.func f) #[] #[]:=rfl
  have hen:=h1 (xs.map a.eval) w
  have harr:(xs.toList.map a.eval).toArray=xs.map a.eval:=by apply Array.ext';simp
  rw [harr]
  generalize a.eval=ρ at hf hen ⊢
  simp [execOp,ho,resolve,invoke,Deferred.ofValue,hf,hen]
 unfold Oper.wp
 rw [he,Oper.upon_enter]
 refine hcall.mono ?_
 rintro e w' ⟨v,rfl,h6,h7⟩
 rw [hd]
 refine hK _ _ ⟨Dn D w w',hv,(h.growN h7).put (bL hn) (bL h5) (O5 h2 h3 (T8 rfl h7.size h.below.size h6))⟩
theorem zbK {P:Program} {w0:World} {U0:UX} {nt:Nat} {ops:Array Oper} {o:Oper} {S:Nat→Option AV} {gs:List Nat} {d:Nat} {q:(Nat→Nat→Prop)→World→Prop} {W:World} {f:FuncId} {xs:Array Operand} {ts:Array TypeId} {cs:List CV} {r:AV} (hQ:QUp q) (hW:Hw W w0 U0) (hq:q U0.m w0) (p:Gd w0 U0 nt ops o gs S:=by exact gN rfl) (t:o.dst=some d:=by exact rfl) (u:Nat.blt d nt=true:=by exact rfl) (x:Nat.blt d 100000=true:=by exact rfl) (y:o.op = .call { callee := .value (.func f),args:=xs,argTypes:=ts }:=by exact rfl) (z:Y3 S xs.toList=some cs:=by exact rfl) (A:a6F P q f cs r):AOp P w0 U0 nt ops o (gs++rdl xs.toList) [] S [(d,r)]:=b6x hQ hW hq p t u x y z A
theorem b4H {W:World} (hQ:QUp q) (hW:Hw W w0 U0) (hq:q U0.m w0) {x:Operand} {xs:Array Operand} {ts:Array TypeId} {fc:CV} {cs:List CV} {r:AV} {n q' p} (hg:Gd w0 U0 nt ops o gs S) (hd:o.dst=some d) (hn:Nat.blt d nt=true) (h5:Nat.blt d 100000=true)
  (ho:o.op = .call { callee := .value x,args:=xs,argTypes:=ts }) (hf:ev S x=some ⟨0,fc,n,q',p⟩) (hx:Y3 S xs.toList=some cs) (hc:a6K P q fc cs r):AOp P w0 U0 nt ops o (gs++(rd x++rdl xs.toList)) [] S [(d,r)]:=by
 intro s hs _ a w ⟨D,hv,h⟩ Q K hK
 rw [if_pos (hg s (fun k hk=>hs k (List.mem_append_left _ hk)) a w D hv h)]
 have hargs:=E7 h (fun k hk=>hs k (List.mem_append_right _ (List.mem_append_right _ hk))) hx
 have hfv:=A0 h (fun k hk=>hs k (List.mem_append_right _ (List.mem_append_left _ hk))) hf
 obtain ⟨f,m,l,rfl,h1,h2,h3,h4⟩:=hc
 obtain ⟨ys,zs,e1,e2,e3,e4⟩:=a1h.1 hfv
 obtain ⟨s1,s2⟩:=VReps.split (a0B e4 e3)
 rw [e2] at s1 s2
 have hcall:=h4 _ w _ (h.atQ hQ hW hq) (s1.append (hargs.append s2))
 have he:(execOp a.eval o).run P w = .ok (.enter f (ys++(xs.toList.map a.eval++zs)).toArray) w:=by
  have hen:=h1 (ys.toArray++(xs.map a.eval++zs.toArray)) w
  have harr:(ys++(xs.toList.map a.eval++zs)).toArray=ys.toArray++(xs.map a.eval++zs.toArray):=by apply Array.ext';simp
  rw [harr]
  generalize a.eval=ρ at e1 hen ⊢
  simp [execOp,ho,resolve,invoke,Deferred.ofValue,e1,hen]
 unfold Oper.wp
 rw [he,Oper.upon_enter]
 refine hcall.mono ?_
 rintro e w' ⟨v,rfl,h6,h7⟩
 rw [hd]
 refine hK _ _ ⟨Dn D w w',hv,(h.growN h7).put (bL hn) (bL h5) (O5 h2 h3 (T8 rfl h7.size h.below.size h6))⟩
theorem zbJ {P:Program} {w0:World} {U0:UX} {nt:Nat} {ops:Array Oper} {o:Oper} {S:Nat→Option AV} {gs:List Nat} {d:Nat} {q:(Nat→Nat→Prop)→World→Prop} {W:World} {x:Operand} {xs:Array Operand} {ts:Array TypeId} {fc:CV} {cs:List CV} {r:AV} {n} {q'} {p} (hQ:QUp q) (hW:Hw W w0 U0) (hq:q U0.m w0) (t:Gd w0 U0 nt ops o gs S:=by exact gN rfl) (u:o.dst=some d:=by exact rfl) (y:Nat.blt d nt=true:=by exact rfl) (z:Nat.blt d 100000=true:=by exact rfl) (A:o.op = .call { callee := .value x,args:=xs,argTypes:=ts }:=by exact rfl) (B:ev S x=some ⟨0,fc,n,q',p⟩:=by exact rfl) (C:Y3 S xs.toList=some cs:=by exact rfl) (E:a6K P q fc cs r):AOp P w0 U0 nt ops o (gs++(rd x++rdl xs.toList)) [] S [(d,r)]:=b4H hQ hW hq t u y z A B C E
def a7K (b g:Nat) (l:List CV) (U:Nat→Nat→Prop) (w:World):Prop:=
 w.cell? ⟨b,0,none⟩=some (.map (some g))∧∃ es clock,w.heap[g]?=some (.map es clock)∧Ents U w l es.toList
theorem a3v (b g:Nat) (l:List CV):QUp (a7K b g l):=by
 rintro U V w w' ⟨h1,es,clock,h2,h3⟩ hb hU
 have hcell:∀ (b o:Nat) (v:Value),w.cell? ⟨b,o,none⟩=some v→b<w.heap.size∧w'.cell? ⟨b,o,none⟩=some v:=fun b o v hc=>by
  have hlt:=World.block_lt_of_cell? w _ hc
  refine ⟨hlt,?_⟩
  have:=hb.block b hlt
  simp only [World.cell?] at hc ⊢
  rw [this]
  exact hc
 have hg:g<w.heap.size:=by
  rcases Nat.lt_or_ge g w.heap.size with h | h
  ·exact h
  ·rw [Array.getElem?_eq_none h] at h2;cases h2
 exact ⟨(hcell _ _ _ h1).2,es,clock,by rw [hb.block g hg];exact h2,h3.keep fun b o v hu hc=>⟨hU b o (hcell b o v hc).1 hu,(hcell b o v hc).2⟩⟩
theorem b7Y {W:World} {b g:Nat} {l:List CV} (hW:Hw W w0 U0) (hq:a7K b g l U0.m w0) (hg:Gd w0 U0 nt ops o gs S) (hd:o.dst=some d) (hn:Nat.blt d nt=true) (h5:Nat.blt d 100000=true) {x:Operand} {ty:TypeId} {ds:TypeDesc} {n q p} (ho:o.op = .load ty x) (hu:P.underlying ty=some ds) (hi:(P.info? ty).map (·.size)=some 1) (hx:ev S x=some ⟨0,.sc (.pointer (some ⟨b,0,none⟩)),n,q,p⟩) (hk:R6 ds=false):AOp P w0 U0 nt ops o (gs++rd x) [] S [(d,.val (.sc (.map (some g))))]:=
 d9 hg hd hn h5 (fun k hk=>List.mem_append_left _ hk) fun s hs a w D hv hm=>by
  have h1:=s9 hm (fun k hk=>hs k (List.mem_append_right _ hk)) hx
  obtain ⟨h2,_⟩:=hm.atQ (a3v b g l) hW hq
  obtain ⟨v,h4,h6,_⟩:=B2 (c := .sc (.map (some g))) (U:=Us w0 U0 D) (w:=w) (b:=b) (off:=0) (xs:=[.map (some g)]) hu hi hk rfl (M1.2 ⟨rfl,rfl⟩) (fun i hi=>by
   have:i=0:=by simp at hi;omega
   subst this
   exact h2)
  refine ⟨v,?_,k8 h6⟩
  generalize a.eval=ρ at h1 ⊢
  simp [execOp,ho,Instr.loadAt,Instr.sureAddr,h1,h4]
theorem zbH {P:Program} {w0:World} {U0:UX} {nt:Nat} {ops:Array Oper} {o:Oper} {S:Nat→Option AV} {gs:List Nat} {d:Nat} {q} {W:World} {b:Nat} {g:Nat} {l:List CV} {x:Operand} {ty:TypeId} {ds:TypeDesc} {n} {p} (hW:Hw W w0 U0) (hq:a7K b g l U0.m w0) (r:Gd w0 U0 nt ops o gs S:=by exact gN rfl) (t:o.dst=some d:=by exact rfl) (u:Nat.blt d nt=true:=by exact rfl) (y:Nat.blt d 100000=true:=by exact rfl) (z:o.op = .load ty x:=by exact rfl) (A:P.underlying ty=some ds:=by exact rfl) (B:(P.info? ty).map (·.size)=some 1:=by exact rfl) (C:ev S x=some ⟨0,.sc (.pointer (some ⟨b,0,none⟩)),n,q,p⟩:=by exact rfl) (E:R6 ds=false:=by exact rfl):AOp P w0 U0 nt ops o (gs++rd x) [] S [(d,.val (.sc (.map (some g))))]:=b7Y hW hq r t u y z A B C E
theorem b2q {W:World} {b g:Nat} {l:List CV} (hW:Hw W w0 U0) (hq:a7K b g l U0.m w0) (hg:Gd w0 U0 nt ops o gs S) (hd:o.dst=some d) (hn:Nat.blt d nt=true) (h5:Nat.blt d 100000=true) {x y:Operand} {t kt et:TypeId} {k:IntKind} {i:Int} {n0 q0 p0 n' q' p'} (ho:o.op = .lookup t x y true) (hu:P.underlying t=some (.map kt et)) (huk:P.underlying kt=some (.int k)) (hz2:(P.info? et).map (·.zero)=some (some (.agg #[.int .i64 0,.slice none 0 0]))) (hzc:S0 P et=some (.row [.i 0,.lst []])) (hx:ev S x=some ⟨0,.sc (.map (some g)),n0,q0,p0⟩) (hy:ev S y=some ⟨0,.sc (.int k i),n',q',p'⟩) (hik:w8 k l) {r:Option CV} (hlr:D6 k i l=r):AOp P w0 U0 nt ops o (gs++(rd x++rd y)) [] S [(d,.tup [r.getD (.row [.i 0,.lst []]),.b r.isSome])]:=
 d9 hg hd hn h5 (fun k hk=>List.mem_append_left _ hk) fun s hs a w D hv hm=>by
  have h1:=s9 hm (fun k hk=>hs k (List.mem_append_right _ (List.mem_append_left _ hk))) hx
  have e2:=s9 hm (fun k hk=>hs k (List.mem_append_right _ (List.mem_append_right _ hk))) hy
  subst hlr
  obtain ⟨_,es,clock,g2,g3⟩:=hm.atQ (a3v b g l) hW hq
  obtain ⟨it,zv,i1,i2,i3⟩:=J1 hzc
  have hck:=run_checkKey (P:=P) (w:=w) huk (k := .int k i) rfl es.isEmpty 9999
  have hge:=Go.MapKept.run_getObj_map (P:=P) g2
  rcases I5 0 g3 hik (i:=i) with ⟨f1,f2⟩ | ⟨j,e,c,f1,f2,f3,f4,f5,f6⟩
  ·have hfk:=run_findKey (P:=P) (w:=w) huk f1
   have hzv:(zeroValue et).run P w = .ok zv w:=by simp [zeroValue,typeInfo,i1,i2]
   refine ⟨.tuple #[zv,.bool false],?_,?_⟩
   ·generalize a.eval=ρ at h1 e2 ⊢
    simp [execOp,ho,Instr.lookup,run_underlying hu,h1,e2,hge,hck,hfk,hzv]
   ·rw [f2]
    have hr:=i3 (Us w0 U0 D) w
    exact ⟨[zv,.bool false],rfl,zv,[.bool false],rfl,b6n hz2 hr ⟨it,i1,i2⟩,.bool false,[],rfl,l8.2 ⟨rfl,rfl⟩,rfl⟩
  ·have hfk:=run_findKey (P:=P) (w:=w) huk f1
   refine ⟨.tuple #[e.val,.bool true],?_,?_⟩
   ·generalize a.eval=ρ at h1 e2 ⊢
    simp [execOp,ho,Instr.lookup,run_underlying hu,h1,e2,hge,hck,hfk]
   ·rw [f6]
    exact ⟨[e.val,.bool true],rfl,e.val,[.bool true],rfl,f4,.bool true,[],rfl,l8.2 ⟨rfl,rfl⟩,rfl⟩
theorem zbI {P:Program} {w0:World} {U0:UX} {nt:Nat} {ops:Array Oper} {o:Oper} {S:Nat→Option AV} {gs:List Nat} {d:Nat} {W:World} {b:Nat} {g:Nat} {l:List CV} {x:Operand} {y:Operand} {t:TypeId} {kt:TypeId} {et:TypeId} {k:IntKind} {i:Int} {n0} {q0} {p0} {n'} {q'} {p'} {r:Option CV} (hW:Hw W w0 U0) (hq:a7K b g l U0.m w0) (p:Gd w0 U0 nt ops o gs S:=by exact gN rfl) (u:o.dst=some d:=by exact rfl) (v:Nat.blt d nt=true:=by exact rfl) (z:Nat.blt d 100000=true:=by exact rfl) (A:o.op = .lookup t x y true:=by exact rfl) (B:P.underlying t=some (.map kt et):=by exact rfl) (C:P.underlying kt=some (.int k):=by exact rfl) (E:(P.info? et).map (·.zero)=some (some (.agg #[.int .i64 0,.slice none 0 0])):=by exact rfl) (F:S0 P et=some (.row [.i 0,.lst []]):=by exact rfl) (G:ev S x=some ⟨0,.sc (.map (some g)),n0,q0,p0⟩:=by exact rfl) (H:ev S y=some ⟨0,.sc (.int k i),n',q',p'⟩:=by exact rfl) (hik:w8 k l) (hlr:D6 k i l=r):AOp P w0 U0 nt ops o (gs++(rd x++rd y)) [] S [(d,.tup [r.getD (.row [.i 0,.lst []]),.b r.isSome])]:=b2q hW hq p u v z A B C E F G H hik hlr
theorem a7W {f : FuncId} {fn : Func} {c : Code} {args rs : List CV} (hf : P.funcs[f]? = some fn) (hn : fn.ntmps = nt) (hname : (fn.name == "runtime.NumGoroutine") = false) (hb : fn.body = some c) (hl : Nat.ble args.length nt = true) (hnt : Nat.blt nt 100000 = true)
  (h:∀ (w:World) (U:UX),Hw w w U→q U.m w→AWp P w U nt c (fun e s'=>(e = .normal∨e = .ret)∧a7Y P s' fn.results.toList=some rs) (a5k args 0)):a6F P q f args (J2 rs):=by
 have hr2:((J2 rs).t=0∨(J2 rs).t=4)∧(J2 rs).n=0:=by
  unfold J2
  split
  ·exact ⟨.inl rfl,rfl⟩
  ·exact ⟨.inr rfl,rfl⟩
 refine ⟨C1 hf hname (by rw [hb];rfl),hr2.1,hr2.2,fun U w vs hq hargs=>?_⟩
 have hlen:=hargs.len
 refine calls_of_wp hf hb ?_
 have hle:=Nat.le_of_ble_eq_true hl
 have hnt:=bL hnt
 have hno:∀ {k av},100000≤k→look (a5k args 0) k=some av→False:=fun {k av} h1 h2=>by rw [a5d (by omega)] at h2;cases h2
 obtain ⟨V,hV⟩:∃ V:UX,V=⟨U,fun _=>False,fun _=>none,fun _ _ h=>by cases h⟩:=⟨_,rfl⟩
 have hs:Sim w V nt (a5k args 0) { tmps:=vs.toArray++Array.replicate (fn.ntmps-vs.toArray.size) undef,defers:=[] } w:=by
  refine ⟨fun _ _=>False,fun _ => .slice none 0 0,BelowX.refl _ _,rfl,by simp [hn];omega,fun d av h1 h2=>?_,fun n o av h1=>(hno (by unfold b9;omega) h1).elim,fun n o o' av av' h1=>(hno (by unfold b9;omega) h1).elim,fun k av h1 h2=>(hno h2.1 h1).elim,fun k av g h1 h2=>(hno h2.1 h1).elim,fun k k' av av' g h1 h2 h3=>(hno h3.1 h1).elim,fun n g h1=>(by rw [hV] at h1;cases h1),fun b o hd=>hd.elim⟩
  obtain ⟨_,c',h3,rfl⟩:=V7 h1
  rw [Nat.sub_zero] at h3
  obtain ⟨v,h4,h5⟩:=hargs.at h3
  have hdl:d<vs.length:=by
   rcases Nat.lt_or_ge d vs.length with h | h
   ·exact h
   ·rw [List.getElem?_eq_none h] at h4;cases h4
  refine ⟨v,?_,k8 (h5.keep fun b o v hu hc=>⟨.inl ⟨World.block_lt_of_cell? w _ hc,by rw [hV];exact ⟨hu,fun h=>h⟩⟩,hc⟩)⟩
  rw [Array.getElem?_append_left (by simpa using hdl)]
  simpa using h4
 refine wp_mono ((h w V (by rw [hV];exact ⟨fun _=>rfl,fun _ h=>h⟩) (by rw [hV];exact hq) ⟨none,[]⟩ _ w hs).wp rfl (fun e a w ⟨s,_,h⟩=>h.df)) ?_
 rintro e a' w' ⟨s',⟨h1,h2⟩,D,hv,h3⟩
 obtain ⟨v,h4,h5⟩:=a6t h3 h2
 have hR:RR (fun b o=>U b o∨w.heap.size≤b) w' (J2 rs) v:=by
  have hk:∀ b o u,Us w V D b o→w'.cell? ⟨b,o,none⟩=some u→(U b o∨w.heap.size≤b)∧w'.cell? ⟨b,o,none⟩=some u:=fun b o u hu hc=>⟨hu.imp (fun h=>by rw [hV] at h;exact h.2.1) fun h=>h.1,hc⟩
  unfold RR at h5 ⊢
  split
  ·rename_i ht
   rw [if_pos ht] at h5
   obtain ⟨vs,h6,h7⟩:=h5
   exact ⟨vs,h6,h7.keep hk⟩
  ·rename_i ht
   rw [if_neg ht] at h5
   exact h5.keep hk
 have hbw:Below w.heap.size w w':=h3.below.below (by rw [hV];exact fun _ h=>h)
 rcases h1 with rfl | rfl
 ·exact ⟨h3.dfr,v,h4,v,rfl,hR,hbw⟩
 ·exact ⟨h3.dfr,v,h4,v,rfl,hR,hbw⟩
end
end Go.Proofs.YtglmoficcjphaaaGreat
namespace Go.Proofs.YtglmoficcjphaaaGreat
open Go.RowKit
set_option linter.unusedVariables false
set_option linter.unusedSimpArgs false
set_option maxRecDepth 100000
noncomputable def imR (b:Bd):CV := .row [.sc (.int .i64 b.v),b.t.cw]
theorem a3I (L:List Bd):w8 .i64 (L.map imR):=fun r hr=>by
 obtain ⟨b,_,rfl⟩:=List.mem_map.1 hr
 exact ⟨_,_,rfl⟩
theorem a8B (v:Int):∀ L:List Bd,D6 .i64 v (L.map imR)=(b0 L v).map Tm.cw
 | []=>rfl
 | b::L=>by
  rw [List.map_cons]
  unfold imR
  rw [O2,b0]
  by_cases h:b.v=v
  ·rw [if_pos h,if_pos h];rfl
  ·rw [if_neg h,if_neg h];exact a8B v L
theorem b3r (b g:Nat) (L:List Bd) (v:Int) (h1:0≤v) (h2:v≤9223372036854775807):a6F Tryz.prog (a7K b g (L.map imR)) 112 [.i v,.sc (.pointer (some ⟨b,0,none⟩))] (.val (b5 L v).cw):=by
 refine a7W (rs:=[(b5 L v).cw]) Tryz.func112 Tryz.ntmps112 rfl rfl rfl rfl ?_
 intro w U hW hq
 have hQ:=a3v b g (L.map imR)
 have hlk:=a8B v L
 refine aS (aR ?_)
 refine nc zk ?_
 unfold b5
 cases hf:b0 L v with
 | none =>
  rw [hf] at hlk
  refine aS (aS (aR ?_))
  refine nc (zbH hW hq) (nc zl (nc (zbI hW hq (hik:=a3I _) (hlr:=hlk)) (nc zl (nc zx (nc zx (nc zk (nc zo (nc ze ?_))))))))
  refine aS (aR ?_)
  refine nc zl ?_
  refine aC rfl (fun hc=>?_) (fun hc=>?_)
  ·cases hc
  ·refine aK ?_
   refine aS (aR ?_)
   refine nc zl (nc (zw (z:=Y0 w v h1 h2)) (nc zo ?_))
   exact aT (And.intro (.inr rfl) rfl)
 | some t =>
  rw [hf] at hlk
  refine aS (aS (aR ?_))
  refine nc (zbH hW hq) (nc zl (nc (zbI hW hq (hik:=a3I _) (hlr:=hlk)) (nc zl (nc zx (nc zx (nc zk (nc zo (nc ze ?_))))))))
  refine aS (aR ?_)
  refine nc zl ?_
  refine aC rfl (fun hc=>?_) (fun hc=>?_)
  ·refine aS (aR ?_)
   refine nc zy (nc zo ?_)
   exact aT (And.intro (.inr rfl) rfl)
  ·cases hc
theorem a5D {q:(Nat→Nat→Prop)→World→Prop} (hQ:QUp q) (fc:CV) (img:Int→Tm) (hI:∀ v,0≤v→v≤9223372036854775807→a6K Tryz.prog q fc [.i v] (.val (img v).cw)∧(img v).rng∧(img v).size≤90000000000):∀ t:Tm,t.rng→t.ok→a6F Tryz.prog q 59 [t.cw,fc] (.val (a9 img t).cw):=by
 intro t
 induction t using Tm.ind with
 | h f l ih =>
 intro hr hok
 have hok:=(Tm.ok_iff _).1 hok
 have hr:=(Tm.rng_iff _).1 hr
 simp only at hok hr
 have hsz:=Tm.size_all l
 refine a7W (rs:=[(a9 img ⟨f,l⟩).cw]) Tryz.func59 Tryz.ntmps59 rfl rfl rfl rfl ?_
 intro w U hW hq
 refine aS (aR ?_)
 refine nc zd (nc zk ?_)
 refine aS (aS (aR ?_))
 refine nc zy ?_
 refine nc (zw (z:=Q7 w ⟨f,l⟩)) ?_
 refine aC rfl (fun hc=>?_) (fun hc=>?_)
 ·have hf:f<0:=by simpa using hc
  rw [i8 hf]
  obtain ⟨i1,i2,i3⟩:=hI (-1-f) (by omega) (by omega)
  refine aS (aR ?_)
  refine nc zl (nc zy ?_)
  refine nc (zw (z:=S5 w ⟨f,l⟩ hr.1.1 hf)) ?_
  refine nc (zbJ hQ hW hq (E:=i1)) (nc (zw (z:=a1y w i2 i3)) (nc zo ?_))
  exact aT (And.intro (.inr rfl) rfl)
 ·have hf:¬ f<0:=by simpa using hc
  rw [d8 hf]
  refine aK ?_
  refine aS (aR ?_)
  refine nc ze ?_
  refine aS (aS (aR ?_))
  refine nc zg (nc zh (nc zp (nc zl ?_)))
  refine aB (o5 l.length (fun k=>[(1,.val fc),(2,.bp 2 0 []),(100002,.bx (Tm.cw ⟨f,l⟩)),(4,.bp 4 0 []),(100004,⟨5,.row [.i 0,.lst []],1,0,[1]⟩),(5,.own (.lst ((l.take k).map fun t=>(a9 img t).cv)) 200027),(200027,.tok 42 2),(16,.val (.lst (l.map Tm.cv))),(17,.val (.i (l.map Tm.cv).length)),(18,.val (.i k))])
   ((O6 5 200027 42 2 rfl rfl rfl rfl rfl rfl rfl).trans (a7 ⟨rfl,rfl,rfl,rfl,rfl,rfl,rfl,rfl,rfl,rfl,trivial⟩)) ?_)
  intro k hk
  refine aS (aR ?_)
  refine nc zi ?_
  refine aS (aC rfl (fun hc=>?_) (fun hc=>?_))
  ·have hkl:k<l.length:=by
    simp only [List.length_map,decide_eq_true_eq] at hc
    omega
   obtain ⟨t,ht⟩:∃ t,l[k]?=some t:=⟨l[k],List.getElem?_eq_getElem hkl⟩
   have ht':=Tm.map_at ht
   have htm:=List.mem_of_getElem? ht
   have hsz2:∀ c∈(l.take k).map fun t=>(a9 img t).cv,c.size=2:=by
    intro c hc
    obtain ⟨t,_,rfl⟩:=List.mem_map.1 hc
    exact Tm.size_cv _
   refine aK ?_
   refine aS (aB (aS (aR ?_)))
   refine nc (zq (H:=by assumption) (hz:=by first | assumption | exact sZ rfl | exact Tm.size_all _ | exact Bd.size_all _ | exact i7 _ | exact bys_size _ | exact Lt.size_all _)) (nc zr (nc zk (nc zo ?_)))
   refine aR ?_
   refine nc zl (nc zy (nc zl (nc (zbK hQ hW hq (A:=ih t htm (hr.2 t htm) (hok.2 t htm))) (nc zD (nc zE (nc ze ?_))))))
   refine aR ?_
   refine nc zu (nc zl ?_)
   refine ⟨hkl,Wk.trans (a7 (s':=[(1,.val fc),(2,.bp 2 0 []),(100002,.bx (Tm.cw ⟨f,l⟩)),(4,.bp 4 0 []),(100004,⟨5,.row [.i 0,.lst []],1,0,[1]⟩),(5,.own (.lst ((l.take (k+1)).map fun t=>(a9 img t).cv)) 300027),(300027,.tok 42 2),(16,.val (.lst (l.map Tm.cv))),(17,.val (.i (l.map Tm.cv).length)),(18,.val (.i ((k+1:Nat):Int)))]) ⟨rfl,rfl,rfl,rfl,rfl,?_,rfl,rfl,rfl,rfl,trivial⟩) (C3 300027 200027 rfl rfl rfl rfl)⟩
   rw [List.take_add_one,ht,List.map_append]
   simp only [Option.toList_some,List.map_cons,List.map_nil,Tm.cv_eq]
   rfl
  ·have hkl:k=l.length:=by
    simp only [List.length_map,decide_eq_false_iff_not] at hc
    omega
   subst hkl
   rw [List.take_length]
   refine aE ?_
   refine aS (aR ?_)
   refine nc zg (nc zh (nc zl (nc zn (nc zo ?_))))
   refine aT (And.intro (.inr rfl) ?_)
   unfold Tm.cw
   rw [List.map_map]
   rfl
end Go.Proofs.YtglmoficcjphaaaGreat
namespace Go.Proofs.YtglmoficcjphaaaGreat
open Go.RowKit Go.MapKept Go.Shelf
set_option linter.unusedVariables false
set_option linter.unusedSimpArgs false
attribute [local go_sem] Oper.semAt_some
set_option maxRecDepth 100000 in
set_option maxHeartbeats 2000000 in
theorem b3E (l Bb ob n:Nat) (c0 c1 c2:Nat→Value) (R:Nat→Nat→Prop) (w:World) (ao:Option Addr) (cap:Nat) (hbox:w.cell? ⟨Bb,ob,none⟩=some (.slice ao n cap)) (hRb:R Bb ob) (hat:∀ i,i<n→∃ b off,ao=some ⟨b,off,none⟩∧(R b (off+i*3)∧w.cell? ⟨b,off+i*3,none⟩=some (c0 i))∧(R b (off+i*3+1)∧w.cell? ⟨b,off+i*3+1,none⟩=some (c1 i))∧(R b (off+i*3+2)∧w.cell? ⟨b,off+i*3+2,none⟩=some (c2 i))) (hl:n≤1000000000)
  (J:List Nat→World→Prop) (hJ:∀ pre A B,J pre A→Below A.heap.size A B→J pre B)
  (hY:∀ pre (x:Nat) V,J pre V→x=pre.length∧x<n→YieldAt Fence.wide 1 Tryz.prog l #[.int .i64 ((n:Int)-1-x),.agg #[c0 (n-1-x),c1 (n-1-x),c2 (n-1-x)]] V fun e V'=>e = .returned (.bool true)∧J (pre++[x]) V'∧KpX w.heap.size (fun b=>¬ ∃ o,R b o) V V')
  (W:World) (hW:Below w.heap.size w W) (h0:J [] W) :
  CallsIn Fence.wide 2 Tryz.prog 138 #[.func (.yield l) #[] #[],.pointer (some ⟨Bb,ob,none⟩)] W fun e W'=>(∃ v,e = .returned v)∧∃ ys,ys=List.range n∧J ys W':=by
 have hcs:∀ {V:World},KpX w.heap.size (fun b=>¬ ∃ o,R b o) w V→V.cell? ⟨Bb,ob,none⟩=some (.slice ao n cap)∧∀ i,i<n→∃ b off,ao=some ⟨b,off,none⟩∧V.cell? ⟨b,off+i*3,none⟩=some (c0 i)∧V.cell? ⟨b,off+i*3+1,none⟩=some (c1 i)∧V.cell? ⟨b,off+i*3+2,none⟩=some (c2 i):=fun {V} hV=>by
  have hkeep:∀ b o u,R b o→w.cell? ⟨b,o,none⟩=some u→V.cell? ⟨b,o,none⟩=some u:=fun b o u hr hc=>by
   have hb:b<w.heap.size:=World.block_lt_of_cell? w _ hc
   rw [World.cell?_of_block (w:=w) (hV b hb (fun hn=>hn ⟨o,hr⟩))]
   exact hc
  refine ⟨hkeep _ _ _ hRb hbox,fun i hi=>?_⟩
  obtain ⟨b,off,h1,⟨g1,g2⟩,⟨g3,g4⟩,g5,g6⟩:=hat i hi
  exact ⟨b,off,h1,hkeep _ _ _ g1 g2,hkeep _ _ _ g3 g4,hkeep _ _ _ g5 g6⟩
 have hW0:KpX w.heap.size (fun b=>¬ ∃ o,R b o) w W:=fun b hb _=>hW.block b hb
 have HC:Hid (∀ {V:World},KpX w.heap.size (fun b=>¬ ∃ o,R b o) w V→V.cell? ⟨Bb,ob,none⟩=some (.slice ao n cap)∧∀ i,i<n→∃ b off,ao=some ⟨b,off,none⟩∧V.cell? ⟨b,off+i*3,none⟩=some (c0 i)∧V.cell? ⟨b,off+i*3+1,none⟩=some (c1 i)∧V.cell? ⟨b,off+i*3+2,none⟩=some (c2 i)):=fun {V} h=>hcs h
 clear hcs hbox hat hRb
 obtain ⟨hb0,_⟩:=HC.out hW0
 refine callsIn_of_wp Tryz.func138 rfl trivial ?_ rfl
 simp only [Tryz.ntmps138,List.size_toArray,List.length_cons,List.length_nil,Nat.reduceAdd,Nat.reduceSub,Array.replicate_succ,Array.replicate_zero,List.push_toArray,List.append_toArray,List.nil_append,List.cons_append]
 gi_wp2
 gi_loopw [3] (fun iv wr=>∃ (z:Int) (k:Nat),iv = .int .i64 z∧z=(n:Int)-1-k∧k≤n∧J (List.range k) wr∧KpX w.heap.size (fun b=>¬ ∃ o,R b o) w wr) (fun iv wr=>(intOf iv+1).toNat)
 case atStart=>exact ⟨_,0,rfl,by omega,by omega,by simpa using h0,hW0⟩
 case round =>
  obtain ⟨z,k,rfl,hz,hk,hJr,hKr⟩:=hrel
  clear hb0 h0 hW0
  obtain ⟨hb1,hc1⟩:=HC.out hKr
  by_cases hkn:k=n
  ·have hz1:z = -1:=by omega
   subst hz1
   gi_wp2
   go_end0
   refine ⟨⟨_,rfl⟩,_,rfl,?_⟩
   rw [hkn] at hJr
   exact hJr
  ·obtain ⟨j,hj⟩:∃ j:Nat,j=n-1-k:=⟨_,rfl⟩
   have hzj:z=(j:Int):=by omega
   have hjn:j<n:=by omega
   subst hzj
   obtain ⟨b,off,rfl,hc2,hc3,hc4⟩:=hc1 j hjn
   obtain ⟨fn,tmps,assign,body,hy,hR⟩:=hY (List.range k) k _ hJr ⟨by simp,by omega⟩
   rw [show (n:Int)-1-k=(j:Int) by omega,show n-1-k=j from hj.symm] at hy
   obtain ⟨v0,hv0⟩:∃ v,v=c0 j:=⟨_,rfl⟩
   obtain ⟨v1,hv1⟩:∃ v,v=c1 j:=⟨_,rfl⟩
   obtain ⟨v2,hv2⟩:∃ v,v=c2 j:=⟨_,rfl⟩
   rw [←hv0] at hc2 hy
   rw [←hv1] at hc3 hy
   rw [←hv2] at hc4 hy
   clear hc1 hv0 hv1 hv2
   have hy:Sem.run Tryz.prog (Instr.yield l #[.int .i64 (j:Int),.agg #[v0,v1,v2]]) wr = .ok (.round l fn tmps assign body) wr:=hy
   have HJ:Hid (j=n-1-k∧k<n):=⟨hj,by omega⟩
   clear hj hz hkn hk
   gi_wp2
   refine hR.mono ?_
   rintro e V3 ⟨rfl,hJ3,hk3⟩
   gi_wp2
   go_roundw
   case rel=>exact ⟨_,k+1,rfl,by have:=HJ.out;omega,by have:=HJ.out;omega,by rw [List.range_succ];exact hJ3,fun b' hb' hx'=>(hk3 b' hb' hx').trans (hKr b' hb' hx')⟩
   case measure=>simp [intOf]
theorem sq3 {R:Nat→Nat→Prop} {w:World}:∀ {L:List Bd} {ys:List Value},Sq ((L.map Bd.cv).map fun c=>Rep R w c) ys→ys.length=3*L.length∧∀ i b,L[i]?=some b→Rep R w b.cw [ys.getD (i*3) undef,ys.getD (i*3+1) undef,ys.getD (i*3+2) undef]
 | [],ys,h=>by
  have h:ys=[]:=h
  subst h
  exact ⟨rfl,fun i b h=>by simp at h⟩
 | x::L,ys,⟨us,bs,e,h1,h2⟩=>by
  obtain ⟨ih1,ih2⟩:=sq3 (L:=L) h2
  have hlen:us.length=3:=h1.len
  obtain ⟨u0,u1,u2,rfl⟩:∃ u0 u1 u2,us=[u0,u1,u2]:=by
   match us,hlen with
   | [u0,u1,u2],_=>exact ⟨u0,u1,u2,rfl⟩
  subst e
  refine ⟨by simp;omega,fun i b hi=>?_⟩
  cases i with
  | zero =>
   simp at hi
   subst hi
   exact h1
  | succ i =>
   have:=ih2 i b (by simpa using hi)
   have hg:∀ k,([u0,u1,u2]++bs).getD (k+3) undef=bs.getD k undef:=fun k=>by simp [List.getD_eq_getElem?_getD]
   rw [show (i+1)*3=i*3+3 by omega,show i*3+3+1=i*3+1+3 by omega,show i*3+3+2=i*3+2+3 by omega,hg,hg,hg]
   exact this
theorem a7l {R:Nat→Nat→Prop} {w:World} {L:List Bd} {Bb ob:Nat} {ao:Option Addr} {cap:Nat} (hl:L.length≤1000000000) (hbox:w.cell? ⟨Bb,ob,none⟩=some (.slice ao L.length cap)) (hRb:R Bb ob) (hv:VRep R w (.lst (L.map Bd.cv)) (.slice ao L.length cap)) :
  ∃ c0 c1 c2:Nat→Value,(∀ i b,L[i]?=some b→VRep R w b.cw (.agg #[c0 i,c1 i,c2 i])) ∧
   a0D Tryz.prog 138 #[.pointer (some ⟨Bb,ob,none⟩)] (fun x:Nat => #[.int .i64 ((L.length:Int)-1-x),.agg #[c0 (L.length-1-x),c1 (L.length-1-x),c2 (L.length-1-x)]]) (fun pre x _=>x=pre.length∧x<L.length) (KpX w.heap.size fun b=>¬ ∃ o,R b o) (fun ys=>ys=List.range L.length) w:=by
 obtain ⟨a',n',c',e0,e1,e2,e3,e4,ys,e5,e6⟩:=j5.1 hv
 injection e0 with e0 _ _
 subst e0
 obtain ⟨s1,s2⟩:=sq3 e6
 refine ⟨fun i=>ys.getD (i*3) undef,fun i=>ys.getD (i*3+1) undef,fun i=>ys.getD (i*3+2) undef,fun i b hb=>⟨_,rfl,s2 i b hb⟩,?_⟩
 intro l J W hW hJ hY h0
 refine b3E l Bb ob L.length (fun i=>ys.getD (i*3) undef) (fun i=>ys.getD (i*3+1) undef) (fun i=>ys.getD (i*3+2) undef) R w ao cap hbox hRb (fun i hi=>?_) hl J hJ hY W hW h0
 rcases e5 with h1 | ⟨b,off,h1,h2⟩
 ·rw [h1] at s1;simp at s1;omega
 ·have hk:∀ k,k<ys.length→R b (off+k)∧w.cell? ⟨b,off+k,none⟩=some (ys.getD k undef):=fun k hk=>by
   obtain ⟨g1,g2⟩:=h2 k hk
   exact ⟨g1,by rw [g2,List.getD_eq_getElem?_getD,List.getElem?_eq_getElem hk];rfl⟩
  exact ⟨b,off,h1,hk (i*3) (by omega),hk (i*3+1) (by omega),hk (i*3+2) (by omega)⟩
def a2c (b:Bd):List Bd→List Bd
 | []=>[b]
 | x::M=>if x.v=b.v then b::M else x::a2c b M
theorem a8i (b:Bd):∀ M:List Bd,a1Q .i64 b.v b.t.cw (M.map imR)=(a2c b M).map imR
 | []=>rfl
 | x::M=>by
  rw [List.map_cons,a2c]
  have h1:=a3R (k := .i64) (i:=b.v) (j:=x.v) (c:=b.t.cw) (c':=x.t.cw) (l:=M.map imR)
  by_cases h:x.v=b.v
  ·rw [if_pos h] at h1 ⊢;exact h1
  ·rw [if_neg h] at h1 ⊢
   rw [a8i b M] at h1
   exact h1
theorem a5a (b:Bd) (v:Int):∀ M:List Bd,b0 (a2c b M) v=if b.v=v then some b.t else b0 M v
 | []=>rfl
 | x::M=>by
  rw [a2c]
  by_cases h:x.v=b.v
  ·rw [if_pos h,b0,b0]
   by_cases h2:b.v=v
   ·rw [if_pos h2,if_pos h2]
   ·rw [if_neg h2,if_neg h2,if_neg (by omega)]
  ·rw [if_neg h,b0,b0,a5a b v M]
   by_cases h2:b.v=v
   ·rw [if_pos h2,if_pos h2,if_neg (by omega)]
   ·rw [if_neg h2,if_neg h2]
def a2v (L:List Bd) (k:Nat):List Bd:=(L.reverse.take k).foldl (fun M b=>a2c b M) []
theorem b2B {L:List Bd} {k:Nat} {b:Bd} (h:L[L.length-1-k]?=some b) (hk:k<L.length):a2v L (k+1)=a2c b (a2v L k):=by
 unfold a2v
 rw [List.take_add_one,List.getElem?_reverse hk,h,List.foldl_append]
 rfl
theorem b2I:∀ (L:List Bd) (v:Int),b0 (a2v L L.length) v=b0 L v:=by
 intro L v
 have:∀ L:List Bd,b0 (L.reverse.foldl (fun M b=>a2c b M) []) v=b0 L v:=by
  intro L
  induction L with
  | nil=>rfl
  | cons b L ih =>
   rw [List.reverse_cons,List.foldl_append]
   show b0 (a2c b _) v=_
   rw [a5a,ih,b0]
 unfold a2v
 rw [←List.length_reverse,List.take_length]
 exact this L
attribute [local go_sem] Oper.semAt_some
theorem b6U {P:Program} {w:World} {U:Nat→Nat→Prop} {t kt et:TypeId} {k:IntKind} {i:Int} {l:List CV} {g clock:Nat} {es:Array MapEntry} {val:Value} {c:CV} (hu:P.underlying t=some (.map kt et)) (huk:P.underlying kt=some (.int k)) (g2:w.heap[g]?=some (.map es clock)) (g3:Ents U w l es.toList) (hik:w8 k l) (e3:VRep U w c val) :
  ∃ es' clock',(Instr.mapUpdate t (.map (some g)) (.int k i) val).run P w = .ok () { w with heap:=w.heap.setIfInBounds g (.map es' clock') }∧Ents U w (a1Q k i c l) es'.toList:=by
 have hck:=run_checkKey (P:=P) (w:=w) huk (k := .int k i) rfl false 9999
 have hge:=Go.MapKept.run_getObj_map (P:=P) g2
 obtain ⟨p1,p2'⟩:=U6 (i:=i) c hik
 rcases I5 0 g3 hik (i:=i) with ⟨f1,f2⟩ | ⟨j,e,c',f1,f2,f3,f4,f5,f6⟩
 ·have hfk:=run_findKey (P:=P) (w:=w) huk f1
  refine ⟨es.push { key := .int k i,val:=val,born:=clock },clock+1,?_,?_⟩
  ·have hso:=run_setObj_map (P:=P) (Obj.map (es.push { key := .int k i,val:=val,born:=clock }) (clock+1)) g2
   simp [Instr.mapUpdate,run_underlying hu,hge,hck,hfk,hso]
  ·rw [p1 f2,Array.toList_push]
   exact a1s g3 ⟨.sc (.int k i),c,rfl,rfl,rfl,e3⟩
 ·have hfk:=run_findKey (P:=P) (w:=w) huk f1
  rw [Nat.zero_add] at hfk
  have hjl:j<es.size:=by
   have:=(List.getElem?_eq_some_iff.1 f2).1
   simpa using this
  have hej:es[j]?=some e:=by rw [←Array.getElem?_toList];exact f2
  have hmod:(es.modify j fun e=>{ e with key := .int k i,val:=val }).toList=es.toList.set j { e with key := .int k i,val:=val }:=by
   rw [Array.toList_modify]
   apply List.ext_getElem?
   intro q
   rw [List.getElem?_modify,List.getElem?_set]
   by_cases hq:j=q
   ·subst hq
    have:es[j]=e:=(Array.getElem?_eq_some_iff.1 hej).2
    simp [hjl,this]
   ·simp [hq]
  refine ⟨es.modify j fun e=>{ e with key := .int k i,val:=val },clock,?_,?_⟩
  ·have hso:=run_setObj_map (P:=P) (Obj.map (es.modify j fun e=>{ e with key := .int k i,val:=val }) clock) g2
   have hst:(Instr.keyThatStays (.int k i) (.int k i)).run P w = .ok (.int k i) w:=by simp [Instr.keyThatStays,Instr.sameBits]
   simp [Instr.mapUpdate,run_underlying hu,hge,hck,hfk,hso,hej,f5,hst]
  ·rw [hmod,p2' j c' f3 (Z4 0 (j:=j) g3 hik f1)]
   exact a3O g3 ⟨.sc (.int k i),c,rfl,rfl,rfl,e3⟩
theorem a2f {F:Fence} {nF:Nat} {P:Program} (w:World) {ops:Array Oper} {rest:List Oper} {o:Oper} {a:Act} {Q:Exit→Act→World→Prop}
  (hg:o.guard=none) (m x v:Operand) (t:TypeId) (hop:o.op=Op.mapUpdate t m x v) {mv key val:Value} (hm:a.eval m=mv) (hx:a.eval x=key) (hv:a.eval v=val) {w':World} (hrun:(Instr.mapUpdate t mv key val).run P w = .ok () w')
  (hK:wpListIn F nF P ops Q rest (a.put o.dst undef) w'):wpListIn F nF P ops Q (o::rest) a w:=by
 refine wpListIn_plain hg fun K' hK'=>?_
 unfold Oper.wpIn
 refine ⟨by simp [Oper.about,hop],?_⟩
 rw [Oper.semAt_plain F _ _ (by rw [hop];intro c hc';cases hc')]
 simp [execOp,hop,hm,hx,hv,hrun,Result.andThen]
 exact hK' _ _ hK
theorem a9D (ao:Option Addr) (n c:Nat) (w:World) :
  CallsIn Fence.wide 2 Tryz.prog 111 #[.slice ao n c] w fun e w'=>e = .returned (.func (.func 138) #[] #[.pointer (some ⟨w.heap.size,0,none⟩)])∧w'=w.alloc (.cells #[.slice ao n c] 58):=by
 refine callsIn_of_wp Tryz.func111 rfl trivial ?_ rfl
 simp only [Tryz.ntmps111,List.size_toArray,List.length_cons,List.length_nil,Nat.reduceAdd,Nat.reduceSub,Array.replicate_succ,Array.replicate_zero,List.push_toArray,List.append_toArray,List.nil_append,List.cons_append]
 gi_wp2
 go_ret
 exact ⟨rfl,rfl⟩
theorem b1k {R:Nat→Nat→Prop} {w:World} {b:Bd} {u0 u1 u2:Value} (h:VRep R w b.cw (.agg #[u0,u1,u2])):u0 = .int .i64 b.v∧VRep R w b.t.cw (.agg #[u1,u2]):=by
 obtain ⟨xs,e,h1⟩:=H6.1 h
 have hxs:xs=[u0,u1,u2]:=by
  injection e with e
  have:=congrArg Array.toList e
  simpa using this.symm
 subst hxs
 obtain ⟨us,bs,e1,k1,us',bs',e2,k3,k4⟩:=h1
 have hus:us=[.int .i64 b.v]:=(M1.1 k1).1
 have hbs:bs'=[]:=k4
 subst hus;subst hbs;subst e2
 simp at e1
 obtain ⟨e3,e4⟩:=e1
 subst e4
 exact ⟨e3,_,rfl,k3⟩
theorem a3F {R:Nat→Nat→Prop} {w:World} {t:Tm} {u1 u2:Value} (h:VRep R w t.cw (.agg #[u1,u2])):u1 = .int .i64 t.f∧∃ a m c,u2 = .slice a m c:=by
 obtain ⟨xs,e,h1⟩:=H6.1 h
 have hxs:xs=[u1,u2]:=by
  injection e with e
  have:=congrArg Array.toList e
  simpa using this.symm
 subst hxs
 obtain ⟨us,bs,e1,k1,us',bs',e2,k3,k4⟩:=h1
 have hus:us=[.int .i64 t.f]:=(M1.1 k1).1
 have hbs:bs'=[]:=k4
 subst hus;subst hbs;subst e2
 simp at e1
 obtain ⟨e3,e4⟩:=e1
 subst e4
 obtain ⟨a,m,c,e5,_⟩:=R4.1 k3
 simp at e5
 exact ⟨e3,a,m,c,e5⟩
theorem a7d {α:Type} {P:Program} {gf:Nat} {lb:Array Value} {encs encs':α→Array Value} {Ok:List α→α→World→Prop} {Kp:World→World→Prop} {S:List α→Prop} {w:World} (he:∀ pre x V,Ok pre x V→encs x=encs' x) (h:a0D P gf lb encs Ok Kp S w):a0D P gf lb encs' Ok Kp S w:=
 fun l J W hW hJ hY h0=>h l J W hW hJ (fun pre x V hj hok=>by rw [he pre x V hok];exact hY pre x V hj hok) h0
theorem a6L {R:Nat→Nat→Prop} {w:World} {L:List Bd} {Bb ob n:Nat} {ao:Option Addr} {cap:Nat} (hn:n=L.length) (hl:L.length≤1000000000) (hbox:w.cell? ⟨Bb,ob,none⟩=some (.slice ao n cap)) (hRb:R Bb ob) (hv:VRep R w (.lst (L.map Bd.cv)) (.slice ao L.length cap)) :
  ∃ (v f:Nat→Int) (a:Nat→Option Addr) (m c:Nat→Nat),(∀ x b,x<n→L[n-1-x]?=some b→VRep R w b.cw (.agg #[.int .i64 (v x),.int .i64 (f x),.slice (a x) (m x) (c x)])) ∧
   a0D Tryz.prog 138 #[.pointer (some ⟨Bb,ob,none⟩)] (fun x:Nat => #[.int .i64 ((n:Int)-1-x),.agg #[.int .i64 (v x),.int .i64 (f x),.slice (a x) (m x) (c x)]]) (fun pre x _=>x=pre.length∧x<n) (KpX w.heap.size fun b=>¬ ∃ o,R b o) (fun ys=>ys=List.range n) w:=by
 subst hn
 obtain ⟨c0,c1,c2,hc,hG⟩:=a7l hl hbox hRb hv
 have hx:∀ x:Nat,∃ (q:Int×Int×Option Addr×Nat×Nat),x<L.length→c0 (L.length-1-x) = .int .i64 q.1∧c1 (L.length-1-x) = .int .i64 q.2.1∧c2 (L.length-1-x) = .slice q.2.2.1 q.2.2.2.1 q.2.2.2.2:=fun x=>by
  by_cases h:x<L.length
  ·obtain ⟨bd,hbd⟩:∃ bd,L[L.length-1-x]?=some bd:=⟨L[L.length-1-x]'(by omega),List.getElem?_eq_getElem _⟩
   obtain ⟨g0,g1⟩:=b1k (hc _ _ hbd)
   obtain ⟨g2,a,m,c,g3⟩:=a3F g1
   exact ⟨⟨bd.v,bd.t.f,a,m,c⟩,fun _=>⟨g0,g2,g3⟩⟩
  ·exact ⟨⟨0,0,none,0,0⟩,fun h2=>absurd h2 h⟩
 obtain ⟨q,hq⟩:∃ q:Nat→Int×Int×Option Addr×Nat×Nat,∀ x:Nat,x<L.length→c0 (L.length-1-x) = .int .i64 (q x).1∧c1 (L.length-1-x) = .int .i64 (q x).2.1∧c2 (L.length-1-x) = .slice (q x).2.2.1 (q x).2.2.2.1 (q x).2.2.2.2:=⟨fun x=>(hx x).choose,fun x=>(hx x).choose_spec⟩
 clear hx
 refine ⟨fun x=>(q x).1,fun x=>(q x).2.1,fun x=>(q x).2.2.1,fun x=>(q x).2.2.2.1,fun x=>(q x).2.2.2.2,fun x b hxl hb=>?_,a7d (fun pre x V hok=>?_) hG⟩
 ·obtain ⟨g1,g2,g3⟩:=hq x hxl
  have:=hc _ _ hb
  rw [g1,g2,g3] at this
  exact this
 ·obtain ⟨g1,g2,g3⟩:=hq x hok.2
  rw [g1,g2,g3]
def ImR (w:World) (R:Nat→Nat→Prop) (b o:Nat):Prop:=(R b o∧b<w.heap.size)∨b=w.heap.size+1+1
def ImI (w wl:World) (R:Nat→Nat→Prop) (L:List Bd) (k:Nat) (W:World):Prop:=
 W.heap[w.heap.size+1]?=some (.cells #[.map (some w.heap.size)] 146 (0,0))∧(∃ es clock,W.heap[w.heap.size]?=some (.map es clock)∧Ents (ImR w R) W ((a2v L k).map imR) es.toList)∧Below w.heap.size w W∧w.heap.size+3≤W.heap.size∧KpX (w.heap.size+3) (fun b=>¬ ∃ o,ImR w R b o) wl W
theorem a4k {w:World} {R:Nat→Nat→Prop} {b o:Nat} (h:ImR w R b o):b<w.heap.size+3∧b≠w.heap.size:=by
 rcases h with h | h
 ·have:=h.2;omega
 ·omega
theorem ImI.up {w wl:World} {R:Nat→Nat→Prop} {L:List Bd} {k:Nat} {W W':World} (h:ImI w wl R L k W) (hb:∀ b,b<w.heap.size+3→W'.heap[b]?=W.heap[b]?) (hB:Below w.heap.size W W'):ImI w wl R L k W':=by
 obtain ⟨h1,⟨es,clock,h2,h3⟩,h4,h5,h6⟩:=h
 refine ⟨by rw [hb _ (by omega)];exact h1,⟨es,clock,by rw [hb _ (by omega)];exact h2,h3.keep fun b o u hu hc=>⟨hu,?_⟩⟩,h4.trans hB,Nat.le_trans h5 hB.size,fun b hb' hx=>(hb b hb').trans (h6 b hb' hx)⟩
 rw [World.cell?_of_block (w:=W) (hb b (a4k hu).1)]
 exact hc
theorem ImI.put {w wl:World} {R:Nat→Nat→Prop} {L:List Bd} {k:Nat} {W:World} (h:ImI w wl R L k W) {bd:Bd} (hbd:L[L.length-1-k]?=some bd) (hk:k<L.length) {es:Array MapEntry} {clock:Nat} (hE:Ents (ImR w R) W (a1Q .i64 bd.v bd.t.cw ((a2v L k).map imR)) es.toList):ImI w wl R L (k+1) { W with heap:=W.heap.setIfInBounds w.heap.size (.map es clock) }:=by
 obtain ⟨h1,⟨es0,clock0,h2,h3⟩,h4,h5,h6⟩:=h
 obtain ⟨q1,q2⟩:=heap_set (o':=Obj.map es clock) h2
 have hE:Ents (ImR w R) W ((a2v L (k+1)).map imR) es.toList:=by rw [b2B hbd hk,←a8i];exact hE
 refine ⟨by rw [q2 _ (by omega)];exact h1,⟨es,clock,q1,hE.keep fun b o u hu hc=>⟨hu,?_⟩⟩,⟨h4.os,h4.tape,h4.output,by simpa using h4.size,fun b hb=>(q2 b (by omega)).trans (h4.block b hb)⟩,by simpa using h5,fun b hb' hx=>?_⟩
 ·rw [World.cell?_of_block (w:=W) (q2 b (a4k hu).2)]
  exact hc
 ·obtain ⟨o,ho⟩:=Classical.not_not.1 hx
  exact (q2 b (a4k ho).2).trans (h6 b hb' hx)
set_option maxRecDepth 100000 in
set_option maxHeartbeats 4000000 in
theorem b2C (L:List Bd) {R:Nat→Nat→Prop} {w:World} {ao:Option Addr} {n cap:Nat} (hn:n=L.length) (hv:VRep R w (.lst (L.map Bd.cv)) (.slice ao L.length cap)) (h64:64<n) (hl:n≤1000000000) :
  CallsIn Fence.wide 3 Tryz.prog 75 #[.slice ao n cap] w fun e W'=>∃ b g,e = .returned (.func (.func 112) #[] #[.pointer (some ⟨b,0,none⟩)])∧a7K b g ((a2v L L.length).map imR) (fun b o=>R b o∨w.heap.size≤b) W'∧Below w.heap.size w W':=by
 have hmm:∀ w:World,Sem.run Tryz.prog (Instr.makeMap 146 (some (.int .i64 (n:Int)))) w = .ok (.map (some w.heap.size)) (w.alloc (.map #[] 0)):=fun w=>by
  simp [Instr.makeMap,run_underlying Tryz.underlying146,asInt,asIntOf,run_newObj_alloc]
 have HL:=hid hn
 have HV:=hid hv
 clear hn hv
 refine callsIn_of_wp_marks Tryz.func75 rfl trivial ?_ rfl
 simp only [Tryz.ntmps75,List.size_toArray,List.length_cons,List.length_nil,Nat.reduceAdd,Nat.reduceSub,Array.replicate_succ,Array.replicate_zero,List.push_toArray,List.append_toArray,List.nil_append,List.cons_append]
 gi_wp2_with (refine ⟨trivial,?_⟩;gi_at_call 111;refine (a9D _ _ _ _).mono ?_;rintro e w' ⟨rfl,rfl⟩)
 obtain ⟨w1,hw1⟩:∃ w1,w1=w.alloc (.map #[] 0):=⟨_,rfl⟩
 obtain ⟨w2,hw2⟩:∃ w2,w2=w1.alloc (.cells #[.map (some w.heap.size)] 146):=⟨_,rfl⟩
 obtain ⟨wl,hwl⟩:∃ wl,wl=w2.alloc (.cells #[.slice ao n cap] 58):=⟨_,rfl⟩
 have s1:w1.heap.size=w.heap.size+1:=by rw [hw1];simp
 have s2:w2.heap.size=w.heap.size+1+1:=by rw [hw2];simp;omega
 have hsz:wl.heap.size=w.heap.size+3:=by rw [hwl];simp;omega
 have k1:Below w.heap.size w w1:=by rw [hw1];exact bA (bW _) _
 have k2:Below w1.heap.size w1 w2:=by rw [hw2];exact bA (bW _) _
 have k3:Below w2.heap.size w2 wl:=by rw [hwl];exact bA (bW _) _
 have hb0:Below w.heap.size w wl:=bN (bN k1 k2) k3
 have hbx:wl.cell? ⟨w.heap.size+1+1,0,none⟩=some (.slice ao n cap):=by
  have:wl.heap[w.heap.size+1+1]?=some (.cells #[.slice ao n cap] 58 (0,0)):=by rw [hwl,←s2];exact World.alloc_heap_new _ _
  simp [World.cell?,this]
 have hI0:ImI w wl R L 0 wl:=by
  refine ⟨?_,⟨#[],0,?_,rfl⟩,hb0,by omega,fun b hb hx=>rfl⟩
  ·rw [k3.block _ (by omega),hw2,←s1];exact World.alloc_heap_new _ _
  ·rw [k3.block _ (by omega),k2.block _ (by omega),hw1];exact World.alloc_heap_new _ _
 have hv':VRep (ImR w R) wl (.lst (L.map Bd.cv)) (.slice ao L.length cap):=HV.out.keep fun b o u hu hc=>by
  have hlt:=World.block_lt_of_cell? w _ hc
  refine ⟨.inl ⟨hu,hlt⟩,?_⟩
  rw [World.cell?_of_block (w:=w) (hb0.block b hlt)]
  exact hc
 obtain ⟨zv,zf,za,zm,zc,hc,hG⟩:=a6L (R:=ImR w R) (w:=wl) (L:=L) (Bb:=w.heap.size+1+1) (ob:=0) HL.out (by have:=HL.out;omega) hbx (.inr rfl) hv'
 rw [←hw1,←hw2,←hwl]
 clear hwl hw1 hw2 s1 s2 k1 k2 k3 hv' hbx hmm
 refine a6X (gf:=138) (lb := #[.pointer (some ⟨w.heap.size+1+1,0,none⟩)]) rfl (enters_of Tryz.func138 (by kernel_rfl) rfl)
  hG (fun {A B C} h1 h2 b hb hx=>(h2 b hb hx).trans (h1 b hb hx)) (fun W l o o' hl h ho b hb hx=>World.putObj_heap_other (by omega)) (fun pre x W l o o' hl hx h ho=>hx) (fun x=>rfl)
  (fun pre W=>ImI w wl R L pre.length W) (fun pre A B h hb=>h.up (fun b hb'=>hb.block b (by have:=h.2.2.2.1;omega)) ⟨hb.os,hb.tape,hb.output,hb.size,fun b hb'=>hb.block b (by have:=h.2.2.2.1;omega)⟩) (fun pre A l o o' h hl h1 h2=>h.up (fun b hb'=>World.putObj_heap_other (by omega)) (Q9 o' (by omega) h1 h2).1) hI0
  (fun x b=>{ tmps := #[.slice ao n cap,undef,.nilFunc,.pointer (some ⟨w.heap.size+1,0,none⟩),undef,.pointer (some ⟨b,0,none⟩),.slice ao n cap,.int .i64 n,.bool (decide ((n:Int)≤64)),undef,undef,.slice ao n cap,.int .i64 n,.map (some w.heap.size),.slice ao n cap,.func (.func 138) #[] #[.pointer (some ⟨w.heap.size+1+1,0,none⟩)],.int .i64 ((n:Int)-1-x),.agg #[.int .i64 (zv x),.int .i64 (zf x),.slice (za x) (zm x) (zc x)],undef,undef,undef,undef,undef,undef],defers:=[] })
  (fun x => .cells #[.int .i64 (zv x),.int .i64 (zf x),.slice (za x) (zm x) (zc x)] 99 (0,0)) (fun V x hV b hb hx=>(bA (bW V) _).block b (by omega)) (fun pre x V hx=>hx) ?assign ?body ?done
 case assign =>
  intro l x W K hK
  gi_wp2
  exact hK
 case body =>
  rintro l pre x W b hb hbx' hI ⟨hx,hxl⟩
  obtain ⟨bd,hbd⟩:∃ bd,L[n-1-x]?=some bd:=⟨L[n-1-x]'(by have:=HL.out;omega),List.getElem?_eq_getElem _⟩
  obtain ⟨g0,g1⟩:=b1k (hc _ _ hxl hbd)
  have hvW:VRep (ImR w R) W bd.t.cw (.agg #[.int .i64 (zf x),.slice (za x) (zm x) (zc x)]):=by
   refine g1.keep fun b o u hu hcc=>⟨hu,?_⟩
   rw [World.cell?_of_block (w:=wl) (hI.2.2.2.2 b (a4k hu).1 fun hn=>hn ⟨o,hu⟩)]
   exact hcc
  rw [g0] at hbx'
  rw [g0]
  have HI:=hid hI
  obtain ⟨i1,⟨es,clock,i2,i3⟩,i4,i5,i6⟩:=hI
  obtain ⟨es',clock',hrun,hE⟩:=b6U (P:=Tryz.prog) (t:=146) (k := .i64) (i:=bd.v) Tryz.underlying146 Tryz.underlying3 i2 i3 (a3I _) hvW
  have e0:W.cell? ⟨b,0,none⟩=some (.int .i64 bd.v):=by simp [World.cell?,hbx']
  have e1:W.cell? ⟨b,1,none⟩=some (.int .i64 (zf x)):=by simp [World.cell?,hbx']
  have e2:W.cell? ⟨b,2,none⟩=some (.slice (za x) (zm x) (zc x)):=by simp [World.cell?,hbx']
  have em:W.cell? ⟨w.heap.size+1,0,none⟩=some (.map (some w.heap.size)):=by simp [World.cell?,i1]
  have HX:Hid (x=pre.length∧x<n):=⟨hx,hxl⟩
  have HB:=hid hbd
  have HE:=hid hE
  have H2:=hid i2
  clear hx hxl hbd hE i1 i2 i3 i4 i6 hc hG hI0 g0 g1 hvW hbx'
  gi_wp2_with (gi_at_mapUpdate;refine a2f _ rfl _ _ _ 146 rfl rfl rfl rfl hrun ?_)
  obtain ⟨hx,hxl⟩:=HX.out
  obtain ⟨q1,q2⟩:=heap_set (o':=Obj.map es' clock') H2.out
  refine ⟨⟨by simp,fun g o hg1 hg2 ho=>by rw [q2 g (by omega)];exact hg2⟩,fun b hb hx=>?_,?_⟩
  ·obtain ⟨o,ho⟩:=Classical.not_not.1 hx
   exact q2 b (a4k ho).2
  ·rw [List.length_append]
   have hB2:=HB.out
   rw [HL.out,hx] at hB2
   exact ImI.put HI.out hB2 (by have:=HL.out;omega) HE.out
 case done =>
  rintro D xs W hD hS hI hK
  gi_wp2
  refine ⟨by simp,.inl ⟨_,_,rfl,run_takeDeferred hK,?_⟩⟩
  have hI2:=hI.up (W':=W.putObj D (.deferred none)) (fun b hb'=>World.putObj_heap_other (by omega)) (Q9 _ (by omega) hK rfl).1
  rw [hS,List.length_range,HL.out] at hI2
  obtain ⟨j1,⟨es,clock,j2,j3⟩,j4,_,_⟩:=hI2
  refine ⟨_,results_tmp rfl _ _ _,w.heap.size+1,w.heap.size,rfl,⟨by simp [World.cell?,j1],es,clock,j2,j3.keep fun b o u hu hc=>⟨?_,hc⟩⟩,j4⟩
  rcases hu with h | h
  ·exact .inl h.1
  ·exact .inr (by omega)
theorem a9R {P:Program} (w:World) {ops:Array Oper} {o:Oper} {a:Act} {K:Act→World→Prop} {Q:Exit→Act→World→Prop} {E:Prop} (hgd:Region.wanted o (yielded ops a.tmps)=true) (f:Nat) (x y:Operand) (ts:Array TypeId)
  (ho:o.op = .call { callee := .value (.func f),args := #[x,y],argTypes:=ts }) (eg:∀ args w,(callFunc f args).run P w = .ok (.enter f args) w) (v u:Value) (hx:a.eval x=v) (hy:a.eval y=u) {R:Ending→World→Prop} (hc:Calls P f #[v,u] w R) (h:∀ e w',R e w'→∃ u,e = .returned u∧K (a.put o.dst u) w') :
  if Region.wanted o (yielded ops a.tmps)=true then Oper.wp P o a w K Q else E:=by
 rw [if_pos hgd]
 unfold Oper.wp
 have he:(execOp a.eval o).run P w = .ok (.enter f #[v,u]) w:=by
  have hf:a.eval (.func f) = .func (.func f) #[] #[]:=rfl
  generalize a.eval=ρ at hf hx hy ⊢
  simp [execOp,ho,resolve,invoke,Deferred.ofValue,hf,hx,hy,eg]
 rw [he,Oper.upon_enter]
 refine hc.mono ?_
 rintro e w' hr
 obtain ⟨u,rfl,hk⟩:=h e w' hr
 exact hk
theorem a7j {tmps:Array Value} {w:World} {g:Nat} {x y:Value} (hp:tmps.getD 4 undef = .pointer (some ⟨g,0,none⟩)) (hg:w.heap[g]?=some (.cells #[x,y] 42 (0,0))) :
  (results Tryz.f50 tmps).run Tryz.prog w = .ok (.agg #[x,y]) w:=by
 have hp':tmps[4]?.getD undef = .pointer (some ⟨g,0,none⟩):=by simpa using hp
 simp [results,hp',asAddr,run_loadVar_row w g _ 42 #[x,y] (0,0) _ hg Tryz.underlying42 rfl a0l]
set_option maxRecDepth 100000 in
set_option maxHeartbeats 4000000 in
theorem a9f (W:World) (L:List Bd) (t:Tm) (hl:64<L.length) (hl2:L.length≤1000000000) (hb:bdsOk L) (hr:t.rng) (hok:t.ok):AFun Tryz.prog W 50 [.lst (L.map Bd.cv),t.cw] (.val (a9 (b5 L) t).cw):=by
 refine ⟨C1 Tryz.func50 rfl rfl,.inl rfl,rfl,fun U w vs _ hv=>?_⟩
 obtain ⟨sv,vs1,rfl,hv1,tv,vs2,rfl,hv2,hv3⟩:=hv
 have hv3:vs2=[]:=hv3
 subst hv3
 obtain ⟨ao,n,cap,e1,e2,_⟩:=j5.1 hv1
 subst e1
 rw [List.length_map] at e2
 obtain ⟨xs,e3,hx3⟩:=H6.1 hv2
 obtain ⟨u1,u2,rfl⟩:∃ u1 u2,xs=[u1,u2]:=by
  have h3:xs.length=2:=(F5.2 hx3).len
  match xs,h3 with
  | [u1,u2],_=>exact ⟨u1,u2,rfl⟩
 subst e3
 obtain ⟨g1,ta,tm,tc,g2⟩:=a3F hv2
 subst g1;subst g2
 have hv1':VRep U w (.lst (L.map Bd.cv)) (.slice ao L.length cap):=by rw [←e2];exact hv1
 have HImg:Hid (∀ V:World,Below w.heap.size w V→w.heap.size+2≤V.heap.size→Calls Tryz.prog 75 #[.slice ao n cap] V fun e W'=>∃ b g,e = .returned (.func (.func 112) #[] #[.pointer (some ⟨b,0,none⟩)])∧a7K b g ((a2v L L.length).map imR) (fun b o=>(U b o∧b<w.heap.size)∨w.heap.size+2≤b) W'∧Below V.heap.size V W'):=fun V hV hV2 =>
  Calls.mono (callsIn_wide.1 (b2C (R:=fun b o=>U b o∧b<w.heap.size) L e2 (hv1'.keep fun b o u hu hc=>⟨⟨hu,World.block_lt_of_cell? w _ hc⟩,by
   rw [World.cell?_of_block (w:=w) (hV.block b (World.block_lt_of_cell? w _ hc))];exact hc⟩) (by omega) (by omega))) fun e W' ⟨b,g,k1,⟨k2,es,ck,k3,k4⟩,k5⟩=>⟨b,g,k1,⟨k2,es,ck,k3,k4.keep fun b o u hu hc=>⟨hu.imp id fun h=>by omega,hc⟩⟩,k5⟩
 have HRep:Hid (∀ (V:World) (b g:Nat),Below w.heap.size w V→w.heap.size+2≤V.heap.size→a7K b g ((a2v L L.length).map imR) (fun b o=>(U b o∧b<w.heap.size)∨w.heap.size+2≤b) V→Calls Tryz.prog 59 #[.agg #[.int .i64 t.f,.slice ta tm tc],.func (.func 112) #[] #[.pointer (some ⟨b,0,none⟩)]] V fun e W'=>∃ a m c,e = .returned (.agg #[.int .i64 (a9 (b5 L) t).f,.slice a m c])∧VRep (fun b o=>(U b o∧b<w.heap.size)∨w.heap.size+2≤b) W' (a9 (b5 L) t).cw (.agg #[.int .i64 (a9 (b5 L) t).f,.slice a m c])∧Below V.heap.size V W'):=fun V b g hV hV2 hq=>by
  have hI:∀ v,0≤v→v≤9223372036854775807→a6K Tryz.prog (a7K b g ((a2v L L.length).map imR)) (.fn 112 0 [.sc (.pointer (some ⟨b,0,none⟩))]) [.i v] (.val (b5 L v).cw)∧(b5 L v).rng∧(b5 L v).size≤90000000000:=fun v h1 h2=>by
   refine ⟨⟨_,_,_,rfl,?_⟩,a1a hb h1 h2⟩
   have h3:=b3r b g (a2v L L.length) v h1 h2
   rw [show b5 (a2v L L.length) v=b5 L v by unfold b5;rw [b2I]] at h3
   exact h3
  have h4:=(a5D (a3v b g _) _ (b5 L) hI t hr hok).2.2.2 (fun b o=>(U b o∧b<w.heap.size)∨w.heap.size+2≤b) V [.agg #[.int .i64 t.f,.slice ta tm tc],.func (.func 112) #[] #[.pointer (some ⟨b,0,none⟩)]] hq ⟨_,_,rfl,hv2.keep fun b o u hu hc=>⟨.inl ⟨hu,World.block_lt_of_cell? w _ hc⟩,by
   rw [World.cell?_of_block (w:=w) (hV.block b (World.block_lt_of_cell? w _ hc))];exact hc⟩,_,_,rfl,a1h.2 ⟨[],[.pointer (some ⟨b,0,none⟩)],rfl,rfl,⟨[_],[],rfl,M1.2 ⟨rfl,rfl⟩,rfl⟩,fun c hc=>by simp at hc;subst hc;simp [CV.sc]⟩,rfl⟩
  refine Calls.mono h4 ?_
  rintro e W' ⟨v,rfl,hR,hB⟩
  have hR:VRep (fun b o=>((U b o∧b<w.heap.size)∨w.heap.size+2≤b)∨V.heap.size≤b) W' (a9 (b5 L) t).cw v:=hR
  have hR:=hR.keep (V:=fun b o=>(U b o∧b<w.heap.size)∨w.heap.size+2≤b) (w':=W') fun b o u hu hc=>⟨hu.elim id fun h => .inr (by omega),hc⟩
  obtain ⟨xs,e3,hx3⟩:=H6.1 hR
  obtain ⟨u1,u2,rfl⟩:∃ u1 u2,xs=[u1,u2]:=by
   have h3:xs.length=2:=(F5.2 hx3).len
   match xs,h3 with
   | [u1,u2],_=>exact ⟨u1,u2,rfl⟩
  subst e3
  obtain ⟨g1,a,m,c,g2⟩:=a3F hR
  subst g1;subst g2
  exact ⟨a,m,c,rfl,hR,hB⟩
 clear hv1 hv1' hv2 hx3 hb hr hok hl hl2 e2
 show Calls Tryz.prog 50 #[.slice ao n cap,.agg #[.int .i64 t.f,.slice ta tm tc]] w _
 refine calls_of_wp Tryz.func50 rfl ?_
 simp only [Tryz.ntmps50,List.size_toArray,List.length_cons,List.length_nil,Nat.reduceAdd,Nat.reduceSub,Array.replicate_succ,Array.replicate_zero,List.push_toArray,List.append_toArray,List.nil_append,List.cons_append]
 go_wp2_with fail
 obtain ⟨w2,hw2⟩:∃ w2,w2=(w.alloc (.cells #[.int .i64 t.f,.slice ta tm tc] 42)).alloc (.cells #[.int .i64 0,.slice none 0 0] 42):=⟨_,rfl⟩
 have hsz:w2.heap.size=w.heap.size+2:=by rw [hw2];simp
 have hb2:Below w.heap.size w w2:=by rw [hw2];exact bA (bA (bW _) _) _
 have y1:w2.heap[w.heap.size]?=some (.cells #[.int .i64 t.f,.slice ta tm tc] 42 (0,0)):=by
  rw [hw2,Below.heap_alloc _ _ _ (by simp)];exact World.alloc_heap_new _ _
 have y2:w2.heap[w.heap.size+1]?=some (.cells #[.int .i64 0,.slice none 0 0] 42 (0,0)):=by
  rw [hw2,show w.heap.size+1=(w.alloc (.cells #[.int .i64 t.f,.slice ta tm tc] 42)).heap.size by simp];exact World.alloc_heap_new _ _
 have hs3:w2.drew.heap.size=w.heap.size+2:=hsz
 have hb3:Below w.heap.size w w2.drew:=hb2.drew
 have HB3:=hid hb3
 have HY1:=hid (show w2.drew.heap[w.heap.size]?=_ from y1)
 have HY2:=hid (show w2.drew.heap[w.heap.size+1]?=_ from y2)
 obtain ⟨d1,d2⟩:=b3b (show w2.drew.heap[w.heap.size]?=_ from y1)
 rw [←hw2]
 clear hw2 hb2 hb3 y1 y2
 go_region_law (first
  | (refine b1v _ rfl 75 _ _ rfl (enters_of Tryz.func75 (by kernel_rfl) rfl) (.slice ao n cap) rfl (HImg.out _ HB3.out (by omega)) ?_;rintro e w5 ⟨b,g,rfl,hq5,hb5⟩;refine ⟨_,rfl,?_⟩;have hB5:Below w.heap.size w w5:=HB3.out.trans (hb5.mono (by omega));have hs5:=hb5.size;have x2:=(hb5.block _ (by omega)).trans HY2.out;obtain ⟨f1,f2⟩:=b3b ((hb5.block _ (by omega)).trans HY1.out))
  | (refine a9R _ rfl 59 _ _ _ rfl (enters_of Tryz.func59 (by kernel_rfl) rfl) (.agg #[.int .i64 t.f,.slice ta tm tc]) (.func (.func 112) #[] #[.pointer (some ⟨b,0,none⟩)]) rfl rfl (HRep.out _ b g hB5 (by omega) hq5) ?_;rintro e w6 ⟨a6,m6,c6,rfl,hR6,hb6⟩;refine ⟨_,rfl,?_⟩;have hB6:Below w.heap.size w w6:=hB5.trans (hb6.mono (by omega));have z6:=(hb6.block _ (by omega)).trans x2;obtain ⟨f3,f4⟩:=b3b z6;obtain ⟨f5,f6⟩:=a2z z6))
 all_goals go_wp2_with fail
 all_goals refine bodyPost_ret (a7j (g:=w.heap.size+1) rfl (a5n z6 _ _)) rfl ?_
 all_goals refine ⟨_,rfl,?_,(hB6.setCell (p:=⟨w.heap.size+1,0,none⟩) (by show w.heap.size≤w.heap.size+1;omega) _).setCell (p:=⟨w.heap.size+1,1,none⟩) (by show w.heap.size≤w.heap.size+1;omega) _⟩
 all_goals refine VRep.keep (fun b' o u hu hc=>⟨hu.elim (fun h => .inl h.1) (fun h => .inr (by omega)),?_⟩) hR6
 all_goals have hne:b'≠w.heap.size+1:=by rcases hu with h | h<;>omega
 all_goals rw [World.cell?_of_block (w:=w6) (by rw [Below.heap_setCell _ _ _ _ hne,Below.heap_setCell _ _ _ _ hne])]
 all_goals exact hc
theorem a9E (W:World) (L:List Bd) (t:Tm) (hl:L.length≤1000000000) (hb:bdsOk L) (hr:t.rng) (hok:t.ok):AFun Tryz.prog W 50 [.lst (L.map Bd.cv),t.cw] (.val (a9 (b5 L) t).cw):=by
 by_cases h:L.length≤64
 ·exact b1u W L t h hb hr hok
 ·exact a9f W L t (by omega) hl hb hr hok
end Go.Proofs.YtglmoficcjphaaaGreat
namespace Go.Proofs.YtglmoficcjphaaaGreat
open Go.RowKit
set_option linter.unusedVariables false
set_option linter.unusedSimpArgs false
set_option maxRecDepth 100000
def C6 (c:List Lt):List Tm:=c.flatMap fun l=>[l.a,l.b]
theorem b2M (c:List Lt) (l:Lt):C6 (c++[l])=C6 c++[l.a,l.b]:=by simp [C6]
theorem a3J (c:List Lt):(C6 c).length=2*c.length:=by
 induction c with
 | nil=>rfl
 | cons l c ih =>
  have:C6 (l::c)=l.a::l.b::C6 c:=rfl
  rw [this]
  simp only [List.length_cons,ih]
  omega
theorem b2h (c:List Lt) (k:Nat):(C6 (c.take k)).length≤2*c.length:=by
 rw [a3J,List.length_take];omega
theorem a9P (W:World) (c:List Lt) (hn:c.length≤1000000):AFun Tryz.prog W 41 [.lst (c.map Lt.cv)] (.val (Tm.cw ⟨0,C6 c⟩)):=by
 have hsz:=Lt.size_all c
 refine b6 (rs:=[Tm.cw ⟨0,C6 c⟩]) Tryz.func41 Tryz.ntmps41 rfl rfl rfl rfl ?_
 intro w U hW
 refine aS (aR ?_)
 refine nc zk ?_
 refine aS (aR ?_)
 refine nc ze ?_
 refine aS (aS (aR ?_))
 refine nc zl (nc zp (nc zl ?_))
 refine aB (o5 c.length (fun k=>[(2,.bp 2 0 []),(100002,⟨5,.row [.i 0,.lst []],1,0,[1]⟩),(3,.own (.lst ((C6 (c.take k)).map Tm.cv)) 200018),(200018,.tok 42 2),(6,.val (.lst (c.map Lt.cv))),(7,.val (.i (c.map Lt.cv).length)),(8,.val (.i k))])
  ((O6 3 200018 42 2 rfl rfl rfl rfl rfl rfl rfl).trans (a7 ⟨rfl,rfl,rfl,rfl,rfl,rfl,rfl,trivial⟩)) ?_)
 intro k hk
 refine aS (aR ?_)
 refine nc zi ?_
 refine aS (aC rfl (fun hlt=>?_) (fun hlt=>?_))
 ·have hkl:k<c.length:=by simpa using hlt
  obtain ⟨x,hx⟩:∃ x,c[k]?=some x:=⟨c[k],List.getElem?_eq_getElem hkl⟩
  have hx':=Lt.map_at hx
  have hlen:=b2h c k
  have hsz2:∀ y∈(C6 (c.take k)).map Tm.cv,y.size=2:=Tm.size_all _
  have hl3:((C6 (c.take k)).map Tm.cv).length≤2*c.length:=by rw [List.length_map];exact hlen
  refine aK ?_
  refine aS (aB (aS (aR ?_)))
  refine nc (zq (j:=k) (H:=hx') (hz:=hsz)) (nc zr (nc zk (nc zo ?_)))
  refine aR ?_
  refine nc zl (nc zg (nc zh (nc zg (nc zh (nc zD (nc zE (nc ze ?_)))))))
  refine aR ?_
  refine nc zu (nc zl ?_)
  refine ⟨hkl,Wk.trans (a7 (s':=[(2,.bp 2 0 []),(100002,⟨5,.row [.i 0,.lst []],1,0,[1]⟩),(3,.own (.lst ((C6 (c.take (k+1))).map Tm.cv)) 300018),(300018,.tok 42 2),(6,.val (.lst (c.map Lt.cv))),(7,.val (.i (c.map Lt.cv).length)),(8,.val (.i ((k+1:Nat):Int)))]) ⟨rfl,rfl,?_,rfl,rfl,rfl,rfl,trivial⟩) (C3 300018 200018 rfl rfl rfl rfl)⟩
  rw [List.take_add_one,hx]
  simp only [Option.toList_some,b2M,List.map_append,List.map_cons,List.map_nil,Tm.cv_eq]
  rfl
 ·have hkl:k=c.length:=by
   have:¬ k<c.length:=by simpa using hlt
   omega
  subst hkl
  rw [List.take_length]
  refine aE ?_
  refine aS (aR ?_)
  refine nc zl (nc zn (nc zo ?_))
  exact aT (And.intro (.inr rfl) rfl)
theorem b0V:∀ {c:List Lt} {k:Nat} {l:Lt},c[k]?=some l→(C6 c)[2*k]?=some l.a∧(C6 c)[2*k+1]?=some l.b
 | [],k,l,h=>by simp at h
 | x::c,0,l,h=>by
  simp at h
  subst h
  exact ⟨rfl,rfl⟩
 | x::c,k+1,l,h=>by
  have:=b0V (c:=c) (k:=k) (l:=l) (by simpa using h)
  have e:C6 (x::c)=x.a::x.b::C6 c:=rfl
  rw [e,show 2*(k+1)=2*k+1+1 by omega]
  simpa using this
theorem b2F (W:World) (c d:List Lt) (f:Int) (hn:c.length≤1000000) (hcd:d.map Lt.neg=c.map Lt.neg):AFun Tryz.prog W 39 [.lst (c.map Lt.cv),Tm.cw ⟨f,C6 d⟩] (.val (.lst (d.map Lt.cv))):=by
 have hsz:=Lt.size_all c
 have hszT:=Tm.size_all (C6 d)
 have hlen:d.length=c.length:=by have:=congrArg List.length hcd;simpa using this
 refine b6 (rs:=[.lst (d.map Lt.cv)]) Tryz.func39 Tryz.ntmps39 rfl rfl rfl rfl ?_
 intro w U hW
 refine aS (aR ?_)
 refine nc zd (nc ze ?_)
 refine aS (aR ?_)
 refine nc ze ?_
 refine aS (aS (aR ?_))
 refine nc zl (nc zp (nc zl ?_))
 refine aB (o5 c.length (fun k=>[(3,.bp 3 0 []),(100003,.bx (Tm.cw ⟨f,C6 d⟩)),(5,.own (.lst ((d.take k).map Lt.cv)) 200033),(200033,.tok 44 5),(8,.val (.lst (c.map Lt.cv))),(9,.val (.i (c.map Lt.cv).length)),(10,.val (.i k))])
  ((O6 5 200033 44 5 rfl rfl rfl rfl rfl rfl rfl).trans (a7 ⟨rfl,rfl,rfl,rfl,rfl,rfl,rfl,trivial⟩)) ?_)
 intro k hk
 refine aS (aR ?_)
 refine nc zi ?_
 refine aS (aC rfl (fun hlt=>?_) (fun hlt=>?_))
 ·have hkl:k<c.length:=by simpa using hlt
  obtain ⟨x,hx⟩:∃ x,c[k]?=some x:=⟨c[k],List.getElem?_eq_getElem hkl⟩
  obtain ⟨y,hy⟩:∃ y,d[k]?=some y:=⟨d[k],List.getElem?_eq_getElem (by omega)⟩
  have hneg:x.neg=y.neg:=by
   have:=congrArg (fun l=>l[k]?) hcd
   simp only [List.getElem?_map,hx,hy,Option.map_some] at this
   injection this with this
   exact this.symm
  obtain ⟨n1,a1,b1⟩:=x
  simp only at hneg
  subst hneg
  have hx':=Lt.map_at hx
  obtain ⟨ha,hb⟩:=b0V hy
  have ha':=Tm.map_at ha
  have hb':=Tm.map_at hb
  have hsz2:∀ z∈(d.take k).map Lt.cv,z.size=5:=Lt.size_all _
  have hl3:((d.take k).map Lt.cv).length≤1000000:=by rw [List.length_map,List.length_take];omega
  refine aK ?_
  refine aS (aB (aS (aR ?_)))
  refine nc zl (nc (zq (j:=k) (H:=hx') (hz:=hsz)) (nc zr (nc zk (nc ze (nc zo ?_)))))
  refine aD (by kernel_rfl) (by kernel_rfl) ?_
  refine nc zl (nc zg (nc zh (nc zg (nc zh (nc zl (nc zbr (nc (zq (j:=(2*k)) (H:=ha') (hz:=hszT)) (nc zr (nc zg (nc zh (nc zl (nc zbr (nc zu (nc (zq (j:=(2*k+1)) (H:=hb') (hz:=hszT)) (nc zr (nc zn (nc zD (nc zE (nc ze ?_)))))))))))))))))))
  refine ⟨by kernel_rfl,?_⟩
  refine aR ?_
  refine nc zu (nc zl ?_)
  refine ⟨hkl,Wk.trans (a7 (s':=[(3,.bp 3 0 []),(100003,.bx (Tm.cw ⟨f,C6 d⟩)),(5,.own (.lst ((d.take (k+1)).map Lt.cv)) 300033),(300033,.tok 44 5),(8,.val (.lst (c.map Lt.cv))),(9,.val (.i (c.map Lt.cv).length)),(10,.val (.i ((k+1:Nat):Int)))]) ⟨rfl,rfl,?_,rfl,rfl,rfl,rfl,trivial⟩) (C3 300033 200033 rfl rfl rfl rfl)⟩
  rw [List.take_add_one,hy]
  simp only [Option.toList_some,List.map_append,List.map_cons,List.map_nil]
  rfl
 ·have hkl:k=d.length:=by
   have:¬ k<c.length:=by simpa using hlt
   omega
  subst hkl
  rw [List.take_length]
  refine aE ?_
  refine aS (aR ?_)
  refine nc zl (nc ze ?_)
  exact aT (And.intro (.inr rfl) rfl)
def Lt.rep (img:Int→Tm) (l:Lt):Lt:=⟨l.neg,a9 img l.a,a9 img l.b⟩
theorem a8b (img:Int→Tm):∀ c:List Lt,(C6 c).map (a9 img)=C6 (c.map (Lt.rep img))
 | []=>rfl
 | l::c=>by
  show a9 img l.a::a9 img l.b::(C6 c).map (a9 img)=_
  rw [a8b img c]
  rfl
theorem b2s (img:Int→Tm) (c:List Lt):a9 img ⟨0,C6 c⟩=⟨0,C6 (c.map (Lt.rep img))⟩:=by
 rw [d8 (show ¬ (0:Int)<0 by decide),a8b]
theorem b6W (img:Int→Tm) (c:List Lt):(c.map (Lt.rep img)).map Lt.neg=c.map Lt.neg:=by
 rw [List.map_map];rfl
theorem a2r (W:World) (L:List Bd) (c:List Lt) (hn:c.length≤1000000) (hl:L.length≤1000000000) (hb:bdsOk L) (hr:(⟨0,C6 c⟩:Tm).rng) (hok:(⟨0,C6 c⟩:Tm).ok):AFun Tryz.prog W 28 [.lst (L.map Bd.cv),.lst (c.map Lt.cv)] (.val (.lst ((c.map (Lt.rep (b5 L))).map Lt.cv))):=by
 have h2:=fun w=>a9E w L ⟨0,C6 c⟩ hl hb hr hok
 rw [b2s] at h2
 refine b6 (rs:=[.lst ((c.map (Lt.rep (b5 L))).map Lt.cv)]) Tryz.func28 Tryz.ntmps28 rfl rfl rfl rfl ?_
 intro w U hW
 refine aS (aR ?_)
 refine nc ze ?_
 refine aS (aR ?_)
 refine nc zl (nc zl (nc zl (nc (zw (z:=a9P w c hn)) (nc (zw (z:=h2 w)) (nc (zw (z:=b2F w c _ 0 hn (b6W _ c))) (nc ze ?_))))))
 exact aT (And.intro (.inr rfl) rfl)
end Go.Proofs.YtglmoficcjphaaaGreat
namespace Go.Proofs.YtglmoficcjphaaaGreat
open Go.RowKit
set_option linter.unusedVariables false
set_option linter.unusedSimpArgs false
section
variable {α β:Type}
def kDn (p:α→Bool) (l:List α):Nat→Nat
 | 0=>0
 | k+1=>match l[k]? with
  | some y=>if p y=true then kDn p l k else k+1
  | none=>k+1
def b5E (lt:α→α→Bool) (l:List α) (x:α):List α:=l.take (kDn (lt x) l l.length)++x::l.drop (kDn (lt x) l l.length)
def X3 (lt:α→α→Bool) (c:List α):List α:=c.foldl (b5E lt) []
theorem b0j (p:α→Bool) (l:List α):∀ k,kDn p l k≤k
 | 0=>Nat.le_refl _
 | k+1=>by
  unfold kDn
  split
  ·split
   ·have:=b0j p l k;omega
   ·exact Nat.le_refl _
  ·exact Nat.le_refl _
theorem b0D (p:α→Bool) (l m:List α):∀ k,k≤l.length→kDn p (l++m) k=kDn p l k
 | 0,_=>rfl
 | k+1,h=>by
  unfold kDn
  rw [List.getElem?_append_left (by omega),b0D p l m k (by omega)]
theorem b7o {p:α→Bool} {l:List α} {y:α} (h:p y=true):kDn p (l++[y]) (l++[y]).length=kDn p l l.length:=by
 rw [List.length_append,List.length_singleton]
 show kDn p (l++[y]) (l.length+1)=_
 unfold kDn
 rw [List.getElem?_append_right (Nat.le_refl _),Nat.sub_self]
 simp only [List.getElem?_cons_zero,h,if_true]
 rw [b0D p l [y] l.length (Nat.le_refl _)]
 cases l.length<;>rfl
theorem b9k {p:α→Bool} {l:List α} {y:α} (h:p y=false):kDn p (l++[y]) (l++[y]).length=(l++[y]).length:=by
 rw [List.length_append,List.length_singleton]
 show kDn p (l++[y]) (l.length+1)=_
 unfold kDn
 rw [List.getElem?_append_right (Nat.le_refl _),Nat.sub_self]
 simp [h]
theorem K3 {Q:List α→Prop} (h0:Q []) (h1:∀ l x,Q l→Q (l++[x])):∀ l,Q l:=by
 intro l
 have:∀ m:List α,Q m.reverse:=fun m=>by
  induction m with
  | nil=>exact h0
  | cons x m ih=>rw [List.reverse_cons];exact h1 _ _ ih
 have:=this l.reverse
 rwa [List.reverse_reverse] at this
theorem b1V (lt:α→α→Bool) (l:List α) (x:α):(b5E lt l x).Perm (x::l):=by
 unfold b5E
 refine List.perm_middle.trans ?_
 rw [List.take_append_drop]
theorem W0 (lt:α→α→Bool) (c:List α) (x:α):X3 lt (c++[x])=b5E lt (X3 lt c) x:=by
 unfold X3
 rw [List.foldl_append]
 rfl
theorem I8 (lt:α→α→Bool) (c:List α):(X3 lt c).Perm c:=by
 induction c using K3 with
 | h0=>exact List.Perm.refl _
 | h1 c x ih =>
  rw [W0]
  refine (b1V lt _ x).trans ?_
  exact ((List.Perm.cons x ih).trans (List.perm_append_comm (l₁:=[x]) (l₂:=c)))
theorem b0C {lt1:α→Bool} {lt2:β→Bool} (g:α→β) (l:List α) (h:∀ y∈l,lt1 y=lt2 (g y)):∀ k,kDn lt1 l k=kDn lt2 (l.map g) k
 | 0=>rfl
 | k+1=>by
  unfold kDn
  rw [List.getElem?_map]
  cases hk:l[k]? with
  | none=>rfl
  | some y =>
   simp only [Option.map_some]
   rw [h y (List.mem_of_getElem? hk),b0C g l h k]
theorem b4G {lt1:α→α→Bool} {lt2:β→β→Bool} (g:α→β) (c:List α) (h:∀ x∈c,∀ y∈c,lt1 x y=lt2 (g x) (g y)):(X3 lt1 c).map g=X3 lt2 (c.map g):=by
 induction c using K3 with
 | h0=>rfl
 | h1 c x ih =>
  have ih:=ih fun x hx y hy=>h x (List.mem_append_left _ hx) y (List.mem_append_left _ hy)
  rw [W0,List.map_append,List.map_singleton,W0,←ih]
  unfold b5E
  have hk:=b0C (lt1:=lt1 x) (lt2:=lt2 (g x)) g (X3 lt1 c) (fun y hy=>h x (by simp) y (List.mem_append_left _ ((I8 lt1 c).mem_iff.1 hy))) (X3 lt1 c).length
  rw [List.length_map,←hk,List.map_append,List.map_cons,List.map_take,List.map_drop]
theorem b2Q (p:α→Bool) (l:List α):(∀ y∈l.drop (kDn p l l.length),p y=true)∧∀ y,(l.take (kDn p l l.length)).getLast?=some y→p y=false:=by
 induction l using K3 with
 | h0=>exact ⟨by simp [kDn],by simp [kDn]⟩
 | h1 l y ih =>
  cases h:p y with
  | true =>
   rw [b7o h,List.drop_append_of_le_length (b0j _ _ _),List.take_append_of_le_length (b0j _ _ _)]
   refine ⟨fun z hz=>?_,ih.2⟩
   rcases List.mem_append.1 hz with hz | hz
   ·exact ih.1 z hz
   ·rw [List.mem_singleton.1 hz];exact h
  | false =>
   rw [b9k h,List.take_length,List.drop_length]
   refine ⟨by simp,fun z hz=>?_⟩
   rw [List.getLast?_concat] at hz
   injection hz with hz
   rw [←hz];exact h
theorem Y4 {lt:α→α→Bool} {R:α→α→Prop} (c:List α) (hlt:∀ x y,lt x y=true→R x y) (htr:∀ x y z,R x y→R y z→R x z) (hin:c.Pairwise fun x y=>lt y x=false→R x y):(X3 lt c).Pairwise R:=by
 induction c using K3 with
 | h0=>exact List.Pairwise.nil
 | h1 c x ih =>
  rw [List.pairwise_append] at hin
  have ih:=ih hin.1
  have hx:∀ y∈X3 lt c,lt x y=false→R y x:=fun y hy=>hin.2.2 y ((I8 lt c).mem_iff.1 hy) x (by simp)
  rw [W0]
  obtain ⟨k1,k2⟩:=b2Q (lt x) (X3 lt c)
  unfold b5E
  generalize kDn (lt x) (X3 lt c) (X3 lt c).length=k at k1 k2
  have hall:=ih
  rw [←List.take_append_drop k (X3 lt c),List.pairwise_append] at hall
  obtain ⟨p1,p2,p3⟩:=hall
  have hbe:∀ y∈(X3 lt c).take k,R y x:=by
   intro y hy
   cases hl:((X3 lt c).take k).getLast? with
   | none =>
    rw [List.getLast?_eq_none_iff] at hl
    rw [hl] at hy;cases hy
   | some z =>
    have hz:R z x:=hx z (List.mem_of_mem_take (List.mem_of_getLast? hl)) (k2 z hl)
    obtain ⟨ys,e⟩:=List.getLast?_eq_some_iff.1 hl
    rw [e] at hy p1
    rw [List.pairwise_append] at p1
    rcases List.mem_append.1 hy with hy | hy
    ·exact htr y z x (p1.2.2 y hy z (by simp)) hz
    ·rw [List.mem_singleton.1 hy];exact hz
  rw [List.pairwise_append]
  refine ⟨p1,?_,?_⟩
  ·rw [List.pairwise_cons]
   exact ⟨fun y hy=>hlt x y (k1 y hy),p2⟩
  ·intro a ha b hb
   rcases List.mem_cons.1 hb with rfl | hb
   ·exact hbe a ha
   ·exact p3 a ha b hb
def a0Y (q:α→α→Bool) (L:List α):Nat→List α
 | 0=>[]
 | 1=>L.take 1
 | m+2=>match L[m+1]?,L[m]? with
  | some x,some y=>if q x y=true then a0Y q L (m+1) else a0Y q L (m+1)++[x]
  | _,_=>a0Y q L (m+1)
theorem b4T {q:α→α→Bool} {L:List α} {m:Nat} {x y:α} (hx:L[m+1]?=some x) (hy:L[m]?=some y) (h:q x y=true):a0Y q L (m+2)=a0Y q L (m+1):=by
 rw [a0Y,hx,hy];simp [h]
theorem b6E {q:α→α→Bool} {L:List α} {m:Nat} {x y:α} (hx:L[m+1]?=some x) (hy:L[m]?=some y) (h:q x y=false):a0Y q L (m+2)=a0Y q L (m+1)++[x]:=by
 rw [a0Y,hx,hy];simp [h]
theorem a8a {q:α→α→Bool} {L:List α}:∀ m,(a0Y q L m).Sublist (L.take m)
 | 0=>by simp [a0Y]
 | 1=>by rw [a0Y];exact List.Sublist.refl _
 | m+2=>by
  have ih:=a8a (q:=q) (L:=L) (m+1)
  have h2:(L.take (m+1)).Sublist (L.take (m+2)):=List.take_sublist_take_left (by omega)
  rw [a0Y]
  split
  ·rename_i x y hx hy
   split
   ·exact ih.trans h2
   ·rw [List.take_add_one (i:=m+1),hx]
    exact ih.append (List.Sublist.refl _)
  ·exact ih.trans h2
theorem a7o {q:α→α→Bool} {L:List α} {x:α}:∀ m,m≤L.length→(x∈a0Y q L m↔∃ i,i<m∧L[i]?=some x∧(i=0∨∃ y,L[i-1]?=some y∧q x y=false))
 | 0,_=>by simp [a0Y]
 | 1,h=>by
  rw [a0Y]
  cases L with
  | nil=>simp at h
  | cons z L =>
   simp only [List.take_succ_cons,List.take_zero,List.mem_singleton]
   constructor
   ·rintro rfl
    exact ⟨0,by omega,rfl,.inl rfl⟩
   ·rintro ⟨i,hi,h1,_⟩
    rw [show i=0 by omega] at h1
    simpa using h1.symm
 | m+2,h=>by
  have ih:=a7o (q:=q) (L:=L) (x:=x) (m+1) (by omega)
  obtain ⟨a,ha⟩:∃ a,L[m+1]?=some a:=⟨_,List.getElem?_eq_getElem (by omega)⟩
  obtain ⟨b,hb⟩:∃ b,L[m]?=some b:=⟨_,List.getElem?_eq_getElem (by omega)⟩
  cases hq:q a b with
  | true =>
   rw [b4T ha hb hq,ih]
   constructor
   ·rintro ⟨i,hi,r⟩
    exact ⟨i,by omega,r⟩
   ·rintro ⟨i,hi,h1,h2⟩
    rcases Nat.lt_or_ge i (m+1) with hlt | hge
    ·exact ⟨i,hlt,h1,h2⟩
    ·have hi:i=m+1:=by omega
     subst hi
     rw [ha] at h1
     injection h1 with h1
     rcases h2 with h2 | ⟨y,hy,h2⟩
     ·omega
     ·rw [show m+1-1=m by omega,hb] at hy
      injection hy with hy
      rw [←h1,←hy,hq] at h2
      cases h2
  | false =>
   rw [b6E ha hb hq,List.mem_append,ih,List.mem_singleton]
   constructor
   ·rintro (⟨i,hi,r⟩ | rfl)
    ·exact ⟨i,by omega,r⟩
    ·exact ⟨m+1,by omega,ha,.inr ⟨b,hb,hq⟩⟩
   ·rintro ⟨i,hi,h1,h2⟩
    rcases Nat.lt_or_ge i (m+1) with hlt | hge
    ·exact .inl ⟨i,hlt,h1,h2⟩
    ·have hi:i=m+1:=by omega
     subst hi
     rw [ha] at h1
     injection h1 with h1
     exact .inr h1.symm
def a4a (q:α→α→Bool) (c:List α):List α:=c.foldl (fun out x=>if out.any (fun y=>q y x) then out else out++[x]) []
theorem U5 (q:α→α→Bool) (c:List α) (x:α):a4a q (c++[x])=if (a4a q c).any (fun y=>q y x) then a4a q c else a4a q c++[x]:=by
 unfold a4a
 rw [List.foldl_append]
 rfl
theorem b5K:∀ {A B:List Int},A.Pairwise (·< ·)→B.Pairwise (·< ·)→(∀ x,x∈A↔x∈B)→A=B
 | [],[],_,_,_=>rfl
 | [],y::B,_,_,h=>by have:=(h y).2 (by simp);cases this
 | x::A,[],_,_,h=>by have:=(h x).1 (by simp);cases this
 | x::A,y::B,hA,hB,h=>by
  rw [List.pairwise_cons] at hA hB
  have hxy:x=y:=by
   rcases List.mem_cons.1 ((h x).1 (by simp)) with e | e
   ·exact e
   ·rcases List.mem_cons.1 ((h y).2 (by simp)) with e2 | e2
    ·exact e2.symm
    ·have:=hA.1 y e2;have:=hB.1 x e;omega
  subst hxy
  congr 1
  refine b5K hA.2 hB.2 fun z=>⟨fun hz=>?_,fun hz=>?_⟩
  ·rcases List.mem_cons.1 ((h z).1 (List.mem_cons_of_mem _ hz)) with e | e
   ·have:=hA.1 z hz;omega
   ·exact e
  ·rcases List.mem_cons.1 ((h z).2 (List.mem_cons_of_mem _ hz)) with e | e
   ·have:=hB.1 z hz;omega
   ·exact e
end
def sgZ (b:Bool):Int:=if b then 1 else 0
def A4 (x y:Lt):Int:=if y7 (sgZ x.neg) (sgZ y.neg)≠0 then y7 (sgZ x.neg) (sgZ y.neg) else a0d x y
theorem b1t (x y:Lt):a0d x y=0↔x.a.strip=y.a.strip∧x.b.strip=y.b.strip:=by
 unfold a0d
 by_cases h:v9 x.a y.a=0
 ·rw [if_neg (by simpa using h),I3]
  exact ⟨fun e=>⟨(I3 _ _).1 h,e⟩,fun e=>e.2⟩
 ·rw [if_pos h]
  exact ⟨fun e=>absurd e h,fun e=>absurd ((I3 _ _).2 e.1) h⟩
theorem b1X (x y:Lt):a0d y x = - a0d x y:=by
 unfold a0d
 rw [a5m x.a y.a,a5m x.b y.b]
 by_cases h:v9 x.a y.a=0
 ·rw [if_neg (by omega),if_neg (by omega)]
 ·rw [if_pos (by omega),if_pos (by omega)]
theorem a9J (x y z:Lt):a2P (a0d x y) (a0d y z) (a0d x z):=by
 unfold a0d
 exact a1n (a2y _ _ _) (a2y _ _ _) (fun e=>a3n ((I3 _ _).1 e) _)
theorem b4L (a b c:Bool):a2P (y7 (sgZ a) (sgZ b)) (y7 (sgZ b) (sgZ c)) (y7 (sgZ a) (sgZ c)):=by
 unfold a2P
 cases a<;>cases b<;>cases c<;>decide
theorem b7n (a b:Bool):y7 (sgZ b) (sgZ a) = - y7 (sgZ a) (sgZ b):=by cases a<;>cases b<;>decide
theorem a2p (a b:Bool):y7 (sgZ a) (sgZ b)=0↔a=b:=by cases a<;>cases b<;>decide
theorem s8 (x y:Lt):A4 x y=0↔x.strip=y.strip:=by
 obtain ⟨n,a,b⟩:=x
 obtain ⟨m,c,d⟩:=y
 unfold A4 Lt.strip
 by_cases h:n=m
 ·subst h
  rw [if_neg (by simp [a2p]),b1t]
  simp
 ·rw [if_pos (by simp only [ne_eq,a2p];exact h)]
  simp only [a2p,Lt.mk.injEq]
  exact ⟨fun e=>absurd e h,fun e=>e.1⟩
theorem Q5 (x y:Lt):A4 y x = - A4 x y:=by
 unfold A4
 rw [b7n x.neg y.neg,b1X x y]
 by_cases h:y7 (sgZ x.neg) (sgZ y.neg)=0
 ·rw [if_neg (by omega),if_neg (by omega)]
 ·rw [if_pos (by omega),if_pos (by omega)]
theorem a1Y (x y z:Lt):a2P (A4 x y) (A4 y z) (A4 x z):=by
 unfold A4
 exact a1n (b4L _ _ _) (a9J _ _ _) (fun e=>by rw [(a2p _ _).1 e])
def q5 (c:List Lt) (m:Int):Lt:=(c[m.toNat]?).getD ⟨false,⟨0,[]⟩,⟨0,[]⟩⟩
theorem b5i {c:List Lt} {k:Nat} {x:Lt} (h:c[k]?=some x):q5 c k=x:=by
 unfold q5
 rw [Int.toNat_natCast,h];rfl
def ltI (c:List Lt) (m n:Int):Bool:=decide (A4 (q5 c m) (q5 c n)<0)
def b6f (c:List Lt) (m n:Int):Bool:=decide (A4 (q5 c m) (q5 c n)=0)
def a9x (c:List Lt):List Int:=X3 (ltI c) (a3r c.length)
def b7C (c:List Lt):List Int:=a0Y (b6f c) (a9x c) (a9x c).length
def b6C (c:List Lt):List Int:=X3 (fun m n:Int=>decide (m<n)) (b7C c)
def wdL (c:List Lt):List Lt:=(b6C c).map (q5 c)
def RI (c:List Lt) (m n:Int):Prop:=A4 (q5 c m) (q5 c n)<0∨(A4 (q5 c m) (q5 c n)=0∧m<n)
theorem b3U (c:List Lt) (x y z:Int) (h1:RI c x y) (h2:RI c y z):RI c x z:=by
 have g:=a1Y (q5 c x) (q5 c y) (q5 c z)
 unfold RI at *
 unfold a2P at g
 have g:=g (by omega) (by omega)
 by_cases e:A4 (q5 c x) (q5 c z)=0
 ·have:=g.2 e
  right
  omega
 ·left;omega
theorem a8z (n:Nat):(a3r n).Pairwise (·< ·):=by
 unfold a3r
 rw [List.pairwise_map]
 exact List.pairwise_lt_range.imp fun h=>by omega
theorem T4 {n:Nat} {m:Int}:m∈a3r n↔0≤m∧m<n:=by
 unfold a3r
 rw [List.mem_map]
 constructor
 ·rintro ⟨i,hi,rfl⟩
  have:=List.mem_range.1 hi
  omega
 ·intro h
  exact ⟨m.toNat,List.mem_range.2 (by omega),by omega⟩
theorem b0E (c:List Lt):(a9x c).Pairwise (RI c):=by
 refine Y4 _ (fun x y h => .inl (by simpa [ltI] using h)) (b3U c) ?_
 refine (a8z c.length).imp fun {x y} hxy h=>?_
 have h:¬ A4 (q5 c y) (q5 c x)<0:=by simpa [ltI] using h
 rw [Q5 (q5 c x) (q5 c y)] at h
 unfold RI
 omega
theorem a0G (c:List Lt) (m:Int):m∈a9x c↔0≤m∧m<c.length:=by
 unfold a9x
 rw [(I8 _ _).mem_iff,T4]
def a5Q (c:List Lt) (m:Int):Prop:=∀ k:Int,0≤k→k<m→A4 (q5 c k) (q5 c m)≠0
theorem b2X {α:Type} {R:α→α→Prop} {l:List α} (h:l.Pairwise R) {i j:Nat} {x y:α} (hx:l[i]?=some x) (hy:l[j]?=some y) (hij:i<j):R x y:=by
 obtain ⟨h1,rfl⟩:=List.getElem?_eq_some_iff.1 hx
 obtain ⟨h2,rfl⟩:=List.getElem?_eq_some_iff.1 hy
 exact List.pairwise_iff_getElem.1 h i j h1 h2 hij
theorem b4N (c:List Lt) (m:Int):m∈b7C c↔(0≤m∧m<c.length)∧a5Q c m:=by
 have hpw:=b0E c
 unfold b7C
 rw [a7o _ (Nat.le_refl _)]
 constructor
 ·rintro ⟨i,hi,h1,h2⟩
  have hm:=(a0G c m).1 (List.mem_of_getElem? h1)
  refine ⟨hm,fun k hk0 hkm e=>?_⟩
  obtain ⟨j,hj,ej⟩:=List.mem_iff_getElem.1 ((a0G c k).2 ⟨hk0,by omega⟩)
  have hj':(a9x c)[j]?=some k:=by rw [List.getElem?_eq_getElem hj,ej]
  have e2:=Q5 (q5 c k) (q5 c m)
  rcases Nat.lt_trichotomy j i with hlt | heq | hgt
  ·rcases h2 with h2 | ⟨y,hy,h2⟩
   ·omega
   ·have h2:¬ A4 (q5 c m) (q5 c y)=0:=by simpa [b6f] using h2
    have e3:=Q5 (q5 c m) (q5 c y)
    have r1:=b2X hpw hy h1 (by omega)
    rcases Nat.lt_or_ge j (i-1) with h3 | h3
    ·have r2:=b2X hpw hj' hy h3
     have g:=a1Y (q5 c k) (q5 c y) (q5 c m)
     unfold a2P at g
     unfold RI at r1 r2
     have g:=(g (by omega) (by omega)).2 e
     omega
    ·have:j=i-1:=by omega
     subst this
     rw [hy] at hj'
     injection hj' with hj'
     rw [hj'] at h2
     omega
  ·rw [heq,h1] at hj'
   injection hj' with hj'
   omega
  ·have r:=b2X hpw h1 hj' hgt
   unfold RI at r
   omega
 ·rintro ⟨hm,hf⟩
  obtain ⟨i,hi,ei⟩:=List.mem_iff_getElem.1 ((a0G c m).2 hm)
  have hi':(a9x c)[i]?=some m:=by rw [List.getElem?_eq_getElem hi,ei]
  refine ⟨i,hi,hi',?_⟩
  by_cases h0:i=0
  ·exact .inl h0
  ·obtain ⟨y,hy⟩:∃ y,(a9x c)[i-1]?=some y:=⟨_,List.getElem?_eq_getElem (by omega)⟩
   refine .inr ⟨y,hy,?_⟩
   have r:=b2X hpw hy hi' (by omega)
   have hym:=(a0G c y).1 (List.mem_of_getElem? hy)
   have e3:=Q5 (q5 c m) (q5 c y)
   unfold b6f
   rw [decide_eq_false_iff_not]
   intro e
   unfold RI at r
   exact hf y hym.1 (by omega) (by omega)
theorem a9r (c:List Lt):(b7C c).Pairwise (·≠ ·):=by
 have h1:(a9x c).Pairwise (·≠ ·):=(b0E c).imp fun {x y} h e=>by
  subst e
  unfold RI at h
  have:=(s8 (q5 c x) (q5 c x)).2 rfl
  omega
 unfold b7C
 refine List.Pairwise.sublist (a8a _) ?_
 rw [List.take_length]
 exact h1
theorem b4e (c:List Lt):(b6C c).Pairwise (·< ·):=by
 refine Y4 _ (fun x y h=>by simpa using h) (fun x y z h1 h2=>by omega) ?_
 exact (a9r c).imp fun {x y} hne h=>by
  have h:¬ y<x:=by simpa using h
  omega
theorem b4v (c:List Lt) (m:Int):m∈b6C c↔(0≤m∧m<c.length)∧a5Q c m:=by
 unfold b6C
 rw [(I8 _ _).mem_iff,b4N]
open Classical in
noncomputable def a6u (c:List Lt) (k:Nat):List Int:=(a3r k).filter fun m=>decide (a5Q c m)
open Classical in
theorem b6Z (c:List Lt):b6C c=a6u c c.length:=by
 refine b5K (b4e c) ?_ fun m=>?_
 ·unfold a6u
  exact (a8z _).filter _
 ·unfold a6u
  rw [b4v,List.mem_filter,T4,decide_eq_true_iff]
theorem b8U (c:List Lt):∀ (n:Nat),∃ i:Nat,i≤n∧a5Q c i∧A4 (q5 c i) (q5 c n)=0:=by
 intro n
 induction n using Nat.strongRecOn with
 | ind n ih =>
  by_cases h:a5Q c n
  ·exact ⟨n,Nat.le_refl _,h,(s8 _ _).2 rfl⟩
  ·unfold a5Q at h
   simp only [Classical.not_forall,ne_eq,Decidable.not_not] at h
   obtain ⟨k,hk0,hkn,e⟩:=h
   obtain ⟨i,hi,hf,e2⟩:=ih k.toNat (by omega)
   rw [Int.toNat_of_nonneg hk0] at e2
   exact ⟨i,by omega,hf,(s8 _ _).2 (((s8 _ _).1 e2).trans ((s8 _ _).1 e))⟩
def smL (x y:Lt):Bool:=decide (A4 x y=0)
theorem b2S (k:Nat):a3r (k+1)=a3r k++[(k:Int)]:=by
 unfold a3r
 rw [List.range_succ,List.map_append];rfl
open Classical in
theorem a8j (c:List Lt):∀ k,k≤c.length→a4a smL (c.take k)=(a6u c k).map (q5 c)
 | 0,_=>by
  unfold a6u a3r
  simp [a4a]
 | k+1,h=>by
  obtain ⟨x,hx⟩:∃ x,c[k]?=some x:=⟨_,List.getElem?_eq_getElem (by omega)⟩
  have hl:=b5i hx
  rw [List.take_add_one,hx,Option.toList_some,U5,a8j c k (by omega)]
  have hs:a6u c (k+1)=a6u c k++(if a5Q c k then [(k:Int)] else []):=by
   unfold a6u
   rw [b2S,List.filter_append]
   congr 1
   by_cases hf:a5Q c k<;>simp [List.filter,hf]
  have hany:((a6u c k).map (q5 c)).any (fun y=>smL y x)=true↔¬ a5Q c k:=by
   rw [List.any_eq_true]
   constructor
   ·rintro ⟨y,hy,hq⟩ hf
    obtain ⟨m,hm,rfl⟩:=List.mem_map.1 hy
    unfold a6u at hm
    rw [List.mem_filter,T4] at hm
    refine hf m hm.1.1 hm.1.2 ?_
    rw [hl]
    simpa [smL] using hq
   ·intro hf
    unfold a5Q at hf
    simp only [Classical.not_forall,ne_eq,Decidable.not_not] at hf
    obtain ⟨j,hj0,hjk,e⟩:=hf
    obtain ⟨i,hi,hfi,e2⟩:=b8U c j.toNat
    rw [Int.toNat_of_nonneg hj0] at e2
    refine ⟨q5 c i,List.mem_map.2 ⟨i,?_,rfl⟩,?_⟩
    ·unfold a6u
     rw [List.mem_filter,T4,decide_eq_true_iff]
     exact ⟨by omega,hfi⟩
    ·unfold smL
     rw [decide_eq_true_iff,←hl]
     exact (s8 _ _).2 (((s8 _ _).1 e2).trans ((s8 _ _).1 e))
  rw [hs,List.map_append]
  by_cases hf:a5Q c k
  ·rw [if_pos hf,if_neg (by rw [hany];exact fun g=>g hf)]
   simp [hl]
  ·rw [if_neg hf,if_pos (hany.2 hf)]
   simp
theorem b5B (c:List Lt):wdL c=a4a smL c:=by
 have:=a8j c c.length (Nat.le_refl _)
 rw [List.take_length] at this
 rw [this]
 unfold wdL
 rw [b6Z]
section
variable {P:Program} {w0:World} {U0:UX} {nt:Nat} {ops:Array Oper} {o:Oper} {S:Nat→Option AV} {gs:List Nat} {d:Nat}
variable (hg:Gd w0 U0 nt ops o gs S) (hd:o.dst=some d) (hn:Nat.blt d nt=true) (h5:Nat.blt d 100000=true)
include hg hd hn h5
theorem c0t (lo hi':Nat) {x y y2:Operand} {t e:TypeId} {z:Nat} {l:List CV} {k k2:IntKind} {i i2:Int} {n q p n' q' p' n2 q2 p2} (ho:o.op = .slice t x (some y) (some y2) none) (hu:P.underlying t=some (.slice e)) (hi:(P.info? e).map (·.size)=some z) (hx:ev S x=some ⟨0,.lst l,n,q,p⟩) (hy:ev S y=some ⟨0,.sc (.int k i),n',q',p'⟩) (hy2:ev S y2=some ⟨0,.sc (.int k2 i2),n2,q2,p2⟩) (hij:i=(lo:Int)) (hij2:i2=(hi':Int)) (hlo:lo≤hi') (hhi:hi'≤l.length) (hz:∀ c∈l,c.size=z):AOp P w0 U0 nt ops o (gs++(rd x++(rd y++rd y2))) [] S [(d,.val (.lst ((l.drop lo).take (hi'-lo))))]:=
 d9 hg hd hn h5 (fun k hk=>List.mem_append_left _ hk) fun s hs a w D hv hm=>by
  have hv:=A0 hm (fun k hk=>hs k (List.mem_append_right _ (List.mem_append_left _ hk))) hx
  have e2:=s9 hm (fun k hk=>hs k (List.mem_append_right _ (List.mem_append_right _ (List.mem_append_left _ hk)))) hy
  have e3:=s9 hm (fun k hk=>hs k (List.mem_append_right _ (List.mem_append_right _ (List.mem_append_right _ hk)))) hy2
  obtain ⟨ao,m,cap,h1,h2,h3,_⟩:=j5.1 hv
  rw [h1] at hv
  have hcut:=a6q hz hv (lo:=lo) (hi:=hi') hlo hhi
  have hsz:(sizeOf e).run P w = .ok z w:=by
   cases hi':P.info? e with
   | none=>rw [hi'] at hi;simp at hi
   | some i=>rw [hi'] at hi;simp at hi;simp [sizeOf,typeInfo,hi',hi]
  subst hij hij2
  refine ⟨_,?_,k8 hcut⟩
  have hb:=w9 (P:=P) (w:=w) (k:=k2) (j:=hi') (y:=cap) (code := .sliceAcap) (by omega)
  have hb2:=w9 (P:=P) (w:=w) (k:=k) (j:=lo) (y:=hi') (code := .sliceB) hlo
  generalize a.eval=ρ at h1 e2 e3 ⊢
  simp [execOp,ho,Instr.sliceAt,Instr.slice,run_underlying hu,h1,e2,e3,Instr.sliceBounds,hb,hb2,hsz]
end
end Go.Proofs.YtglmoficcjphaaaGreat
namespace Go.Proofs.YtglmoficcjphaaaGreat
set_option linter.unusedVariables false
def ub:Nat→Nat→List Int
 | 0,n=>[(n:Int)]
 | k+1,n=>if n<128 then [(n:Int)] else ((128+n % 128:Nat):Int)::ub k (n / 128)
def a6E (n:Nat):List Int:=ub 9 n
def c3t (n:Nat):Nat:=if n=0 then 0 else (a6E n).length
def zz (n:Int):Nat:=if 0≤n then (2*n).toNat else (-2*n-1).toNat
end Go.Proofs.YtglmoficcjphaaaGreat
namespace Go.Proofs.YtglmoficcjphaaaGreat
open Go.RowKit
set_option linter.unusedVariables false
def b0f:List Int→Option Nat
 | []=>none
 | b::r=>if b<128 then some 0 else (b0f r).map (·+ 1)
def c1z (l:List Int):Int:=match b0f l with | none => -1 | some i=>(i:Int)
def val:List Int→Nat
 | []=>0
 | b::r=>(b % 128).toNat+128*val r
def c1j (l:List Int):Bool:=decide (l.length≤10∧(l.length=10→l.getD (l.length-1) 0≤1)∧(l.getD (l.length-1) 0≠0∨l.length=1))
def b8v (n:Nat):Int:=if n % 2=0 then ((n / 2:Nat):Int) else -((n / 2:Nat):Int)-1
def rdU (l:List Int):Nat×Nat×Nat:=
 match b0f l with
 | none=>(0,0,10)
 | some i=>if c1j (l.take (i+1)) then (val (l.take (i+1)),i+1,0) else (0,0,7)
def c1m:List Int→Prop
 | []=>False
 | b::r=>match r with
  | []=>0<b∧b<128
  | _::_=>128≤b∧b≤255∧c1m r
end Go.Proofs.YtglmoficcjphaaaGreat
namespace Go.Proofs.YtglmoficcjphaaaGreat
set_option linter.unusedVariables false
set_option linter.unusedSimpArgs false
def wT:Tm→List Int
 | ⟨f,l⟩=>a6E (zz f)++(if f<0 then [] else a6E l.length++(l.map wT).flatten)
def wL (l:Lt):List Int:=(if l.neg then 1 else 0)::(wT l.a++wT l.b)
def wC (c:List Lt):List Int:=a6E c.length++c.flatMap wL
def rN (most:Nat) (l:List Int):Except Nat (Nat×Nat):=match rdU l with
 | (v,c,0)=>if v>most then .error 7 else .ok (v,c)
 | (_,_,e+1) => .error (e+1)
def rH (l:List Int):Except Nat (Int×Nat):=match rdU l with
 | (v,c,0)=>if -2147483648≤b8v v∧b8v v≤2147483647 then .ok (b8v v,c) else .error 7
 | (_,_,e+1) => .error (e+1)
def b8z {α:Type} (g:List Int→Except Nat (α×Nat)):Nat→List Int→Except Nat (List α×Nat)
 | 0,_ => .ok ([],0)
 | n+1,l=>match g l with
  | .error e => .error e
  | .ok (x,c)=>match b8z g n (l.drop c) with
   | .error e => .error e
   | .ok (xs,c') => .ok (x::xs,c+c')
def b8A {α:Type} (g:List Int→Except Nat (α×Nat)) (l:List Int):Except Nat (List α×Nat):=match rN 4096 l with
 | .error e => .error e
 | .ok (n,c)=>match b8z g n (l.drop c) with
  | .error e => .error e
  | .ok (xs,c') => .ok (xs,c+c')
def rT:Nat→List Int→Except Nat (Tm×Nat)
 | 0,_ => .error 7
 | d+1,l=>match rH l with
  | .error e => .error e
  | .ok (f,c)=>if f<0 then .ok (⟨f,[]⟩,c) else match b8A (rT d) (l.drop c) with
   | .error e => .error e
   | .ok (xs,c') => .ok (⟨f,xs⟩,c+c')
def rL (l:List Int):Except Nat (Lt×Nat):=match rN 1 l with
 | .error e => .error e
 | .ok (n,c)=>match rT 257 (l.drop c) with
  | .error e => .error e
  | .ok (a,c1)=>match rT 257 (l.drop (c+c1)) with
   | .error e => .error e
   | .ok (b,c2) => .ok (⟨decide (n=1),a,b⟩,c+c1+c2)
def rC (l:List Int):Except Nat (List Lt×Nat):=b8A rL l
def wfB (l:List Int):Prop:=∀ z∈l,0≤z∧z≤255
theorem wfB.drop {l:List Int} (h:wfB l) (n:Nat):wfB (l.drop n):=fun z hz=>h z (List.mem_of_mem_drop hz)
def Rt {α:Type} (w:α→List Int) (l:List Int) (r:Except Nat (α×Nat)):Prop:=∀ x c,r = .ok (x,c)→c≤l.length∧w x=l.take c
def Er {α:Type} (r:Except Nat (α×Nat)):Prop:=∀ e,r = .error e→e=7∨e=10
structure c3k {α:Type} (g:List Int→Except Nat (α×Nat)) (w:List Int) (x:α):Prop where
 back:∀ r,g (w++r) = .ok (x,w.length)
 cut:∀ j,j<w.length→g (w.take j) = .error 10
end Go.Proofs.YtglmoficcjphaaaGreat
namespace Go.Proofs.YtglmoficcjphaaaGreat
open Go.RowKit
set_option linter.unusedVariables false
set_option linter.unusedSimpArgs false
set_option maxRecDepth 100000
abbrev by8 (z:Int):CV := .sc (.int .u8 z)
def gU (zs:List Int) (p:Int):Int×Int×Int:=
 if p<0∨p>zs.length then (0,0,1) else match rdU (zs.drop p.toNat) with
  | (v,c,0)=>(v,p+c,0)
  | (_,_,e+1)=>(0,0,((e+1:Nat):Int))
def gI (zs:List Int) (p:Int):Int×Int×Int:=
 if p<0∨p>zs.length then (0,0,1) else match rdU (zs.drop p.toNat) with
  | (v,c,0)=>(b8v v,p+c,0)
  | (_,_,e+1)=>(0,0,((e+1:Nat):Int))
noncomputable abbrev rB (zs:List Int):AS:=[(300001,.mrow 5 1 (zs.map by8))]
theorem a4U (W:World) (l:Lt):AFun Tryz.prog W 92 [l.cw] (.val (by8 (if l.neg then 1 else 0))):=by
 refine b6 (rs:=[by8 (if l.neg then 1 else 0)]) Tryz.func92 Tryz.ntmps92 rfl rfl rfl rfl ?_
 intro w U hW
 refine aS (aR ?_)
 refine nc zd (nc ze ?_)
 refine aS (aS (aR ?_))
 refine nc zg (nc zh ?_)
 refine aC rfl (fun hc=>?_) (fun hc=>?_)
 ·refine aS (aR ?_)
  refine nc ze ?_
  rw [if_pos hc]
  exact aT (And.intro (.inr rfl) rfl)
 ·refine aK ?_
  refine aS (aR ?_)
  refine nc ze ?_
  rw [if_neg (by rw [hc];simp)]
  exact aT (And.intro (.inr rfl) rfl)
def zT:Tm:=⟨0,[]⟩
def zL:Lt:=⟨false,zT,zT⟩
def okP {α:Type} (q:Nat):Except Nat (α×Nat)→Int
 | .ok (_,c)=>((q+c:Nat):Int)
 | .error _=>0
def okE {α:Type}:Except Nat (α×Nat)→Int
 | .ok _=>0
 | .error e=>(e:Int)
def okN:Except Nat (Nat×Nat)→Int
 | .ok (v,_)=>(v:Int)
 | .error _=>0
noncomputable def okT:Except Nat (Tm×Nat)→CV
 | .ok (x,_)=>x.cw
 | .error _ => .row [.i 0,.lst []]
noncomputable def okG:Except Nat (Lt×Nat)→CV
 | .ok (x,_)=>x.cw
 | .error _ => .row [.b false,.row [.i 0,.lst []],.row [.i 0,.lst []]]
noncomputable def c2f:Except Nat (List Tm×Nat)→List CV
 | .ok (x,_)=>x.map Tm.cv
 | .error _=>[]
noncomputable def c2d:Except Nat (List Lt×Nat)→List CV
 | .ok (x,_)=>x.map Lt.cv
 | .error _=>[]
noncomputable abbrev c3m (q:Nat) (r:Except Nat (Nat×Nat)):List CV:=[.sc (.int .u64 (okN r)),.i (okP q r),by8 (okE r)]
noncomputable abbrev c3R (q:Nat) (r:Except Nat (Tm×Nat)):List CV:=[okT r,.i (okP q r),by8 (okE r)]
noncomputable abbrev c3B (q:Nat) (r:Except Nat (Lt×Nat)):List CV:=[okG r,.i (okP q r),by8 (okE r)]
noncomputable abbrev c2E (q:Nat) (r:Except Nat (List Tm×Nat)):List CV:=[.lst (c2f r),.i (okP q r),by8 (okE r)]
noncomputable abbrev c2J (q:Nat) (r:Except Nat (List Lt×Nat)):List CV:=[.lst (c2d r),.i (okP q r),by8 (okE r)]
def rHd (l:List Int):Except Nat (Tm×Nat):=match rH l with
 | .error e => .error e
 | .ok (f,c) => .ok (⟨f,[]⟩,c)
def cmb {α:Type} (xs:List α) (q0 q:Nat):Except Nat (List α×Nat)→Except Nat (List α×Nat)
 | .error e => .error e
 | .ok (ys,c) => .ok (xs++ys,q-q0+c)
def gC (zs:List Int) (p:Int):Except Nat (List Lt×Nat):=if p<0∨p>zs.length then .error 1 else rC (zs.drop p.toNat)
def exC:Lt:=⟨false,⟨3,[⟨-1,[]⟩]⟩,⟨1,[]⟩⟩
def b0O (size:Int) (l:Lt):Bool:=decide (0≤n5 l.a size 8)&&decide (0≤n5 l.b size 8)
def U7 (c:List Lt) (most:Nat) (size:Int):Bool:=decide (c.length≤most)&&c.all (b0O size)
set_option maxHeartbeats 1000000 in
theorem a9q (W:World) (c:List Lt) (most:Nat) (size:Int) (hm:most≤1000) (h0:0≤size) (h1:size≤60) (hr:okC c):AFun Tryz.prog W 8 [.lst (c.map Lt.cv),.i (most:Int),.i size] (.val (.b (U7 c most size))):=by
 have hsz:=Lt.size_all c
 refine b6 (rs:=[.b (U7 c most size)]) Tryz.func8 Tryz.ntmps8 rfl rfl rfl rfl ?_
 intro w U hW
 refine aS (aR ?_)
 refine nc ze ?_
 refine aS (aS (aR ?_))
 refine nc zl (nc zp (nc zl (nc zH ?_)))
 refine aC rfl (fun hc=>?_) (fun hc=>?_)
 ·have hno:U7 c most size=false:=by
   have:=of_decide_eq_true hc
   rw [List.length_map] at this
   unfold U7
   rw [show decide (c.length≤most)=false by rw [decide_eq_false_iff_not];omega]
   rfl
  rw [hno]
  refine aS (aR ?_)
  refine nc ze ?_
  exact aT (And.intro (.inr rfl) rfl)
 have hl:c.length≤most:=by
  have:=of_decide_eq_false hc
  rw [List.length_map] at this
  omega
 refine aK ?_
 refine aS (aS (aR ?_))
 refine nc ze ?_
 refine aB (y0 c.length (fun k=>∀ l∈c.take k,b0O size l=true) (fun k=>[(0,.val (.lst (c.map Lt.cv))),(2,.val (.i size)),(7,.val (.i k))]) (a7 ⟨rfl,rfl,rfl,trivial⟩) (by simp) ?_)
 intro k hk hI
 refine aS (aS (aR ?_))
 refine nc zl (nc zl (nc zp (nc zi ?_)))
 refine aC rfl (fun hlt=>?_) (fun hlt=>?_)
 ·have hkl:k<c.length:=by simpa using hlt
  obtain ⟨x,hx⟩:∃ x,c[k]?=some x:=⟨c[k],List.getElem?_eq_getElem hkl⟩
  have hx':=Lt.map_at hx
  have hxm:=List.mem_of_getElem? hx
  have sa:=a4N w x.a size 8 (hr x hxm).1 h0 h1 (by decide) (by decide)
  have sb:=a4N w x.b size 8 (hr x hxm).2 h0 h1 (by decide) (by decide)
  have hno:b0O size x=false→U7 c most size=false:=fun h=>by
   unfold U7
   rw [show c.all (b0O size)=false from List.all_eq_false.2 ⟨x,hxm,by rw [h];simp⟩,Bool.and_false]
  refine aK ?_
  by_cases ha:n5 x.a size 8<0
  ·have ga:decide (n5 x.a size 8<0)=true:=by simpa using ha
   rw [hno (by unfold b0O;rw [show decide (0≤n5 x.a size 8)=false by rw [decide_eq_false_iff_not];omega];rfl)]
   refine aS (aB (aS (aR ?_)))
   refine nc zl (nc zl (nc (zq (j:=k) (H:=hx') (hz:=hsz)) (nc zbL (nc zr (nc zl (nc (zw (z:=sa)) (nc zi (nc zl (nc zO (nc zO (nc zO (nc zO (nc zO (nc zO (nc zO (nc zO (nc zM ?_)))))))))))))))))
   refine aC rfl (fun hc2=>?_) (fun hc2=>by cases hc2)
   refine aS (aR ?_)
   refine nc ze ?_
   exact aT (And.intro (.inr rfl) rfl)
  ·have ga:decide (n5 x.a size 8<0)=false:=by simpa using ha
   refine aS (aB (aS (aR ?_)))
   refine nc zl (nc zl (nc (zq (j:=k) (H:=hx') (hz:=hsz)) (nc zbL (nc zr (nc zl (nc (zw (z:=sa)) (nc zi (nc zl (nc (zl (p:=gb)) (nc (zl (p:=gb)) (nc (zq (j:=k) (r:=gb) (H:=hx') (hz:=hsz)) (nc (zbL (r:=gb)) (nc (zr (r:=gb)) (nc (zl (p:=gb)) (nc (zw (p:=gb) (z:=sb)) (nc (zi (r:=gb)) (nc zP ?_)))))))))))))))))
   refine aC rfl (fun hc2=>?_) (fun hc2=>?_)
   ·have hb:=of_decide_eq_true hc2
    rw [hno (by unfold b0O;rw [show decide (0≤n5 x.b size 8)=false by rw [decide_eq_false_iff_not];omega];simp)]
    refine aS (aR ?_)
    refine nc ze ?_
    exact aT (And.intro (.inr rfl) rfl)
   ·have hb:=of_decide_eq_false hc2
    refine aK ?_
    refine aR ?_
    refine nc zl (nc zu (nc ze ?_))
    refine ⟨hkl,?_,a7 ⟨rfl,rfl,rfl,trivial⟩⟩
    intro y hy
    rw [List.take_add_one,hx,List.mem_append] at hy
    rcases hy with hy | hy
    ·exact hI y hy
    ·simp at hy
     rw [hy]
     unfold b0O
     rw [show decide (0≤n5 x.a size 8)=true by rw [decide_eq_true_eq];omega,show decide (0≤n5 x.b size 8)=true by rw [decide_eq_true_eq];omega]
     rfl
 ·have hkl:k=c.length:=by
   have:¬ k<c.length:=by simpa using hlt
   omega
  subst hkl
  rw [List.take_length] at hI
  have hyes:U7 c most size=true:=by
   unfold U7
   rw [show decide (c.length≤most)=true by simpa using hl,Bool.true_and]
   exact List.all_eq_true.2 hI
  rw [hyes]
  refine aE ?_
  refine aS (aR ?_)
  refine nc ze ?_
  exact aT (And.intro (.inr rfl) rfl)
theorem a6Q {c:List Lt} {most:Nat} {size:Int} (h0:0≤size) (h1:size≤60) (h:U7 c most size=true):c.length≤most∧∀ l∈c,((l.a.sm∧l.a.rng∧l.a.ok)∧(l.a.wt:Int)≤size∧(l.a.size:Int)≤size)∧((l.b.sm∧l.b.rng∧l.b.ok)∧(l.b.wt:Int)≤size∧(l.b.size:Int)≤size):=by
 unfold U7 at h
 rw [Bool.and_eq_true,decide_eq_true_eq] at h
 refine ⟨h.1,fun l hl=>?_⟩
 have hf:=List.all_eq_true.1 h.2 l hl
 unfold b0O at hf
 rw [Bool.and_eq_true,decide_eq_true_eq,decide_eq_true_eq] at hf
 have key:∀ t:Tm,0≤n5 t size 8→(t.sm∧t.rng∧t.ok)∧(t.wt:Int)≤size∧(t.size:Int)≤size:=fun t ht=>by
  have hsm:=b4m t _ _ ht
  have hwt:(t.wt:Int)≤size:=by have:=(a0o t size 8 h0).2.2 ht;omega
  have:=t.size_wt
  exact ⟨⟨hsm,Tm.sm_rng hsm,Tm.wt_ok (t:=t) (by omega)⟩,hwt,by omega⟩
 exact ⟨key _ hf.1,key _ hf.2⟩
set_option maxHeartbeats 1000000 in
theorem b1U (W:World) (c:List Lt) (hl:c.length≤1000000) (hc:∀ l∈c,l.a.ok∧l.b.ok):AFun Tryz.prog W 9 [.lst (c.map Lt.cv)] (.val (.lst ((c.map id).map Lt.cv))):=by
 have hsz:=Lt.size_all c
 refine b6 (rs:=[.lst ((c.map id).map Lt.cv)]) Tryz.func9 Tryz.ntmps9 rfl rfl rfl rfl ?_
 intro w U hW
 refine aS (aR ?_)
 refine nc ze ?_
 refine aS (aR ?_)
 refine nc ze ?_
 refine aS (aS (aR ?_))
 refine nc ze ?_
 refine aB (o5 c.length (fun k=>[(0,.val (.lst (c.map Lt.cv))),(3,.own (.lst (((c.take k).map id).map Lt.cv)) 200031),(200031,.tok 44 5),(4,.val (.i k))]) ((O6 3 200031 44 5 rfl rfl rfl rfl rfl rfl rfl).trans (a7 ⟨rfl,rfl,rfl,rfl,trivial⟩)) ?_)
 intro k hk
 have hks:=Lt.size_all ((c.take k).map id)
 refine aS (aS (aR ?_))
 refine nc zl (nc zl (nc zp (nc zi ?_)))
 refine aC rfl (fun hlt=>?_) (fun hlt=>?_)
 ·have hkl:k<c.length:=by simpa using hlt
  obtain ⟨x,hx⟩:∃ x,c[k]?=some x:=⟨c[k],List.getElem?_eq_getElem hkl⟩
  have hx':=Lt.map_at hx
  have hxm:=List.mem_of_getElem? hx
  have hkn:(((c.take k).map id).map Lt.cv).length≤1000000:=by rw [List.length_map,List.length_map,List.length_take];omega
  refine aK ?_
  refine aS (aB (aD (by kernel_rfl) (by kernel_rfl) ?_))
  refine nc zl (nc zl (nc zl (nc (zq (j:=k) (H:=hx') (hz:=hsz)) (nc zbL (nc zr (nc zl (nc zl (nc (zq (j:=k) (H:=hx') (hz:=hsz)) (nc zbL (nc zr (nc (zw (z:=b5x w x.a (hc x hxm).1)) (nc zl (nc zl (nc (zq (j:=k) (H:=hx') (hz:=hsz)) (nc zbL (nc zr (nc (zw (z:=b5x w x.b (hc x hxm).2)) (nc zn (nc zD (nc zE (nc ze ?_)))))))))))))))))))))
  refine ⟨by kernel_rfl,?_⟩
  refine aR ?_
  refine nc zl (nc zu (nc ze ?_))
  refine ⟨hkl,Wk.trans (a7 (s':=[(0,.val (.lst (c.map Lt.cv))),(3,.own (.lst (((c.take (k+1)).map id).map Lt.cv)) 300031),(300031,.tok 44 5),(4,.val (.i ((k+1:Nat):Int)))]) ⟨rfl,?_,rfl,rfl,trivial⟩) (C3 300031 200031 rfl rfl rfl rfl)⟩
  rw [List.take_add_one,hx,List.map_append,List.map_append]
  rfl
 ·have hkl:k=c.length:=by
   have:¬ k<c.length:=by simpa using hlt
   omega
  subst hkl
  rw [List.take_length]
  refine aE ?_
  refine aS (aR ?_)
  refine nc zl (nc ze ?_)
  exact aT (And.intro (.inr rfl) rfl)
theorem b3u (W:World) (c:List Lt) (hl:c.length≤1000000) (hc:∀ l∈c,l.a.ok∧l.b.ok):AFun Tryz.prog W 9 [.lst (c.map Lt.cv)] (.val (.lst (c.map Lt.cv))):=by
 have:=b1U W c hl hc
 rw [List.map_id] at this
 exact this
def a4A (x y:Lt):Bool:=(x.neg == y.neg)&&(B0 x.a y.a&&B0 x.b y.b)
theorem a4M (x y:Lt):a4A x y=true↔x.strip=y.strip:=by
 unfold a4A
 rw [Bool.and_eq_true,Bool.and_eq_true,N3,N3,beq_iff_eq]
 cases x
 cases y
 simp [Lt.strip]
def a0S:List Lt→List Lt→Bool
 | [],[]=>true
 | x::l,y::m=>a4A x y&&a0S l m
 | _,_=>false
theorem a1w:∀ {l m:List Lt},a0S l m=true↔l.map Lt.strip=m.map Lt.strip
 | [],[]=>by simp [a0S]
 | [],_::_=>by simp [a0S]
 | _::_,[]=>by simp [a0S]
 | x::l,y::m=>by
  rw [a0S,Bool.and_eq_true,a4M,a1w,List.map_cons,List.map_cons,List.cons.injEq]
end Go.Proofs.YtglmoficcjphaaaGreat
namespace Go.Proofs.YtglmoficcjphaaaGreat
open Go.RowKit
set_option linter.unusedVariables false
set_option linter.unusedSimpArgs false
def lkT (t:Tm):Tm:=a9 (fun _=>p5 0) t
def lkL (l:Lt):Lt:=Lt.rep (fun _=>p5 0) l
structure Sn where
 lit:Lt
 look:Lt
def b3p (l k:Lt):Sn:=if 0≤v9 k.a k.b then ⟨l,k⟩ else ⟨b3n l,b3n k⟩
def b8F (x y:Sn):Int:=A4 x.look y.look
def c1x (x y:Sn):Bool:=decide (b8F x y<0)
def inL (c:List Lt):List Lt:=(X3 c1x (c.map fun l=>b3p l (lkL l))).map Sn.lit
def a5R (c:List Lt):Tm:=⟨0,C6 c⟩
def b7S (c:List Lt):List Bd:=b3q (a5R c).nv (a3r (a5R c).nv.length)
def nmP (c:List Lt):List Lt:=wdL ((inL c).map (Lt.rep (b5 (b7S (inL c)))))
def rtL (l:Lt):Lt:=if v9 (lkT l.a) (lkT l.b)<0 then b3n l else l
def c0b (x y:Lt):Bool:=decide (A4 (lkL x) (lkL y)<0)
def inD (c:List Lt):List Lt:=X3 c0b (c.map rtL)
theorem b4M (l:Lt):(b3p l (lkL l)).lit=rtL l:=by
 unfold b3p rtL
 show (if 0≤v9 (lkT l.a) (lkT l.b) then (⟨l,lkL l⟩:Sn) else ⟨b3n l,b3n (lkL l)⟩).lit=_
 by_cases h:v9 (lkT l.a) (lkT l.b)<0
 ·rw [if_neg (by omega),if_pos h]
 ·rw [if_pos (by omega),if_neg h]
theorem a4Y (l:Lt):(b3p l (lkL l)).look=lkL (b3p l (lkL l)).lit:=by
 unfold b3p
 split<;>rfl
theorem b5z (c:List Lt):inL c=inD c:=by
 unfold inL inD
 rw [b4G (lt2:=c0b) Sn.lit,List.map_map]
 ·congr 1
  exact List.map_congr_left fun l _=>b4M l
 ·intro x hx y hy
  obtain ⟨l,_,rfl⟩:=List.mem_map.1 hx
  obtain ⟨m,_,rfl⟩:=List.mem_map.1 hy
  unfold c1x c0b b8F
  rw [a4Y,a4Y]
theorem b6u (c:List Lt):(inD c).length=c.length:=by
 unfold inD
 rw [(I8 _ _).length_eq,List.length_map]
theorem b1i {c:List Lt} {x:Lt}:x∈inD c↔∃ l∈c,rtL l=x:=by
 unfold inD
 rw [(I8 _ _).mem_iff,List.mem_map]
theorem a9V (l:Lt):rtL l=l∨rtL l=b3n l:=by
 unfold rtL
 split
 ·exact .inr rfl
 ·exact .inl rfl
def c2x (l:Lt):Tm:=⟨sgZ l.neg,[l.a,l.b]⟩
def c3u (c:List Lt):Tm:=⟨0,c.map c2x⟩
def c0e (s:List Bd) (l:Lt):Lt:=⟨l.neg,l7 s l.a,l7 s l.b⟩
def nmD (c:List Lt):List Lt:=a4a a4A ((inD c).map (c0e (b7S (inD c))))
theorem b1Q (x y:Lt):smL x y=a4A x y:=by
 unfold smL
 rw [Bool.eq_iff_iff,decide_eq_true_iff,s8,a4M]
theorem b4r {α:Type} {q:α→α→Bool} {c:List α} {x:α} (h:x∈a4a q c):x∈c:=by
 induction c using K3 with
 | h0=>cases h
 | h1 c y ih =>
  rw [U5] at h
  split at h
  ·exact List.mem_append_left _ (ih h)
  ·rcases List.mem_append.1 h with h | h
   ·exact List.mem_append_left _ (ih h)
   ·exact List.mem_append_right _ h
theorem b3x {α:Type} {q:α→α→Bool} (c:List α):(a4a q c).length≤c.length:=by
 induction c using K3 with
 | h0=>exact Nat.le_refl _
 | h1 c y ih =>
  rw [U5]
  split
  ·rw [List.length_append];omega
  ·rw [List.length_append,List.length_append];omega
theorem b5a {q:Lt→Lt→Bool} (hq:∀ x,q x x=true) {c:List Lt} {x:Lt} (h:x∈c):∃ y∈a4a q c,q y x=true:=by
 induction c using K3 with
 | h0=>cases h
 | h1 c z ih =>
  rw [U5]
  rcases List.mem_append.1 h with h | h
  ·obtain ⟨y,hy,e⟩:=ih h
   split
   ·exact ⟨y,hy,e⟩
   ·exact ⟨y,List.mem_append_left _ hy,e⟩
  ·rw [List.mem_singleton.1 h]
   split
   ·rename_i ha
    obtain ⟨y,hy,e⟩:=List.any_eq_true.1 ha
    exact ⟨y,hy,e⟩
   ·exact ⟨z,by simp,hq z⟩
def c3U (c d:List Lt):Bool:=decide (c.map Lt.neg=d.map Lt.neg)&&c2v (a5R c) (a5R d)
end Go.Proofs.YtglmoficcjphaaaGreat
namespace Go.Proofs.YtglmoficcjphaaaGreat
open Go.RowKit
set_option linter.unusedVariables false
set_option linter.unusedSimpArgs false
set_option maxRecDepth 100000
theorem ToldU.uniq {l:List (Tm×Tm)} {r1 r2:List Bd×Bool} (h1:ToldU l r1) (h2:ToldU l r2):r1=r2:=by
 rcases h1 with ⟨a1,a2,a3⟩ | ⟨a1,s,a2,a3,a4,a5⟩
 ·rw [h2.no a3]
  cases r1
  simp only at a1 a2
  rw [a1,a2]
 ·have h:=(h2.yes a2 a3).1
  cases r1
  simp only at a1 a5
  rw [h,a1,a5]
noncomputable def mgT (a b:Tm):List Bd×Bool:=open Classical in if h:∃ r,Tells8 [(a,b)] r then Classical.choose h else ([],false)
def Tm.ten (t:Tm):Prop:=(t.rng∧t.ok)∧t.size≤10
def Lt.ten (l:Lt):Prop:=l.a.ten∧l.b.ten
theorem a8l {a b:Tm} (ha:a.ten) (hb:b.ten):a6J [(a,b)]:=fun p hp=>by
 rw [List.mem_singleton] at hp
 subst hp
 exact ⟨⟨ha.1,Nat.le_trans ha.2 (by omega)⟩,hb.1,Nat.le_trans hb.2 (by omega)⟩
theorem c0L {a b:Tm} {r:List Bd×Bool} (h:Tells8 [(a,b)] r):mgT a b=r:=by
 have he:∃ r,Tells8 [(a,b)] r:=⟨r,h⟩
 unfold mgT
 rw [dif_pos he]
 exact (Classical.choose_spec he).told.uniq h.told
theorem a1f {a b:Tm} (ha:a.ten) (hb:b.ten):Tells8 [(a,b)] (mgT a b):=by
 obtain ⟨n,r,_,_,_,h⟩:=b6j (l:=[(a,b)]) (by simp) (a8l ha hb)
 rw [c0L h]
 exact h
theorem b4B (l:List (Tm×Tm)) (hl:l.length≤2) (ht:a6J l):∃ r:Option (List Bd),(r=none→∀ τ,¬ uni τ l)∧∀ s,r=some s→Mgu (b5 s) l∧K1 s∧Orig (H7 l) (b5 s):=by
 have hV:∀ v∈F2 l,0≤v:=fun v hv=>by
  obtain ⟨p,_,hv⟩:=List.mem_flatMap.1 hv
  rcases List.mem_append.1 hv with hv | hv<;>exact r6 _ v hv
 have hsub:∀ p∈l,(∀ u∈p.1.vs,u∈F2 l)∧∀ u∈p.2.vs,u∈F2 l:=fun p hp=>⟨fun u hu=>List.mem_flatMap.2 ⟨p,hp,List.mem_append_left _ hu⟩,fun u hu=>List.mem_flatMap.2 ⟨p,hp,List.mem_append_right _ hu⟩⟩
 have h0:Mgu (b5 []) []:=Mgu.nil
 obtain ⟨n,r,e,g1,g2⟩:=a1q hV l [] [] h0 (fun b hb=>by cases hb) (fun b hb=>by cases hb) hsub
 rw [List.nil_append] at g1 g2
 have hE:arA (H7 l)≤60:=by
  have:=a6k l fun p hp=>⟨(ht p hp).1.2,(ht p hp).2.2⟩
  omega
 have hvl:=a1r l ht
 have hmid0:a6B (F2 l) (H7 l) 64 [] ([]++[]):=⟨h0,(fun b hb=>by cases hb),(fun b hb=>by cases hb),(fun v hv hf=>by exfalso;apply hf;show (p5 v).f<0;rw [q6];omega),by
  have:frN (F2 l) []≤(F2 l).length:=a7D _
  show 0+_≤64
  omega,fun b hb=>by cases hb⟩
 obtain ⟨c1,c2⟩:=a2B (V:=F2 l) (S:=H7 l) (K:=64) (E:=[]) hV (b5Q hV (V9 l) (by decide) hE n) l [] [] hmid0 (fun b hb=>by cases hb) fun p hp=>by
  obtain ⟨s1,s2⟩:=a7Q hp
  exact ⟨fun s1' F1 h1=>⟨⟨(hsub p hp).1,p.1,s1,rfl⟩,⟨(hsub p hp).2,p.2,s2,rfl⟩⟩,(ht p hp).1.1,(ht p hp).2.1⟩
 refine ⟨r,g1,fun s hs=>?_⟩
 obtain ⟨k1,k2,k3⟩:=g2 s hs
 rw [hs] at e
 exact ⟨k1,k2,(c2 s e).1.orig⟩
theorem b9C {s E:Nat} (hE:E≤18) (h:Big E s):s≤2955:=by
 have h:=h.up hE
 unfold Big at h
 have e1:(2:Nat) ^ 18=262144:=by decide
 have e2:(3:Nat) ^ 18=387420489:=by decide
 rw [e1,e2] at h
 omega
theorem b9h {a b:Tm} (ha:a.ten) (hb:b.ten) {v:Int} (hv:0≤v):(b5 (mgT a b).1 v).size≤2955:=by
 have hT:=a1f ha hb
 have hvar:∀ u:Tm,u.f<0→u.size≤2955:=fun u hu=>by rw [Tm.size_var hu];omega
 cases h2:(mgT a b).2 with
 | false =>
  rw [(hT.no h2).1]
  exact hvar _ (by show (p5 v).f<0;rw [q6];omega)
 | true =>
  have hm:=hT.yes h2
  obtain ⟨r,g1,g2⟩:=b4B [(a,b)] (by simp) (a8l ha hb)
  cases r with
  | none=>exact absurd hm.uni (g1 rfl _)
  | some s =>
   obtain ⟨k1,k2,k3⟩:=g2 s rfl
   rw [k1.one hm hv]
   by_cases hf:(b5 s v).f<0
   ·exact hvar _ hf
   ·obtain ⟨q,hq,_,e⟩:=k3 v hv hf
    rw [←e]
    refine b9C ?_ (a0U (V9 _) k3 (fun v _=>K8 k2 v) ⟨q,hq,rfl⟩)
    have e1:H7 [(a,b)]=(a.flat++b.flat)++[]:=rfl
    have e2:=a0O a
    have e3:=a0O b
    have e4:=ha.2
    have e5:=hb.2
    rw [e1,List.append_nil,a2x]
    omega
theorem b6q {σ:Int→Tm} {M:Nat} (hM:1≤M) (h:∀ v,0≤v→(σ v).size≤M) (t:Tm):(a9 σ t).size≤M*t.size:=by
 induction t using Tm.indp with
 | h t ih =>
  by_cases hf:t.f<0
  ·rw [i8 hf,Tm.strip_size,Tm.size_var hf,Nat.mul_one]
   exact h _ (by omega)
  ·have e1:(a9 σ t).size=1+((t.l.map (a9 σ)).map Tm.size).sum:=by rw [d8 hf];exact Tm.size_sym (t:=⟨t.f,t.l.map (a9 σ)⟩) hf
   have e2:t.size=1+(t.l.map Tm.size).sum:=Tm.size_sym hf
   have hps:t.ps=t.l:=Tm.ps_of_sym (by omega)
   rw [hps] at ih
   have:∀ L:List Tm,(∀ s∈L,(a9 σ s).size≤M*s.size)→((L.map (a9 σ)).map Tm.size).sum≤M*(L.map Tm.size).sum:=fun L=>by
    induction L with
    | nil=>intro _;simp
    | cons x L ihL =>
     intro g
     rw [List.map_cons,List.map_cons,List.map_cons,List.sum_cons,List.sum_cons,Nat.mul_add]
     have a1:=g x (by simp)
     have a2:=ihL fun s hs=>g s (List.mem_cons_of_mem _ hs)
     omega
   have h3:=this t.l ih
   rw [e1,e2,Nat.mul_add,Nat.mul_one]
   omega
noncomputable def mgS (a b:Tm):Int→Tm:=b5 (mgT a b).1
theorem b5o {a b:Tm} (ha:a.ten) (hb:b.ten) {t:Tm} (ht:t.ten):(a9 (mgS a b) t).rng∧(a9 (mgS a b) t).ok∧(a9 (mgS a b) t).size≤29550:=by
 have hT:=a1f ha hb
 refine ⟨b6r hT.bdsOk ht.1.1,a6n ht.1.2 fun v=>a7p (fun b hb=>(hT.ok b hb).2) v,?_⟩
 have h1:=b6q (M:=2955) (by omega) (fun v hv=>b9h ha hb hv) t
 have h2:2955*t.size≤2955*10:=Nat.mul_le_mul_left _ ht.2
 exact Nat.le_trans h1 h2
def L2 (c:List Lt) (n:Nat):List Lt:=c.take n++c.drop (n+1)
theorem a3M {c:List Lt} {n:Nat} {l:Lt} (h:l∈L2 c n):l∈c:=by
 rcases List.mem_append.1 h with h | h
 ·exact List.mem_of_mem_take h
 ·exact List.mem_of_mem_drop h
theorem a0z {c:List Lt} {n:Nat} (h:n<c.length):(L2 c n).length+1=c.length:=by
 unfold L2
 rw [List.length_append,List.length_take,List.length_drop]
 omega
noncomputable def b0u (c:List Lt) (n:Nat):Option (List Lt):=match c[n]? with
 | some l=>if l.neg=true∧(mgT l.a l.b).2=true then some ((L2 c n).map (Lt.rep (mgS l.a l.b))) else none
 | none=>none
noncomputable def Q8 (c:List Lt):List (List Lt):=(X6 c).filterMap fun z=>b0u c z.toNat
noncomputable def b8t (a b:Tm):Bool:=decide (kb a b=1∨kb a b=2)
noncomputable def c2o (p q:Tm×Tm) (rest:List Lt):Option (List Lt):=
 if (mgT p.1 q.1).2=true∧b8t (a9 (mgS p.1 q.1) p.1) (a9 (mgS p.1 q.1) p.2)=true then some ((rest++[(⟨true,p.2,q.2⟩:Lt)]).map (Lt.rep (mgS p.1 q.1))) else none
def c1o (l:Lt):List (Tm×Tm):=[(l.a,l.b),(l.b,l.a)]
noncomputable def c2w (p:Tm×Tm) (L:List (Tm×Tm)) (rest:List Lt):List (List Lt):=L.filterMap fun q=>c2o p q rest
noncomputable def c2j (L:List (Tm×Tm)) (o:Lt) (rest:List Lt):List (List Lt):=L.flatMap fun p=>c2w p (c1o o) rest
noncomputable def c1t (c:List Lt) (l:Lt) (n m:Nat):List (List Lt):=match c[m]? with
 | some o=>if m≠n∧o.neg=false then c2j (c1o l) o (L2 c n) else []
 | none=>[]
noncomputable def c1y (c:List Lt) (n:Nat):List (List Lt):=match c[n]? with
 | some l=>if l.neg=true then [] else (List.range c.length).flatMap fun m=>c1t c l n m
 | none=>[]
noncomputable def c3D (c:List Lt):List (List Lt):=(X6 c).flatMap fun z=>c1y c z.toNat
end Go.Proofs.YtglmoficcjphaaaGreat
namespace Go.Proofs.YtglmoficcjphaaaGreat
open Go.RowKit Go.MapKept Go.Shelf
set_option linter.unusedVariables false
set_option linter.unusedSimpArgs false
attribute [local go_sem] Oper.semAt_some
noncomputable def c3N (p:Tm×Tm):List CV:=[p.1.cw,p.2.cw]
def c3S (v1 v2 v3 v4:Value) (x:Nat):List Value:=if x=0 then [.agg #[v1,v2],.agg #[v3,v4]] else [.agg #[v3,v4],.agg #[v1,v2]]
end Go.Proofs.YtglmoficcjphaaaGreat
