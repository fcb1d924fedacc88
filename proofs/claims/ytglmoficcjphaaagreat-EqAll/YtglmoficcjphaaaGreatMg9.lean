/-
 TmPlB TmPlC TmPlD KbMath KbMath2 KbMath3 OrMath KbSc KbFns KbFns2 KbFns3 KbFns4 OrFns1 ClMath
-/
import Derived.Test.YtglmoficcjphaaaGreatMg8
import Derived.Test.YtglmoficcjphaaaGreatMg4
import Derived.Test.YtglmoficcjphaaaGreatMg3
import Derived.Test.YtglmoficcjphaaaGreatMg2
namespace Go.Proofs.YtglmoficcjphaaaGreat
open List (any_eq_true countP_cons flatMap_append flatMap_cons foldl_cons getElem?_eq_getElem getElem?_eq_none length_append length_cons length_drop length_map length_nil length_take map_cons map_drop map_take mem_cons mem_cons_of_mem mem_of_getElem? mem_of_mem_drop nodup_cons sum_cons zip_cons_cons)
open Go.RowKit
set_option linter.unusedVariables false
set_option linter.unusedSimpArgs false
set_option maxRecDepth 100000
theorem b0g {U:Nat->Nat->Prop} {w:World} {a:Option Addr} {xs:List Value} (h:At U w a xs):Cs w a xs:=by
 rcases h with h | ⟨b,off,ha,hc⟩
 ·exact .inl h
 ·by_cases hz:xs=[]
  ·exact .inl hz
  ·refine .inr ⟨b,off,ha,?_,fun i hi=>(hc i hi).2⟩;have gY:0<xs.length:=List.length_pos_iff.2 hz;have:=(hc 0 gY).2;rw [getElem?_eq_getElem gY] at this;exact World.block_lt_of_cell? w _ this
theorem b0B {w:World} {base:Nat} {e:TypeId} {size:Nat} {v:Value} {n:Nat} {xs:List Value} (h:w.ownsRow base e size v n xs) :
  ∃ a c,v = .slice a n c/\n<=c/\c<=maxLen/\(a=none->n=0/\c=0)/\At (fun b _=>base<=b) w a xs:=by
 have ho:=h;obtain ⟨h1,h2⟩:=h;rcases h2 with ⟨rfl,rfl⟩ | ⟨g,cap,cur,rfl,hb,hh,hn,hm,hs,ht⟩
 ·exact ⟨none,0,rfl,by omega,by simp,fun _=>⟨rfl,rfl⟩,.inl (List.eq_nil_of_length_eq_zero (by omega))⟩
 ·refine ⟨_,cap,rfl,hn,hm,(fun h=>by cases h),.inr ⟨g,0,rfl,fun i hi=>⟨hb,?_⟩⟩⟩;rw [show 0+i=i by omega];exact ho.cellAt i (by omega)
theorem b5Z {l:List Tm} {m:Nat} {s:Tm} (h:l[m]?=some s):l=l.take m++s::l.drop (m+1)/\m<l.length:=by
 have hm:m<l.length:=by
  rcases Nat.lt_or_ge m l.length with h1 | h1
  ·exact h1
  ·rw [getElem?_eq_none h1] at h;cases h
 refine ⟨?_,hm⟩;have e:l[m]=s:=by rw [getElem?_eq_getElem hm] at h;exact Option.some.inj h
 rw [<-e,<-List.drop_eq_getElem_cons hm,List.take_append_drop]
def cov (a b:Tm):Prop:=∀ v,b.vs.count v<=a.vs.count v
def b2g (z w:Int):Int:=if 0<z then 1 else if z<0 then -1 else w
noncomputable def b7V (o:Int) (c d:Prop):Int:=
 haveI:=Classical.propDecidable
 if (o=1/\¬ c)\/(o = -1/\¬ d) then 2 else o
noncomputable def a0N (z:Int) (c d:Prop) (w:Int):Int:=if w=0 then 0 else b7V (b2g z w) c d
def hdK (a b:Tm):Int:=if a.f<0\/b.f<0 then 2 else if a.f≠b.f then M3 a.f b.f else M3 a.l.length b.l.length
noncomputable def U7 (k:Int) (r:Int):Int:=if k≠0 then k else r
noncomputable def szD (a b:Tm):Int:=(a.size:Int)-b.size
noncomputable def kb (p:Tm):Tm->Int:=
 Tm.rec (motive_1:=fun _=>Tm->Int) (motive_2:=fun _=>List Tm->Int)
  (fun f l ih t=>a0N (szD ⟨f,l⟩ t) (cov ⟨f,l⟩ t) (cov t ⟨f,l⟩) (if f≠t.f\/(Tm.mk f l).ps.length≠t.ps.length then hdK ⟨f,l⟩ t else if f<0 then 0 else ih t.l))
  (fun _=>0)
  (fun _ _ ih1 ih2 ts=>match ts with | []=>0 | t::ts=>U7 (ih1 t) (ih2 ts)) p
noncomputable def kbs (ps:List Tm):List Tm->Int:=
 Tm.rec_1 (motive_1:=fun _=>Tm->Int) (motive_2:=fun _=>List Tm->Int)
  (fun f l ih t=>a0N (szD ⟨f,l⟩ t) (cov ⟨f,l⟩ t) (cov t ⟨f,l⟩) (if f≠t.f\/(Tm.mk f l).ps.length≠t.ps.length then hdK ⟨f,l⟩ t else if f<0 then 0 else ih t.l))
  (fun _=>0)
  (fun _ _ ih1 ih2 ts=>match ts with | []=>0 | t::ts=>U7 (ih1 t) (ih2 ts)) ps
noncomputable def wi (a b:Tm):Int:=if a.f≠b.f\/a.ps.length≠b.ps.length then hdK a b else kbs a.ps b.ps
theorem a3O (ts:List Tm):kbs [] ts=0:=rfl
theorem G5 (p:Tm) (ps:List Tm) (t:Tm) (ts:List Tm):kbs (p::ps) (t::ts)=U7 (kb p t) (kbs ps ts):=rfl
theorem K9 (a b:Tm):kb a b=a0N (szD a b) (cov a b) (cov b a) (wi a b):=by
 cases a with
 | mk f l =>
  show a0N _ _ _ _=_;congr 1;unfold wi;simp only;split
  ·rfl
  ·rename_i h;by_cases hf:f<0
   ·rw [if_pos hf,Tm.ps_of_var (t:=⟨f,l⟩) hf,a3O]
   ·rw [if_neg hf,Tm.ps_of_sym (t:=⟨f,l⟩) (by show 0<=f;omega),Tm.ps_of_sym (t:=b) (by have:=Classical.not_not.1 (fun e=>h (.inl e));omega)];rfl
theorem R2 (z:Int) (c d:Prop) (w:Int):(w=0/\a0N z c d w=0)\/(w≠0/\∃ o,((0<z/\o=1)\/(z<0/\o = -1)\/(z=0/\o=w))/\((a0N z c d w=2/\((o=1/\¬ c)\/(o = -1/\¬ d)))\/(a0N z c d w=o/\¬ ((o=1/\¬ c)\/(o = -1/\¬ d))))):=by
 unfold a0N;by_cases h0:w=0
 ·left;exact ⟨h0,if_pos h0⟩
 ·right;refine ⟨h0,b2g z w,?_,?_⟩
  ·unfold b2g;by_cases h1:0<z
   ·rw [if_pos h1];exact .inl ⟨h1,rfl⟩
   ·rw [if_neg h1];by_cases h2:z<0
    ·rw [if_pos h2];exact .inr (.inl ⟨h2,rfl⟩)
    ·rw [if_neg h2];exact .inr (.inr ⟨by omega,rfl⟩)
  ·rw [if_neg h0];generalize b2g z w=o;unfold b7V;by_cases h3:(o=1/\¬ c)\/(o = -1/\¬ d)
   ·left;exact ⟨if_pos h3,h3⟩
   ·right;exact ⟨if_neg h3,h3⟩
theorem x8 {z:Int} {c d:Prop} {w:Int}:a0N z c d w=0↔w=0:=by
 rcases R2 z c d w with ⟨h1,h2⟩ | ⟨h1,o,h2,⟨h3,h4⟩ | ⟨h3,h4⟩⟩
 ·exact ⟨fun _=>h1,fun _=>h2⟩
 ·omega
 ·omega
theorem a4H {z:Int} {c d:Prop} {w:Int}:a0N z c d w=1↔w≠0/\c/\(0<z\/(z=0/\w=1)):=by
 rcases R2 z c d w with ⟨h1,h2⟩ | ⟨h1,o,h2,⟨h3,h4⟩ | ⟨h3,h4⟩⟩
 ·constructor
  ·intro h;omega
  ·rintro ⟨h,_⟩;exact absurd h1 h
 ·constructor
  ·intro h;omega
  ·rintro ⟨_,hc,h⟩;have:o=1:=by omega
   rcases h4 with h4 | h4
   ·exact absurd hc h4.2
   ·omega
 ·constructor
  ·intro h;have ho:o=1:=by omega
   exact ⟨h1,Classical.not_not.1 fun hc=>h4 (.inl ⟨ho,hc⟩),by omega⟩
  ·rintro ⟨_,hc,h⟩;omega
theorem a5X {z:Int} {c d:Prop} {w:Int}:a0N z c d w = -1↔w≠0/\d/\(z<0\/(z=0/\w = -1)):=by
 rcases R2 z c d w with ⟨h1,h2⟩ | ⟨h1,o,h2,⟨h3,h4⟩ | ⟨h3,h4⟩⟩
 ·constructor
  ·intro h;omega
  ·rintro ⟨h,_⟩;exact absurd h1 h
 ·constructor
  ·intro h;omega
  ·rintro ⟨_,hc,h⟩;have:o = -1:=by omega
   rcases h4 with h4 | h4
   ·omega
   ·exact absurd hc h4.2
 ·constructor
  ·intro h;have ho:o = -1:=by omega
   exact ⟨h1,Classical.not_not.1 fun hc=>h4 (.inr ⟨ho,hc⟩),by omega⟩
  ·rintro ⟨_,hc,h⟩;omega
def K4 (k:Int):Prop:=k=0\/k=1\/k = -1\/k=2
theorem a2r {z:Int} {c d:Prop} {w:Int} (h:K4 w):K4 (a0N z c d w):=by
 unfold K4 at *;rcases R2 z c d w with ⟨h1,h2⟩ | ⟨h1,o,h2,⟨h3,h4⟩ | ⟨h3,h4⟩⟩<;>omega
theorem b3k (a b:Tm):K4 (hdK a b):=by
 unfold hdK K4;split
 ·omega
 ·split
  ·rcases n8 a.f b.f with h | h | h<;>omega
  ·rcases n8 a.l.length b.l.length with h | h | h<;>omega
theorem b4T {a b:Tm} (h:a.f≠b.f\/a.ps.length≠b.ps.length):hdK a b≠0:=by
 unfold hdK;split
 ·omega
 ·rename_i h1;rw [Tm.ps_of_sym (t:=a) (by omega),Tm.ps_of_sym (t:=b) (by omega)] at h;split
  ·rcases n8 a.f b.f with h2 | h2 | h2<;>omega
  ·rcases n8 a.l.length b.l.length with h2 | h2 | h2<;>omega
theorem a4I:∀ {l m:List Tm},(∀ s∈l,∀ t,K4 (kb s t))->K4 (kbs l m)
 | [],m,_ => .inl rfl
 | _::_,[],_ => .inl rfl
 | x::l,y::m,h=>by
  rw [G5];unfold U7;split
  ·exact h x (by simp) y
  ·exact a4I fun s hs=>h s (mem_cons_of_mem _ hs)
theorem a3N (a:Tm):∀ b,K4 (kb a b):=by
 induction a using Tm.indp with
 | h a ih =>
  intro b;rw [K9];refine a2r ?_;unfold wi;split
  ·exact b3k a b
  ·exact a4I ih
theorem a9r:∀ {l m:List Tm},l.length=m.length->(∀ s∈l,∀ t,kb s t=0↔s.strip=t.strip)->(kbs l m=0↔l.map Tm.strip=m.map Tm.strip)
 | [],[],_,_=>by simp [a3O]
 | [],_::_,h,_=>by simp at h
 | _::_,[],h,_=>by simp at h
 | x::l,y::m,h,ih=>by
  rw [G5,map_cons,map_cons,List.cons.injEq,<-ih x (by simp) y,<-a9r (by simpa using h) fun s hs=>ih s (mem_cons_of_mem _ hs)];unfold U7;split
  ·rename_i h1;constructor
   ·intro h2;exact absurd h2 h1
   ·rintro ⟨h2,_⟩;exact h2
  ·rename_i h1;exact ⟨fun h2=>⟨Classical.not_not.1 h1,h2⟩,fun h2=>h2.2⟩
theorem a6R (a b:Tm):a.strip=b.strip↔a.f=b.f/\a.ps.map Tm.strip=b.ps.map Tm.strip:=by
 rw [Tm.strip_eq,Tm.strip_eq b,Tm.mk.injEq]
theorem a7l (a:Tm):∀ b,kb a b=0↔a.strip=b.strip:=by
 induction a using Tm.indp with
 | h a ih =>
  intro b;rw [K9,x8,a6R];unfold wi;split
  ·rename_i h;constructor
   ·intro h1;exact absurd h1 (b4T h)
   ·rintro ⟨h1,h2⟩;have:=congrArg List.length h2;rw [length_map,length_map] at this;omega
  ·rename_i h;have hf:a.f=b.f:=by omega
   rw [a9r (by omega) ih];exact ⟨fun h1=>⟨hf,h1⟩,fun h1=>h1.2⟩
theorem cov_strip {a b:Tm}:cov a.strip b↔cov a b:=by unfold cov;rw [Tm.strip_vs]
theorem a4b {a b:Tm}:cov a b.strip↔cov a b:=by unfold cov;rw [Tm.strip_vs]
theorem b5f (a b:Tm):hdK a.strip b.strip=hdK a b:=by
 unfold hdK;rw [Tm.strip_f,Tm.strip_f];split
 ·rfl
 ·rename_i h;split
  ·rfl
  ·rw [Tm.strip_l,Tm.strip_l,length_map,length_map,Tm.ps_of_sym (t:=a) (by omega),Tm.ps_of_sym (t:=b) (by omega)]
theorem a5S:∀ {l m:List Tm},(∀ s∈l,∀ t,kb s.strip t.strip=kb s t)->kbs (l.map Tm.strip) (m.map Tm.strip)=kbs l m
 | [],m,_=>rfl
 | _::_,[],_=>rfl
 | x::l,y::m,h=>by
  rw [map_cons,map_cons,G5,G5,h x (by simp) y,a5S fun s hs=>h s (mem_cons_of_mem _ hs)]
theorem a1y (a:Tm):∀ b,kb a.strip b.strip=kb a b:=by
 induction a using Tm.indp with
 | h a ih =>
  intro b;rw [K9,K9 a];have h1:wi a.strip b.strip=wi a b:=by unfold wi;rw [Tm.strip_f,Tm.strip_f,Tm.strip_ps,Tm.strip_ps,length_map,length_map,b5f,a5S ih]
  have h2:szD a.strip b.strip=szD a b:=by unfold szD;rw [Tm.strip_size,Tm.strip_size]
  have h3:cov a.strip b.strip=cov a b:=propext (cov_strip.trans a4b);have h4:cov b.strip a.strip=cov b a:=propext (cov_strip.trans a4b);rw [h1,h2,h3,h4]
theorem b6I {a a' b b':Tm} (h:a.strip=a'.strip) (h2:b.strip=b'.strip):kb a b=kb a' b':=by rw [<-a1y a,h,h2,a1y]
theorem b7s (a b:Tm):kb a b=1↔cov a b/\(b.size<a.size\/(a.size=b.size/\wi a b=1)):=by
 rw [K9,a4H];unfold szD;constructor
 ·rintro ⟨h1,h2,h3⟩;exact ⟨h2,by omega⟩
 ·rintro ⟨h1,h2⟩;refine ⟨fun e=>?_,h1,by omega⟩;have h3:kb a b=0:=by rw [K9,x8];exact e
  have h4:=(a7l a b).1 h3;have h5:a.size=b.size:=by rw [<-Tm.strip_size,h4,Tm.strip_size]
  omega
theorem b9r (a b:Tm) (h:hdK a b≠2):hdK b a = - hdK a b:=by
 unfold hdK at *;by_cases h1:a.f<0\/b.f<0
 ·rw [if_pos h1] at h;exact absurd rfl h
 ·rw [if_neg h1,if_neg (by omega)];by_cases h2:a.f=b.f
  ·rw [if_neg (by omega),if_neg (by omega)];rcases n8 a.l.length b.l.length with h3 | h3 | h3<;>rcases n8 b.l.length a.l.length with h4 | h4 | h4<;>omega
  ·rw [if_pos (by omega),if_pos h2];rcases n8 a.f b.f with h3 | h3 | h3<;>rcases n8 b.f a.f with h4 | h4 | h4<;>omega
theorem b5u (a b:Tm) (h:hdK a b=2):hdK b a=2:=by
 unfold hdK at *;by_cases h1:a.f<0\/b.f<0
 ·rw [if_pos (by omega)]
 ·rw [if_neg h1] at h;exfalso;split at h
  ·rcases n8 a.f b.f with h3 | h3 | h3<;>omega
  ·rcases n8 a.l.length b.l.length with h3 | h3 | h3<;>omega
def trn (k:Int):Int:=if k=2 then 2 else-k
theorem a1r {k:Int} (h:K4 k):(trn k=0↔k=0)/\(trn k=1↔k = -1)/\(trn k = -1↔k=1)/\K4 (trn k):=by
 unfold trn K4 at *;split<;>omega
theorem b4s {z:Int} {c d:Prop} {w:Int} (h:K4 w):a0N (-z) d c (trn w)=trn (a0N z c d w):=by
 have h1:=a2r (z:=z) (c:=c) (d:=d) h;have t0:=a1r h;have h2:=a2r (z := -z) (c:=d) (d:=c) t0.2.2.2;have t1:=a1r h1;have a0:=@x8 z c d w;have a1:=@a4H z c d w;have a2:=@a5X z c d w;have b0:=@x8 (-z) d c (trn w);have b1:=@a4H (-z) d c (trn w);have b2:=@a5X (-z) d c (trn w);generalize a0N (-z) d c (trn w)=y at *;generalize a0N z c d w=x at *;have e0:y=0↔x=0:=by rw [b0,a0];exact t0.1
 have e1:y=1↔x = -1:=by
  rw [b1,a2];constructor
  ·rintro ⟨g1,g2,g3⟩;exact ⟨fun e=>g1 (t0.1.2 e),g2,by rcases g3 with g3 | ⟨g3,g4⟩;omega;exact .inr ⟨by omega,t0.2.1.1 g4⟩⟩
  ·rintro ⟨g1,g2,g3⟩;exact ⟨fun e=>g1 (t0.1.1 e),g2,by rcases g3 with g3 | ⟨g3,g4⟩;omega;exact .inr ⟨by omega,t0.2.1.2 g4⟩⟩
 have e2:y = -1↔x=1:=by
  rw [b2,a1];constructor
  ·rintro ⟨g1,g2,g3⟩;exact ⟨fun e=>g1 (t0.1.2 e),g2,by rcases g3 with g3 | ⟨g3,g4⟩;omega;exact .inr ⟨by omega,t0.2.2.1.1 g4⟩⟩
  ·rintro ⟨g1,g2,g3⟩;exact ⟨fun e=>g1 (t0.1.1 e),g2,by rcases g3 with g3 | ⟨g3,g4⟩;omega;exact .inr ⟨by omega,t0.2.2.1.2 g4⟩⟩
 unfold trn;unfold K4 at h1 h2;split<;>omega
theorem a9W:∀ {l m:List Tm},l.length=m.length->(∀ s∈l,∀ t,kb t s=trn (kb s t))->kbs m l=trn (kbs l m)
 | [],[],_,_=>by rw [a3O];rfl
 | [],_::_,h,_=>by simp at h
 | _::_,[],h,_=>by simp at h
 | x::l,y::m,h,ih=>by
  rw [G5,G5,ih x (by simp) y,a9W (by simpa using h) fun s hs=>ih s (mem_cons_of_mem _ hs)];have:=(a1r (a3N x y)).1;unfold U7;by_cases h1:kb x y=0
  ·rw [if_neg (fun e=>e (this.2 h1)),if_neg (by omega)]
  ·rw [if_pos (fun e=>h1 (this.1 e)),if_pos h1]
theorem b9n (a:Tm):∀ b,kb b a=trn (kb a b):=by
 induction a using Tm.indp with
 | h a ih =>
  intro b;rw [K9,K9 a];have h1:szD b a = - szD a b:=by unfold szD;omega
  have h4:K4 (wi a b):=by
   unfold wi;split
   ·exact b3k a b
   ·exact a4I fun s _ t=>a3N s t
  rw [h1,<-b4s h4];congr 1;unfold wi;by_cases h:a.f≠b.f\/a.ps.length≠b.ps.length
  ·rw [if_pos h,if_pos (by omega)];unfold trn;split
   ·rename_i h2;exact b5u a b h2
   ·rename_i h2;exact b9r a b h2
  ·rw [if_neg h,if_neg (by omega)];exact a9W (by omega) ih
theorem c1n {a b:Tm}:hdK a b=1↔¬ a.f<0/\¬ b.f<0/\(b.f<a.f\/(a.f=b.f/\b.l.length<a.l.length)):=by
 unfold hdK;split
 ·constructor
  ·intro h;omega
  ·rintro ⟨h1,h2,_⟩;omega
 ·rename_i h;split
  ·rename_i h2;rcases n8 a.f b.f with h3 | h3 | h3
   ·constructor
    ·intro h4;omega
    ·rintro ⟨_,_,h4⟩;omega
   ·constructor
    ·intro h4;omega
    ·rintro ⟨_,_,h4⟩;omega
   ·exact ⟨fun _=>⟨by omega,by omega,by omega⟩,fun _=>h3.1⟩
  ·rename_i h2;rcases n8 a.l.length b.l.length with h3 | h3 | h3
   ·constructor
    ·intro h4;omega
    ·rintro ⟨_,_,h4⟩;omega
   ·constructor
    ·intro h4;omega
    ·rintro ⟨_,_,h4⟩;omega
   ·exact ⟨fun _=>⟨by omega,by omega,by omega⟩,fun _=>h3.1⟩
theorem b1E {a b:Tm}:wi a b=1↔¬ a.f<0/\¬ b.f<0/\(b.f<a.f\/(a.f=b.f/\(b.l.length<a.l.length\/(a.l.length=b.l.length/\kbs a.l b.l=1)))):=by
 unfold wi;split
 ·rename_i h;rw [c1n];constructor
  ·rintro ⟨h1,h2,h3⟩;exact ⟨h1,h2,by omega⟩
  ·rintro ⟨h1,h2,h3⟩;rw [Tm.ps_of_sym (t:=a) (by omega),Tm.ps_of_sym (t:=b) (by omega)] at h;exact ⟨h1,h2,by omega⟩
 ·rename_i h;by_cases hf:a.f<0
  ·rw [Tm.ps_of_var hf,a3O];constructor
   ·intro h;omega
   ·rintro ⟨h1,_⟩;omega
  ·rw [Tm.ps_of_sym (t:=a) (by omega),Tm.ps_of_sym (t:=b) (by omega)] at h |-;constructor
   ·intro h1;exact ⟨hf,by omega,.inr ⟨by omega,.inr ⟨by omega,h1⟩⟩⟩
   ·rintro ⟨h1,h2,h3 | ⟨h3,h4 | ⟨h4,h5⟩⟩⟩
    ·omega
    ·omega
    ·exact h5
def cn (s:Tm) (l:List Tm):Nat:=l.countP (fun t=>l8 s t)
theorem b7l (s:Tm):cn s []=0:=rfl
theorem T1 (s t:Tm) (l:List Tm):cn s (t::l)=cn s l+(if l8 s t=true then 1 else 0):=by unfold cn;exact countP_cons
theorem a0M (s:Tm):l8 s s=true:=(k8 _ _).2 rfl
theorem b5X {s t:Tm} (h:l8 s t=true) (l:List Tm):cn s l=cn t l:=by
 unfold cn;refine List.countP_congr fun x _=>?_;rw [k8,k8,(k8 _ _).1 h]
theorem a5D {s:Tm} {l:List Tm}:0<cn s l↔∃ t∈l,l8 s t=true:=by unfold cn;exact List.countP_pos_iff
theorem b1O {t:Tm} {l:List Tm} (h:t∈l):0<cn t l:=a5D.2 ⟨t,h,a0M t⟩
theorem b2B {a a' b b':Tm} (h:l8 a a'=true) (h2:l8 b b'=true):kb a b=kb a' b':=b6I ((k8 _ _).1 h) ((k8 _ _).1 h2)
def c1D (A B:List Tm):Prop:=(∃ s,cn s B<cn s A)/\∀ s,cn s A<cn s B->∃ t,cn t B<cn t A/\kb t s=1
def C6:Nat->List Tm->List Tm->List Tm×List Tm
 | 0,a,b=>(a,b)
 | n+1,a,b=>match a[n]? with
  | none=>C6 n a b
  | some t=>match b.findIdx? (l8 t) with
   | none=>C6 n a b
   | some k=>C6 n (a.eraseIdx n) (b.eraseIdx k)
theorem a1q (s:Tm):∀ {l:List Tm} {k:Nat} {t:Tm},l[k]?=some t->cn s (l.eraseIdx k)+(if l8 s t=true then 1 else 0)=cn s l
 | [],k,t,h=>by simp at h
 | x::l,0,t,h=>by
  have e:x=t:=by simpa using h
  subst e;rw [List.eraseIdx_cons_zero,T1]
 | x::l,k+1,t,h=>by
  have e:=a1q s (l:=l) (k:=k) (t:=t) (by simpa using h);rw [List.eraseIdx_cons_succ,T1,T1,<-e];omega
theorem a7Z:∀ (n:Nat) (a b:List Tm) (s:Tm),cn s (C6 n a b).1+cn s b=cn s (C6 n a b).2+cn s a
 | 0,a,b,s=>by unfold C6;exact Nat.add_comm _ _
 | n+1,a,b,s=>by
  unfold C6;split
  ·exact a7Z n a b s
  ·rename_i t ht;split
   ·exact a7Z n a b s
   ·rename_i k hk;obtain ⟨kB,hp,_⟩:=List.findIdx?_eq_some_iff_getElem.1 hk;have h1:=a7Z n (a.eraseIdx n) (b.eraseIdx k) s;have h2:=a1q s ht;have h3:=a1q s (getElem?_eq_getElem kB);have h4:l8 s t=l8 s b[k]:=by rw [Bool.eq_iff_iff,k8,k8,(k8 _ _).1 hp]
    rw [h4] at h2;omega
theorem b0p {a:List Tm} {n:Nat} {t:Tm} (h:a[n]?=some t):a.drop n=t::a.drop (n+1):=by
 obtain ⟨hl,he⟩:=List.getElem?_eq_some_iff.1 h;rw [List.drop_eq_getElem_cons hl,he]
theorem b0I {a:List Tm} {n:Nat} (h:n<a.length):(a.eraseIdx n).drop n=a.drop (n+1):=by
 rw [List.eraseIdx_eq_take_drop_succ,List.drop_append];rw [length_take,Nat.min_eq_left (by omega)];simp
theorem a2b:∀ (n:Nat) (a b:List Tm),n<=a.length->(∀ t∈a.drop n,cn t b=0)->∀ t∈(C6 n a b).1,cn t (C6 n a b).2=0
 | 0,a,b,_,h=>by unfold C6;simpa using h
 | n+1,a,b,hn,h=>by
  unfold C6;split
  ·rename_i ht;rw [List.getElem?_eq_none_iff] at ht;omega
  ·rename_i t ht;split
   ·rename_i hk;refine a2b n a b (by omega) fun u hu=>?_;rw [b0p ht] at hu;rcases mem_cons.1 hu with rfl | hu
    ·rw [List.findIdx?_eq_none_iff] at hk;refine Nat.eq_zero_of_not_pos fun hc=>?_;obtain ⟨v,hv,he⟩:=a5D.1 hc;have:=hk v hv;rw [he] at this;cases this
    ·exact h u hu
   ·rename_i k hk;obtain ⟨kB,hp,_⟩:=List.findIdx?_eq_some_iff_getElem.1 hk;refine a2b n _ _ (by rw [List.length_eraseIdx_of_lt (by omega)];omega) fun u hu=>?_;rw [b0I (by omega)] at hu;have h1:=h u hu;have h2:=a1q u (getElem?_eq_getElem kB);omega
noncomputable def a5W (X Y:List Tm):Bool:=decide (0<X.length)&&!(Y.any fun y=>!(X.any fun x=>decide (kb x y=1)))
theorem a9b (X Y:List Tm):a5W X Y=true↔X≠[]/\∀ y∈Y,∃ x∈X,kb x y=1:=by
 unfold a5W;rw [Bool.and_eq_true,decide_eq_true_iff,Bool.not_eq_true',<-Bool.not_eq_true,any_eq_true,List.length_pos_iff];refine and_congr_right fun _=>⟨fun h y hy=>?_,fun h hc=>?_⟩
 ·by_cases hx:(X.any fun x=>decide (kb x y=1))=true
  ·obtain ⟨x,hx,he⟩:=any_eq_true.1 hx;exact ⟨x,hx,of_decide_eq_true he⟩
  ·exact absurd ⟨y,hy,by simpa using hx⟩ h
 ·obtain ⟨y,hy,he⟩:=hc;obtain ⟨x,hx,hk⟩:=h y hy;have:(X.any fun x=>decide (kb x y=1))=true:=any_eq_true.2 ⟨x,hx,decide_eq_true hk⟩;rw [this] at he;cases he
theorem b2J {X Y A B:List Tm} (h1:∀ s,cn s X=cn s A-cn s B) (h2:∀ s,cn s Y=cn s B-cn s A):a5W X Y=true↔c1D A B:=by
 rw [a9b];unfold c1D;constructor
 ·rintro ⟨h3,h4⟩;refine ⟨?_,fun s hs=>?_⟩
  ·cases X with
   | nil=>exact absurd rfl h3
   | cons x X =>
    have h5:=b1O (l:=x::X) List.mem_cons_self;have h6:=h1 x;exact ⟨x,by omega⟩
  ·have h5:=h2 s;obtain ⟨y,hy,he⟩:=a5D.1 (show 0<cn s Y by omega);obtain ⟨x,hx,hk⟩:=h4 y hy;have h6:=b1O hx;have h7:=h1 x;exact ⟨x,by omega,by rw [b2B (a0M x) he];exact hk⟩
 ·rintro ⟨⟨s,hs⟩,h4⟩;refine ⟨?_,fun y hy=>?_⟩
  ·rintro rfl;have h5:=h1 s;rw [b7l] at h5;omega
  ·have h5:=b1O hy;have h6:=h2 y;obtain ⟨t,ht,hk⟩:=h4 y (by omega);have h7:=h1 t;obtain ⟨x,hx,he⟩:=a5D.1 (show 0<cn t X by omega);exact ⟨x,hx,by rw [<-b2B he (a0M y)];exact hk⟩
noncomputable def a1O (a b:List Tm):Bool:=a5W (C6 a.length a b).1 (C6 a.length a b).2
theorem b5k (a b:List Tm):a1O a b=true↔c1D a b:=by
 have h1:=a7Z a.length a b;have h2:=a2b a.length a b (Nat.le_refl _) (by simp);have h3:∀ s,cn s (C6 a.length a b).1=0\/cn s (C6 a.length a b).2=0:=by
  intro s;by_cases hc:0<cn s (C6 a.length a b).1
  ·obtain ⟨t,ht,he⟩:=a5D.1 hc;right;rw [b5X he];exact h2 t ht
  ·left;omega
 refine b2J (fun s=>?_) (fun s=>?_)
 ·have:=h1 s;have:=h3 s;omega
 ·have:=h1 s;have:=h3 s;omega
def a5V (b:List Tm) (u:List Bool) (t:Tm):Option Nat:=(b.zip u).findIdx? (fun p=>!p.2&&l8 t p.1)
def lsD:List Tm->List Tm->List Bool->List Tm
 | [],b,u=>[]
 | t::a,b,u=>match a5V b u t with
  | none=>t::lsD a b u
  | some k=>lsD a b (u.set k true)
def rm (s:Tm) (b:List Tm) (u:List Bool):Nat:=(b.zip u).countP (fun p=>!p.2&&l8 s p.1)
theorem b7q (s:Tm):∀ {b:List Tm} {u:List Bool} {k:Nat} {t:Tm},(b.zip u)[k]?=some (t,false)->rm s b (u.set k true)+(if l8 s t=true then 1 else 0)=rm s b u
 | [],u,k,t,h=>by simp at h
 | x::b,[],k,t,h=>by simp at h
 | x::b,y::u,0,t,h=>by
  have e:x=t/\y=false:=by simpa using h
  obtain ⟨rfl,rfl⟩:=e;unfold rm;rw [List.set_cons_zero,zip_cons_cons,zip_cons_cons,countP_cons,countP_cons];simp
 | x::b,y::u,k+1,t,h=>by
  have e:=b7q s (b:=b) (u:=u) (k:=k) (t:=t) (by simpa using h);unfold rm at e |-;rw [List.set_cons_succ,zip_cons_cons,zip_cons_cons,countP_cons,countP_cons,<-e];omega
theorem b7U (s:Tm):∀ (a b:List Tm) (u:List Bool),cn s (lsD a b u)=cn s a-rm s b u
 | [],b,u=>by unfold lsD;rw [b7l];omega
 | t::a,b,u=>by
  unfold lsD;split
  ·rename_i hh;rw [T1,T1,b7U s a b u];unfold a5V at hh;rw [List.findIdx?_eq_none_iff] at hh;by_cases hs:l8 s t=true
   ·have h0:rm s b u=0:=by unfold rm;rw [List.countP_eq_zero];intro p hp hc;have:=hh p hp;rw [Bool.and_eq_true,k8,(k8 _ _).1 hs,<-k8,<-Bool.and_eq_true] at hc;rw [hc] at this;cases this
    rw [h0,if_pos hs];omega
   ·rw [if_neg hs];omega
  ·rename_i k hk;unfold a5V at hk;obtain ⟨hl,hp,_⟩:=List.findIdx?_eq_some_iff_getElem.1 hk;rw [Bool.and_eq_true,Bool.not_eq_true'] at hp;have he:(b.zip u)[k]?=some ((b.zip u)[k].1,false):=by rw [getElem?_eq_getElem hl,<-hp.1]
   have h1:=b7q s he;have h4:l8 s t=l8 s (b.zip u)[k].1:=by rw [Bool.eq_iff_iff,k8,k8,(k8 _ _).1 hp.2]
   rw [<-h4] at h1;rw [b7U s a b _,T1];by_cases hs:l8 s t=true
   ·rw [if_pos hs] at h1 |-;omega
   ·rw [if_neg hs] at h1 |-;omega
theorem b7S (s:Tm):∀ (b:List Tm),rm s b (List.replicate b.length false)=cn s b
 | []=>rfl
 | x::b=>by
  have e:=b7S s b;unfold rm at e |-;rw [length_cons,List.replicate_succ,zip_cons_cons,countP_cons,e,T1];simp
def a1s (a b:List Tm):List Tm:=lsD a b (List.replicate b.length false)
theorem b2j (s:Tm) (a b:List Tm):cn s (a1s a b)=cn s a-cn s b:=by unfold a1s;rw [b7U,b7S]
theorem b9S (a b:List Tm):a5W (a1s a b) (a1s b a)=a1O a b:=by
 rw [Bool.eq_iff_iff,b5k];exact b2J (fun s=>b2j s a b) (fun s=>b2j s b a)
structure Sc where
 sz:Int
 mp:List (Int×Int)
 sp:Int
 lk:Int
def A9:List (Int×Int)->Int->Option Int
 | [],_=>none
 | (k,x)::l,v=>if k=v then some x else A9 l v
def C4 (l:List (Int×Int)) (v:Int):Int:=(A9 l v).getD 0
def T9:List (Int×Int)->Int->Int->List (Int×Int)
 | [],v,y=>[(v,y)]
 | (k,x)::l,v,y=>if k=v then (v,y)::l else (k,x)::T9 l v y
theorem b9W (l:List (Int×Int)) (v y:Int):T9 l v y≠[]:=by
 cases l with
 | nil=>simp [T9]
 | cons p l =>
  obtain ⟨k,x⟩:=p;rw [T9];split<;>simp
theorem b3X (l:List (Int×Int)) (v y u:Int):A9 (T9 l v y) u=if v=u then some y else A9 l u:=by
 induction l with
 | nil=>rfl
 | cons p l ih =>
  obtain ⟨k,x⟩:=p;rw [T9];by_cases h:k=v
  ·rw [if_pos h,A9,A9];by_cases h2:v=u
   ·rw [if_pos h2,if_pos h2]
   ·rw [if_neg h2,if_neg h2,if_neg (by omega)]
  ·rw [if_neg h,A9,A9];by_cases h2:k=u
   ·rw [if_pos h2,if_pos h2,if_neg (by omega)]
   ·rw [if_neg h2,if_neg h2,ih]
theorem a8U (l:List (Int×Int)) (v y u:Int):C4 (T9 l v y) u=if v=u then y else C4 l u:=by
 unfold C4;rw [b3X];split<;>rfl
def C1 (s:Sc) (v σ:Int):Sc:=⟨s.sz,T9 s.mp v (C4 s.mp v+σ),s.sp+(max (C4 s.mp v+σ) 0-max (C4 s.mp v) 0),s.lk+(max (-(C4 s.mp v+σ)) 0-max (-(C4 s.mp v)) 0)⟩
def a7B (σ:Int) (s:Sc) (t:Tm):Sc:=if t.f<0 then C1 ⟨s.sz+σ,s.mp,s.sp,s.lk⟩ (-1-t.f) σ else ⟨s.sz+σ,s.mp,s.sp,s.lk⟩
def addT (σ:Int) (s:Sc) (t:Tm):Sc:=t.flat.foldl (a7B σ) s
def addL (σ:Int) (s:Sc) (l:List Tm):Sc:=(l.flatMap Tm.flat).foldl (a7B σ) s
theorem b5S {σ:Int} {s:Sc} {t:Tm} (h:t.f<0):addT σ s t=C1 ⟨s.sz+σ,s.mp,s.sp,s.lk⟩ (-1-t.f) σ:=by
 unfold addT;rw [Tm.flat_eq,Tm.ps_of_var h];show a7B σ s t=_;unfold a7B;rw [if_pos h]
theorem b6f {σ:Int} {s:Sc} {t:Tm} (h:¬ t.f<0):addT σ s t=addL σ ⟨s.sz+σ,s.mp,s.sp,s.lk⟩ t.l:=by
 unfold addT addL;rw [Tm.flat_eq,Tm.ps_of_sym (by omega),foldl_cons];congr 1;unfold a7B;rw [if_neg h]
theorem b4A {σ:Int} {s:Sc} {l:List Tm} {k:Nat} {t:Tm} (h:l[k]?=some t):addL σ s (l.take (k+1))=addT σ (addL σ s (l.take k)) t:=by
 unfold addL addT;rw [List.take_add_one,h,flatMap_append,List.foldl_append];simp
def upS (l:List (Int×Int)):Int:=(l.map fun p=>max p.2 0).sum
def dnS (l:List (Int×Int)):Int:=(l.map fun p=>max (-p.2) 0).sum
def ndk (l:List (Int×Int)):Prop:=(l.map (·.1)).Nodup
theorem a4x {l:List (Int×Int)} {v:Int} (h:v∉l.map (·.1)):A9 l v=none:=by
 induction l with
 | nil=>rfl
 | cons p l ih =>
  obtain ⟨k,x⟩:=p;rw [map_cons,mem_cons,not_or] at h;rw [A9,if_neg (fun e=>h.1 e.symm),ih h.2]
theorem b6M {l:List (Int×Int)} {v y u:Int} (h:u∈(T9 l v y).map (·.1)):u=v\/u∈l.map (·.1):=by
 induction l with
 | nil=>simp [T9] at h;exact .inl h
 | cons p l ih =>
  obtain ⟨k,x⟩:=p;rw [T9] at h;split at h
  ·rename_i e;rw [map_cons,mem_cons] at h |-;rcases h with h | h
   ·exact .inl h
   ·exact .inr (.inr h)
  ·rw [map_cons,mem_cons] at h |-;rcases h with h | h
   ·exact .inr (.inl h)
   ·rcases ih h with h | h
    ·exact .inl h
    ·exact .inr (.inr h)
theorem b8R {l:List (Int×Int)} (h:ndk l) (v y:Int):ndk (T9 l v y)/\upS (T9 l v y)=upS l+(max y 0-max (C4 l v) 0)/\dnS (T9 l v y)=dnS l+(max (-y) 0-max (-(C4 l v)) 0):=by
 induction l with
 | nil=>exact ⟨by simp [T9,ndk],by simp [T9,upS,C4,A9],by simp [T9,dnS,C4,A9]⟩
 | cons p l ih =>
  obtain ⟨k,x⟩:=p;unfold ndk at h;rw [map_cons,nodup_cons] at h;rw [T9];by_cases e:k=v
  ·rw [if_pos e];have hg:C4 ((k,x)::l) v=x:=by unfold C4 A9;rw [if_pos e];rfl
   rw [hg];refine ⟨by unfold ndk;rw [map_cons,nodup_cons];exact e▸h,?_,?_⟩
   ·simp only [upS,map_cons,sum_cons];omega
   ·simp only [dnS,map_cons,sum_cons];omega
  ·rw [if_neg e];have hg:C4 ((k,x)::l) v=C4 l v:=by unfold C4;rw [A9,if_neg e]
   obtain ⟨h1,h2,h3⟩:=ih h.2;rw [hg];refine ⟨?_,?_,?_⟩
   ·unfold ndk;rw [map_cons,nodup_cons];refine ⟨fun hm=>?_,h1⟩;rcases b6M hm with hm | hm
    ·exact e hm
    ·exact h.1 hm
   ·unfold upS at h2 |-;rw [map_cons,sum_cons,h2,map_cons,sum_cons];omega
   ·unfold dnS at h3 |-;rw [map_cons,sum_cons,h3,map_cons,sum_cons];omega
theorem b6w {l:List (Int×Int)} (h:ndk l):0<=upS l/\(upS l=0↔∀ v,C4 l v<=0):=by
 induction l with
 | nil=>exact ⟨by simp [upS],by simp [upS,C4,A9]⟩
 | cons p l ih =>
  obtain ⟨k,x⟩:=p;unfold ndk at h;rw [map_cons,nodup_cons] at h;obtain ⟨h1,h2⟩:=ih h.2;have e:upS ((k,x)::l)=max x 0+upS l:=by simp [upS]
  rw [e];refine ⟨by omega,?_⟩;constructor
  ·intro h3 v;have h4:=h2.1 (by omega) v;unfold C4 at h4 |-;rw [A9];split
   ·show x<=0;omega
   ·exact h4
  ·intro h3;have hx:=h3 k;unfold C4 at hx;rw [A9,if_pos rfl] at hx;have hx:x<=0:=hx;have:=h2.2 fun v=>by
    by_cases hv:k=v
    ·subst hv;unfold C4;rw [a4x h.1];exact Int.le_refl 0
    ·have:=h3 v;unfold C4 at this |-;rw [A9,if_neg hv] at this;exact this
   omega
theorem b6u {l:List (Int×Int)} (h:ndk l):0<=dnS l/\(dnS l=0↔∀ v,0<=C4 l v):=by
 induction l with
 | nil=>exact ⟨by simp [dnS],by simp [dnS,C4,A9]⟩
 | cons p l ih =>
  obtain ⟨k,x⟩:=p;unfold ndk at h;rw [map_cons,nodup_cons] at h;obtain ⟨h1,h2⟩:=ih h.2;have e:dnS ((k,x)::l)=max (-x) 0+dnS l:=by simp [dnS]
  rw [e];refine ⟨by omega,?_⟩;constructor
  ·intro h3 v;have h4:=h2.1 (by omega) v;unfold C4 at h4 |-;rw [A9];split
   ·show 0<=x;omega
   ·exact h4
  ·intro h3;have hx:=h3 k;unfold C4 at hx;rw [A9,if_pos rfl] at hx;have hx:0<=x:=hx;have:=h2.2 fun v=>by
    by_cases hv:k=v
    ·subst hv;unfold C4;rw [a4x h.1];exact Int.le_refl 0
    ·have:=h3 v;unfold C4 at this |-;rw [A9,if_neg hv] at this;exact this
   omega
structure Ss (s:Sc) (z:Int) (D:Int->Int):Prop where
 sz:s.sz=z
 nd:ndk s.mp
 sp:s.sp=upS s.mp
 lk:s.lk=dnS s.mp
 at_:∀ v,C4 s.mp v=D v
theorem Ss.addV {s:Sc} {z:Int} {D:Int->Int} (h:Ss s z D) (v σ:Int):Ss (C1 s v σ) z (fun u=>D u+if v=u then σ else 0):=by
 obtain ⟨h1,h2,h3⟩:=b8R h.nd v (C4 s.mp v+σ);refine ⟨h.sz,h1,?_,?_,fun u=>?_⟩
 ·show s.sp+_=upS (T9 _ _ _);rw [h2,h.sp]
 ·show s.lk+_=dnS (T9 _ _ _);rw [h3,h.lk]
 ·show C4 (T9 _ _ _) u=_;rw [a8U];split
  ·rename_i e;subst e;rw [h.at_]
  ·rw [h.at_];omega
theorem b5P {σ:Int} {s:Sc} {t:Tm} (h:t.f<0):a7B σ s t=C1 ⟨s.sz+σ,s.mp,s.sp,s.lk⟩ (-1-t.f) σ:=if_pos h
theorem b5J {σ:Int} {s:Sc} {t:Tm} (h:¬ t.f<0):a7B σ s t=⟨s.sz+σ,s.mp,s.sp,s.lk⟩:=if_neg h
theorem Ss.fold {σ:Int}:∀ {l:List Tm} {s:Sc} {z:Int} {D:Int->Int},Ss s z D->Ss (l.foldl (a7B σ) s) (z+σ*l.length) (fun v=>D v+σ*((vsL l).count v:Int))
 | [],s,z,D,h=>by
  refine ⟨by show s.sz=_;rw [h.sz];simp,h.nd,h.sp,h.lk,fun v=>?_⟩;show C4 s.mp v=_;rw [h.at_];simp [vsL]
 | t::l,s,z,D,h=>by
  rw [foldl_cons];have h0:Ss ⟨s.sz+σ,s.mp,s.sp,s.lk⟩ (z+σ) D:=⟨by show s.sz+σ=_;rw [h.sz],h.nd,h.sp,h.lk,h.at_⟩
  have e1:σ*((t::l).length:Int)=σ+σ*(l.length:Int):=by rw [length_cons];push_cast;rw [Int.mul_add];omega
  by_cases hf:t.f<0
  ·have h1:=(h0.addV (-1-t.f) σ).fold (σ:=σ) (l:=l);rw [b5P hf];refine ⟨?_,h1.nd,h1.sp,h1.lk,fun v=>?_⟩
   ·rw [h1.sz,e1];omega
   ·rw [h1.at_];have e2:(vsL (t::l)).count v=(if -1-t.f=v then 1 else 0)+(vsL l).count v:=by unfold vsL;rw [List.filter_cons,if_pos (by simpa using hf),map_cons,List.count_cons];simp only [beq_iff_eq];omega
    rw [e2];split
    ·push_cast;rw [Int.mul_add];omega
    ·push_cast;rw [Int.mul_add];omega
  ·have h1:=h0.fold (σ:=σ) (l:=l);rw [b5J hf];refine ⟨?_,h1.nd,h1.sp,h1.lk,fun v=>?_⟩
   ·rw [h1.sz,e1];omega
   ·rw [h1.at_];have e2:vsL (t::l)=vsL l:=by unfold vsL;rw [List.filter_cons,if_neg (by simpa using hf)]
    rw [e2]
noncomputable def mrv (p:Int×Int):CV := .row [.i p.1,.i p.2]
theorem a1j (l:List (Int×Int)):x6 .i64 (l.map mrv):=fun r hr=>by
 obtain ⟨p,_,rfl⟩:=List.mem_map.1 hr;exact ⟨p.1,.i p.2,rfl⟩
theorem b9C (l:List (Int×Int)) (v:Int):E3 .i64 v (l.map mrv)=(A9 l v).map CV.i:=by
 induction l with
 | nil=>rfl
 | cons p l ih =>
  obtain ⟨k,x⟩:=p;rw [map_cons,mrv,O4,A9];split
  ·rfl
  ·exact ih
theorem c1f (l:List (Int×Int)) (v:Int):(E3 .i64 v (l.map mrv)).getD (.sc (.int .i64 0)) = .i (C4 l v):=by
 rw [b9C];unfold C4;cases A9 l v<;>rfl
theorem b7j (l:List (Int×Int)) (v y:Int):a2u .i64 v (.i y) (l.map mrv)=(T9 l v y).map mrv:=by
 induction l with
 | nil=>rfl
 | cons p l ih =>
  obtain ⟨k,x⟩:=p;rw [map_cons,mrv,a4Z,T9];split
  ·rfl
  ·rw [map_cons,ih];rfl
noncomputable def mB (l:List (Int×Int)):AV:=⟨if l=[] then 17 else 14,.lst (l.map mrv),0,0,[]⟩
noncomputable abbrev sst (s:Sc):AS:=[(450001,.obj),(35500100,.val (.i s.sz)),(35500101,.mref 300001),(35500102,.val (.i s.sp)),(35500103,.val (.i s.lk)),(300001,mB s.mp)]
noncomputable abbrev c1z (z p k:Int):AS:=[(450001,.obj),(35500100,.val (.i z)),(35500101,.mref 300001),(35500102,.val (.i p)),(35500103,.val (.i k)),(300001,.nmap)]
noncomputable abbrev b8v (z:Int) (l:List (Int×Int)) (p k:Int):AS:=[(450001,.obj),(35500100,.val (.i z)),(35500101,.mref 300001),(35500102,.val (.i p)),(35500103,.val (.i k)),(300001,.mp (l.map mrv))]
theorem b4U {s:Sc} (h:s.mp=[]):sst s=c1z s.sz s.sp s.lk:=by simp only [sst,mB,h,if_true];rfl
theorem b4S {s:Sc} (h:s.mp≠[]):sst s=b8v s.sz s.mp s.sp s.lk:=by simp only [sst,mB,if_neg h]
theorem y0 (s:Sc):(sst s).all E2=true:=by
 by_cases h:s.mp=[]
 ·rw [b4U h];kernel_rfl
 ·rw [b4S h];kernel_rfl
theorem r9 (s:Sc):(sst s).all (F6 (kO (sst s)))=true:=by
 by_cases h:s.mp=[]
 ·rw [b4U h];kernel_rfl
 ·rw [b4S h];kernel_rfl
structure Bds (s:Sc) (n:Nat):Prop where
 sz : -(n:Int)<=s.sz/\s.sz<=n
 sp : -(n:Int)<=s.sp/\s.sp<=n
 lk : -(n:Int)<=s.lk/\s.lk<=n
 at_:∀ v,-(n:Int)<=C4 s.mp v/\C4 s.mp v<=n
theorem Bds.node {s:Sc} {n:Nat} {σ:Int} (h:Bds s n) (hσ:σ=1\/σ = -1) (t:Tm):Bds (a7B σ s t) (n+1):=by
 obtain ⟨h1,h2,h3,h4⟩:=h;unfold a7B;split
 ·unfold C1;have:=h4 (-1-t.f);refine ⟨by show _<=s.sz+σ/\s.sz+σ<=_;omega,by simp only;omega,by simp only;omega,fun v=>?_⟩;simp only;rw [a8U];have:=h4 v;split<;>omega
 ·exact ⟨by show _<=s.sz+σ/\s.sz+σ<=_;omega,by simp only;omega,by simp only;omega,fun v=>by have:=h4 v;simp only;omega⟩
theorem Bds.fold {σ:Int} (hσ:σ=1\/σ = -1):∀ {l:List Tm} {s:Sc} {n:Nat},Bds s n->Bds (l.foldl (a7B σ) s) (n+l.length)
 | [],s,n,h=>h
 | t::l,s,n,h=>by
  rw [foldl_cons,length_cons,show n+(l.length+1)=n+1+l.length by omega];exact (h.node hσ t).fold hσ
theorem Bds.addL {σ:Int} (hσ:σ=1\/σ = -1) {l:List Tm} {s:Sc} {n:Nat} (h:Bds s n):Bds (addL σ s l) (n+(l.flatMap Tm.flat).length):=h.fold hσ
theorem Bds.addT {σ:Int} (hσ:σ=1\/σ = -1) {t:Tm} {s:Sc} {n:Nat} (h:Bds s n):Bds (addT σ s t) (n+t.size):=h.fold hσ
theorem K8 (W:World) (t:Tm):AFun Tryz.prog W 155 [t.cw] (.val (.b (decide (t.f<0)))):=by
 refine a9 (rs:=[.b (decide (t.f<0))]) Tryz.func155 Tryz.ntmps155 rfl rfl rfl rfl ?_;intro w U hW;refine aS (aR ?_);refine nc zd (nc ze ?_);refine aS (aR ?_);refine nc zg (nc zh (nc zi (nc ze ?_)));exact aT ⟨.inr rfl,rfl⟩
theorem a8I (W:World) (t:Tm) (h1 : -9223372036854775808<=t.f) (h2:t.f<0):AFun Tryz.prog W 157 [t.cw] (.val (.i (-1-t.f))):=by
 refine a9 (rs:=[.i (-1-t.f)]) Tryz.func157 Tryz.ntmps157 rfl rfl rfl rfl ?_;intro w U hW;refine aS (aR ?_);refine nc zd (nc ze ?_);refine aS (aR ?_);refine nc zg (nc zh (nc zj (nc ze ?_)));exact aT ⟨.inr rfl,rfl⟩
theorem a4t (W:World) (t:Tm):AFun Tryz.prog W 141 [t.cw] (.val (.lst (t.ps.map Tm.cv))):=by
 refine a9 (rs:=[.lst (t.ps.map Tm.cv)]) Tryz.func141 Tryz.ntmps141 rfl rfl rfl rfl ?_;intro w U hW;refine aS (aR ?_);refine nc zd (nc ze ?_);refine aS (aS (aR ?_));refine nc zy (nc (zw (z:=K8 w t)) ?_);refine aC rfl (fun hc=>?_) (fun hc=>?_)
 ·have hf:t.f<0:=by simpa using hc
  rw [Tm.ps_of_var hf];refine aS (aR ?_);refine nc ze ?_;exact aT ⟨.inr rfl,rfl⟩
 ·have hf:¬ t.f<0:=by simpa using hc
  rw [Tm.ps_of_sym (by omega)];refine aK ?_;refine aS (aR ?_);refine nc zg (nc zh (nc ze ?_));exact aT ⟨.inr rfl,rfl⟩
theorem a7c (s:Sc) (n:Nat) (hb:Bds s n) (hn:n<=1000000000000) (v σ:Int) (hσ:σ=1\/σ = -1) (hm:s.mp=[]):p9 Tryz.prog 156 (c1z s.sz s.sp s.lk) [.bp 350001 0 [],.val (.i v),.val (.i σ)] (.tup []) (b8v s.sz (C1 s v σ).mp (C1 s v σ).sp (C1 s v σ).lk):=by
 have kZ:=hb.sp;have dJ:=hb.lk;have eV:=hb.at_ v;have hg:C4 [] v=C4 s.mp v:=by rw [hm]
 obtain ⟨was,eK⟩:∃ was,was=C4 s.mp v:=⟨_,rfl⟩
 rw [<-eK] at eV;refine k6 Tryz.func156 Tryz.ntmps156 rfl rfl rfl rfl rfl rfl ?_;intro w U hU;refine aS (aS (aR ?_));refine nc zl (nc z8 (nc zg (nc z9 (nc zbs ?_))));refine aC rfl (fun hc=>?_) (fun hc=>by cases hc);refine aR ?_;refine nc zl (ne (zbt 300002) (nc z8 (nc zg (nc zbc ?_))));refine aS (aR ?_);refine ne zl (ne z8 ?_)
 (first | (refine nx (aF (gN rfl) rfl rfl rfl rfl rfl rfl rfl rfl rfl) (by first | rfl | kernel_rfl) ?_) | (refine nx (L5 (gN rfl) rfl rfl rfl rfl rfl rfl rfl rfl rfl rfl rfl) (by first | rfl | kernel_rfl) ?_) | (refine nx (X1 (gN rfl) rfl rfl rfl rfl rfl rfl rfl rfl rfl) (by first | rfl | kernel_rfl) ?_))
 (first | (refine nx (aL (gN rfl) rfl rfl rfl rfl rfl rfl rfl rfl rfl rfl rfl rfl) (by first | rfl | kernel_rfl) ?_) | (refine nx (L3 (gN rfl) rfl rfl rfl rfl rfl rfl rfl rfl rfl rfl rfl rfl rfl) (by first | rfl | kernel_rfl) ?_) | (refine nx (aLb (gN rfl) rfl rfl rfl rfl rfl rfl rfl rfl rfl rfl rfl rfl) (by first | rfl | kernel_rfl) ?_) | (refine nx (O8 (gN rfl) rfl rfl rfl rfl rfl rfl rfl rfl rfl) (by first | rfl | kernel_rfl) ?_) | (refine nx (K5 (gN rfl) rfl rfl rfl rfl rfl rfl rfl rfl rfl) (by first | rfl | kernel_rfl) ?_) | (refine nx (aLf (gN rfl) rfl rfl rfl rfl rfl rfl rfl rfl rfl rfl rfl rfl rfl) (by first | rfl | kernel_rfl) ?_) | (refine nx (a_load_fullv (gN rfl) rfl rfl rfl rfl rfl rfl rfl rfl rfl) (by first | rfl | kernel_rfl) ?_))
 refine ne zl (ne (zbu (H :=  a1j [])) (ne ze ?_));refine AWp.wk (a7 (s':=[(0,AV.bp 350001 0 []),(1,.val (.i v)),(2,.val (.i σ)),(6,.val (.i was)),(450001,.obj),(35500100,.val (.i s.sz)),(35500101,.mref 300002),(35500102,.val (.i s.sp)),(35500103,.val (.i s.lk)),(300002,.mp (([]:List (Int×Int)).map mrv))]) ⟨rfl,rfl,rfl,?_,rfl,rfl,rfl,rfl,rfl,rfl,trivial⟩) ?_
 ·rw [eK,<-hg];rfl
 refine aS (aR ?_);refine nc zl (nc zl (nc zu (nc ze ?_)));refine aS (aR ?_);refine ne zl (ne z8 ?_)
 (first | (refine nx (aF (gN rfl) rfl rfl rfl rfl rfl rfl rfl rfl rfl) (by first | rfl | kernel_rfl) ?_) | (refine nx (L5 (gN rfl) rfl rfl rfl rfl rfl rfl rfl rfl rfl rfl rfl) (by first | rfl | kernel_rfl) ?_) | (refine nx (X1 (gN rfl) rfl rfl rfl rfl rfl rfl rfl rfl rfl) (by first | rfl | kernel_rfl) ?_))
 (first | (refine nx (aL (gN rfl) rfl rfl rfl rfl rfl rfl rfl rfl rfl rfl rfl rfl) (by first | rfl | kernel_rfl) ?_) | (refine nx (L3 (gN rfl) rfl rfl rfl rfl rfl rfl rfl rfl rfl rfl rfl rfl rfl) (by first | rfl | kernel_rfl) ?_) | (refine nx (aLb (gN rfl) rfl rfl rfl rfl rfl rfl rfl rfl rfl rfl rfl rfl) (by first | rfl | kernel_rfl) ?_) | (refine nx (O8 (gN rfl) rfl rfl rfl rfl rfl rfl rfl rfl rfl) (by first | rfl | kernel_rfl) ?_) | (refine nx (K5 (gN rfl) rfl rfl rfl rfl rfl rfl rfl rfl rfl) (by first | rfl | kernel_rfl) ?_) | (refine nx (aLf (gN rfl) rfl rfl rfl rfl rfl rfl rfl rfl rfl rfl rfl rfl rfl) (by first | rfl | kernel_rfl) ?_) | (refine nx (a_load_fullv (gN rfl) rfl rfl rfl rfl rfl rfl rfl rfl rfl) (by first | rfl | kernel_rfl) ?_))
 refine ne zl (ne zl (ne (zbg (G:=a1j [])) ?_));refine aS (aR ?_);refine nc zl (nc z8 (nc zg (nc z9 (nc zl (nc zbv (nc zl (nc zbv (nc zj (nc zu (nc z8 (nc zg (nc zbc ?_))))))))))));refine aR ?_;refine nc zl (nc z8 (nc zg (nc z9 (nc zl (nc zbw (nc zbv (nc zl (nc zbw (nc zbv (nc zj (nc zu (nc z8 (nc zg (nc zbc ?_))))))))))))));refine ⟨.inl rfl,_,(a7 (s':=[(450001,.obj),(35500100,.val (.i s.sz)),(35500101,.mref 300002),(35500102,.val (.i (C1 s v σ).sp)),(35500103,.val (.i (C1 s v σ).lk)),(300002,.mp ((C1 s v σ).mp.map mrv))]) ⟨rfl,rfl,rfl,?_,?_,?_,trivial⟩).trans (o8 300002 300001 rfl rfl (by kernel_rfl) (by kernel_rfl)),rfl,rfl,rfl,rfl,rfl,rfl,rfl,trivial⟩
 ·unfold C1;rw [<-eK];rfl
 ·unfold C1;rw [<-eK];rfl
 ·unfold C1;simp only;rw [<-eK,hm,<-b7j];rfl
theorem a6W (s:Sc) (n:Nat) (hb:Bds s n) (hn:n<=1000000000000) (v σ:Int) (hσ:σ=1\/σ = -1):p9 Tryz.prog 156 (b8v s.sz s.mp s.sp s.lk) [.bp 350001 0 [],.val (.i v),.val (.i σ)] (.tup []) (b8v s.sz (C1 s v σ).mp (C1 s v σ).sp (C1 s v σ).lk):=by
 have kZ:=hb.sp;have dJ:=hb.lk;have eV:=hb.at_ v;obtain ⟨was,eK⟩:∃ was,was=C4 s.mp v:=⟨_,rfl⟩
 rw [<-eK] at eV;refine k6 Tryz.func156 Tryz.ntmps156 rfl rfl rfl rfl rfl rfl ?_;intro w U hU;refine aS (aS (aR ?_));refine nc zl (nc z8 (nc zg (nc z9 (nc zbx ?_))));refine aC rfl (fun hc=>by cases hc) (fun hc=>?_);refine aK ?_;refine aS (aR ?_);refine ne zl (ne z8 ?_)
 (first | (refine nx (aF (gN rfl) rfl rfl rfl rfl rfl rfl rfl rfl rfl) (by first | rfl | kernel_rfl) ?_) | (refine nx (L5 (gN rfl) rfl rfl rfl rfl rfl rfl rfl rfl rfl rfl rfl) (by first | rfl | kernel_rfl) ?_) | (refine nx (X1 (gN rfl) rfl rfl rfl rfl rfl rfl rfl rfl rfl) (by first | rfl | kernel_rfl) ?_))
 (first | (refine nx (aL (gN rfl) rfl rfl rfl rfl rfl rfl rfl rfl rfl rfl rfl rfl) (by first | rfl | kernel_rfl) ?_) | (refine nx (L3 (gN rfl) rfl rfl rfl rfl rfl rfl rfl rfl rfl rfl rfl rfl rfl) (by first | rfl | kernel_rfl) ?_) | (refine nx (aLb (gN rfl) rfl rfl rfl rfl rfl rfl rfl rfl rfl rfl rfl rfl) (by first | rfl | kernel_rfl) ?_) | (refine nx (O8 (gN rfl) rfl rfl rfl rfl rfl rfl rfl rfl rfl) (by first | rfl | kernel_rfl) ?_) | (refine nx (K5 (gN rfl) rfl rfl rfl rfl rfl rfl rfl rfl rfl) (by first | rfl | kernel_rfl) ?_) | (refine nx (aLf (gN rfl) rfl rfl rfl rfl rfl rfl rfl rfl rfl rfl rfl rfl rfl) (by first | rfl | kernel_rfl) ?_) | (refine nx (a_load_fullv (gN rfl) rfl rfl rfl rfl rfl rfl rfl rfl rfl) (by first | rfl | kernel_rfl) ?_))
 refine ne zl (ne (zbu (H :=  a1j _)) (ne ze ?_));refine AWp.wk (a7 (s':=[(0,AV.bp 350001 0 []),(1,.val (.i v)),(2,.val (.i σ)),(6,.val (.i was)),(450001,.obj),(35500100,.val (.i s.sz)),(35500101,.mref 300001),(35500102,.val (.i s.sp)),(35500103,.val (.i s.lk)),(300001,.mp (s.mp.map mrv))]) ⟨rfl,rfl,rfl,?_,rfl,rfl,rfl,rfl,rfl,rfl,trivial⟩) ?_
 ·rw [eK,<-c1f];rfl
 refine aS (aR ?_);refine nc zl (nc zl (nc zu (nc ze ?_)));refine aS (aR ?_);refine ne zl (ne z8 ?_)
 (first | (refine nx (aF (gN rfl) rfl rfl rfl rfl rfl rfl rfl rfl rfl) (by first | rfl | kernel_rfl) ?_) | (refine nx (L5 (gN rfl) rfl rfl rfl rfl rfl rfl rfl rfl rfl rfl rfl) (by first | rfl | kernel_rfl) ?_) | (refine nx (X1 (gN rfl) rfl rfl rfl rfl rfl rfl rfl rfl rfl) (by first | rfl | kernel_rfl) ?_))
 (first | (refine nx (aL (gN rfl) rfl rfl rfl rfl rfl rfl rfl rfl rfl rfl rfl rfl) (by first | rfl | kernel_rfl) ?_) | (refine nx (L3 (gN rfl) rfl rfl rfl rfl rfl rfl rfl rfl rfl rfl rfl rfl rfl) (by first | rfl | kernel_rfl) ?_) | (refine nx (aLb (gN rfl) rfl rfl rfl rfl rfl rfl rfl rfl rfl rfl rfl rfl) (by first | rfl | kernel_rfl) ?_) | (refine nx (O8 (gN rfl) rfl rfl rfl rfl rfl rfl rfl rfl rfl) (by first | rfl | kernel_rfl) ?_) | (refine nx (K5 (gN rfl) rfl rfl rfl rfl rfl rfl rfl rfl rfl) (by first | rfl | kernel_rfl) ?_) | (refine nx (aLf (gN rfl) rfl rfl rfl rfl rfl rfl rfl rfl rfl rfl rfl rfl rfl) (by first | rfl | kernel_rfl) ?_) | (refine nx (a_load_fullv (gN rfl) rfl rfl rfl rfl rfl rfl rfl rfl rfl) (by first | rfl | kernel_rfl) ?_))
 refine ne zl (ne zl (ne (zbg (G:=a1j _)) ?_));refine aS (aR ?_);refine nc zl (nc z8 (nc zg (nc z9 (nc zl (nc zbv (nc zl (nc zbv (nc zj (nc zu (nc z8 (nc zg (nc zbc ?_))))))))))));refine aR ?_;refine nc zl (nc z8 (nc zg (nc z9 (nc zl (nc zbw (nc zbv (nc zl (nc zbw (nc zbv (nc zj (nc zu (nc z8 (nc zg (nc zbc ?_))))))))))))));refine ⟨.inl rfl,_,(a7 (s':=b8v s.sz (C1 s v σ).mp (C1 s v σ).sp (C1 s v σ).lk) ⟨rfl,rfl,rfl,?_,?_,?_,trivial⟩),rfl,rfl,rfl,rfl,rfl,rfl,rfl,trivial⟩
 ·unfold C1;rw [<-eK];rfl
 ·unfold C1;rw [<-eK];rfl
 ·unfold C1;simp only;rw [<-eK,<-b7j];rfl
theorem a8j (s:Sc) (n:Nat) (hb:Bds s n) (hn:n<=1000000000000) (v σ:Int) (hσ:σ=1\/σ = -1):p9 Tryz.prog 156 (sst s) [.bp 350001 0 [],.val (.i v),.val (.i σ)] (.tup []) (sst (C1 s v σ)):=by
 rw [b4S (s:=C1 s v σ) (b9W _ _ _)];by_cases h:s.mp=[]
 ·rw [b4U h];exact a7c s n hb hn v σ hσ h
 ·rw [b4S h];exact a6W s n hb hn v σ hσ
def c2G (σ:Int) (t:Tm):Prop:=∀ (s:Sc) (n:Nat),Bds s n->n+t.size<=1000000000000->p9 Tryz.prog 142 (sst s) [.bp 350001 0 [],.val t.cw,.val (.i σ)] (.tup []) (sst (addT σ s t))
theorem a3V (σ:Int) (hσ:σ=1\/σ = -1) (l:List Tm) (hl:l.length<=1000000000000) (ih:∀ t∈l,c2G σ t) (s:Sc) (n:Nat) (hb:Bds s n) (hn:n+(l.flatMap Tm.flat).length<=1000000000000):p9 Tryz.prog 145 (sst s) [.bp 350001 0 [],.val (.lst (l.map Tm.cv)),.val (.i σ)] (.tup []) (sst (addL σ s l)):=by
 have kD:=Tm.size_all l;refine k6 Tryz.func145 Tryz.ntmps145 rfl rfl rfl rfl rfl rfl ?_;intro w U hU;refine aS (aR ?_);refine nc zl (nc zp (nc zl ?_));refine aB (b9 l.length (fun k=>(0,.bp 350001 0 [])::(2,.val (.i σ))::(8,.val (.lst (l.map Tm.cv)))::(9,.val (.i (l.map Tm.cv).length))::(10,.val (.i k))::sst (addL σ s (l.take k))) (a7 ⟨rfl,rfl,rfl,rfl,rfl,rfl,rfl,rfl,rfl,rfl,rfl,trivial⟩) ?_);intro k hk;refine aS (aR ?_);refine nc zi ?_;refine aS (aC rfl (fun kA=>?_) (fun kA=>?_))
 ·have kB:k<l.length:=by simpa using kA
  obtain ⟨x,hx⟩:∃ x,l[k]?=some x:=⟨l[k],getElem?_eq_getElem kB⟩
  have kI:=Tm.map_at hx;have cD:=mem_of_getElem? hx;obtain ⟨sk,yP⟩:∃ sk,sk=addL σ s (l.take k):=⟨_,rfl⟩
  have jH:Bds sk (n+((l.take k).flatMap Tm.flat).length):=by rw [yP];exact hb.addL hσ
  have oC:n+((l.take k).flatMap Tm.flat).length+x.size<=1000000000000:=by
   have h2:(l.flatMap Tm.flat).length=((l.take k).flatMap Tm.flat).length+((l.drop k).flatMap Tm.flat).length:=by
    conv=>lhs;rw [<-List.take_append_drop k l]
    rw [flatMap_append,length_append]
   have h3:x.flat.length<=((l.drop k).flatMap Tm.flat).length:=I2 Tm.flat (mem_of_getElem? (i:=0) (by rw [List.getElem?_drop];simpa using hx));unfold Tm.size;omega
  have kR:=b4A (σ:=σ) (s:=s) hx;rw [<-yP] at kR;rw [<-yP];refine aK ?_;refine aS (aB (aS (aR ?_)));refine nc (zq (j:=k) (H:=kI) (hz:=kD)) (nc zr (ne zk (nc zo ?_)));refine aR ?_;refine nc zl (nc zy (nc zl (nc (zX (z:=ih x cD sk _ jH oC) (B:=y0 _) (C:=r9 _) (G:=j8 (by first | rfl | kernel_rfl))) ?_)));refine aR ?_;refine nc zu (nc zl ?_);refine ⟨kB,a7 ⟨rfl,rfl,rfl,rfl,rfl,rfl,?_,rfl,?_,?_,?_,trivial⟩⟩
  all_goals (rw [kR];rfl)
 ·have kB:k=l.length:=by
   have:¬ k<l.length:=by simpa using kA
   omega
  subst kB;rw [List.take_length];refine aE ?_;exact ⟨.inl rfl,_,Wk.refl _,rfl,rfl,rfl,rfl,rfl,rfl,rfl,trivial⟩
theorem X6 (σ:Int) (hσ:σ=1\/σ = -1):∀ t:Tm,t.rng->t.ok->c2G σ t:=by
 intro t
 induction t using Tm.ind with
 | h f l ih =>
 intro hr kG s n hb hn;have kG:=(Tm.ok_iff _).1 kG;have hr:=(Tm.rng_iff _).1 hr;simp only at kG hr;have gC:=hb.sz;have hsp:=Tm.size_pos ⟨f,l⟩;refine k6 Tryz.func142 Tryz.ntmps142 rfl rfl rfl rfl rfl rfl ?_;intro w U hU;refine aS (aR ?_);refine ne zd ?_;refine aS (aR ?_);refine nc zl (nc z8 (nc zg (nc z9 (nc zl (nc zu (nc z8 (nc zg (nc zbc ?_))))))));obtain ⟨s1,dZ⟩:∃ s1:Sc,s1=⟨s.sz+σ,s.mp,s.sp,s.lk⟩:=⟨_,rfl⟩
 have hb':Bds s1 (n+1):=by obtain ⟨b1,b2,b3,b4⟩:=hb;rw [dZ];exact ⟨by show _<=s.sz+σ/\s.sz+σ<=_;omega,by simp only;omega,by simp only;omega,fun v=>by have:=b4 v;simp only;omega⟩
 refine AWp.wk (a7 (s':=(0,AV.bp 350001 0 [])::(2,.val (.i σ))::(4,.bp 4 0 [])::(100004,.bx (Tm.cw ⟨f,l⟩))::sst s1) ⟨rfl,rfl,rfl,rfl,rfl,?_,rfl,?_,?_,?_,trivial⟩) ?_
 ·rw [dZ];rfl
 ·rw [dZ];rfl
 ·rw [dZ];rfl
 ·rw [dZ];rfl
 refine aS (aS (aR ?_));refine nc zy ?_;refine nc (zw (z:=K8 w ⟨f,l⟩)) ?_;refine aC rfl (fun hc=>?_) (fun hc=>?_)
 ·have hf:f<0:=by simpa using hc
  rw [b5S (t:=⟨f,l⟩) hf,<-dZ];refine aS (aR ?_);refine nc zl (nc zy ?_);refine nc (zw (z:=a8I w ⟨f,l⟩ hr.1.1 hf)) ?_;refine nc zl (nc (zX (z:=a8j s1 (n+1) hb' (by omega) (-1-f) σ hσ) (B:=y0 _) (C:=r9 _) (G:=j8 (by first | rfl | kernel_rfl))) ?_);exact aT ⟨.inr rfl,_,Wk.refl _,rfl,rfl,rfl,rfl,rfl,rfl,rfl,trivial⟩
 ·have hf:¬ f<0:=by simpa using hc
  rw [b6f (t:=⟨f,l⟩) hf,<-dZ];have hse:=Tm.size_eq ⟨f,l⟩;rw [Tm.ps_of_sym (t:=⟨f,l⟩) (by show 0<=f;omega)] at hse;simp only at hse;have kF:=Tm.len_ps ⟨f,l⟩;rw [Tm.ps_of_sym (t:=⟨f,l⟩) (by show 0<=f;omega)] at kF;simp only at kF;refine aK ?_;refine aR ?_;refine nc zl (nc zg (nc zh (nc zl ?_)));refine nc (zX (z:=a3V σ hσ l (by omega) (fun t ht=>ih t ht (hr.2 t ht) (kG.2 t ht)) s1 (n+1) hb' (by omega)) (B:=y0 _) (C:=r9 _) (G:=j8 (by first | rfl | kernel_rfl))) ?_;exact ⟨.inl rfl,_,Wk.refl _,rfl,rfl,rfl,rfl,rfl,rfl,rfl,trivial⟩
theorem a2O (σ:Int) (hσ:σ=1\/σ = -1) (l:List Tm) (hl:l.length<=1000000000000) (hr:∀ t∈l,t.rng/\t.ok) (s:Sc) (n:Nat) (hb:Bds s n) (hn:n+(l.flatMap Tm.flat).length<=1000000000000):p9 Tryz.prog 145 (sst s) [.bp 350001 0 [],.val (.lst (l.map Tm.cv)),.val (.i σ)] (.tup []) (sst (addL σ s l)):=
 a3V σ hσ l hl (fun t ht=>X6 σ hσ t (hr t ht).1 (hr t ht).2) s n hb hn
def b5a (s:Sc) (w:Int):Int:=if s.sz≠0 then M3 s.sz 0 else w
def vdS (s:Sc) (w:Int):Int:=if (b5a s w=1/\0<s.lk)\/(b5a s w = -1/\0<s.sp) then 2 else b5a s w
theorem Q8 (s:Sc) (x:Int):p9 Tryz.prog 143 (sst s) [.bp 350001 0 [],.val (.i x)] (.val (.i (vdS s x))) (sst s):=by
 refine k6 Tryz.func143 Tryz.ntmps143 rfl rfl rfl rfl rfl rfl ?_;intro w U hU;refine aS (aR ?_);refine nc ze ?_;refine aS (aR ?_);refine nc zl (nc ze ?_);refine T8 ((0,AV.bp 350001 0 [])::(5,.val (.i (b5a s x)))::sst s) ?_ ?_
 ·unfold b5a;refine aS (aR ?_);refine nc zl (nc z8 (nc zg (nc z9 (nc zE ?_))));refine aC rfl (fun hc=>?_) (fun hc=>?_)
  ·have h:s.sz≠0:=by simpa using hc
   rw [if_pos h];refine aR ?_;refine nc zl (nc z8 (nc zg (nc z9 (nc (zw (z:=a4e w s.sz 0)) (nc ze ?_)))));exact a7 ⟨rfl,rfl,rfl,rfl,rfl,rfl,rfl,rfl,trivial⟩
  ·have h:¬ s.sz≠0:=by simpa using hc
   rw [if_neg h];refine aK ?_;exact a7 ⟨rfl,rfl,rfl,rfl,rfl,rfl,rfl,rfl,trivial⟩
 unfold vdS;generalize b5a s x=o;by_cases h1:o=1
 ·subst h1;by_cases h2:0<s.lk
  ·have g:decide (s.lk>0)=true:=by simpa using h2
   rw [if_pos (.inl ⟨rfl,h2⟩)];refine aS (aS (aR ?_));refine nc zl (nc zt (nc zl (nc (zl (p:=gb)) (nc (z8 (r:=gb)) (nc (zg (r:=gb)) (nc (z9 (r:=gb)) (nc (zO (r:=gb)) (nc zJ (nc zl (nc U1 (nc U1 (nc U1 (nc (U1 (p:=l9 rfl rfl rfl rfl)) (nc (U1 (p:=l9 rfl rfl rfl rfl)) (nc (U1 (p:=l9 rfl rfl rfl rfl)) (nc (U1 (p:=l9 rfl rfl rfl rfl)) (nc (U1 (p:=l9 rfl rfl rfl rfl)) (nc U1 (nc zJ ?_)))))))))))))))))));refine aC rfl (fun hc=>?_) (fun hc=>by cases hc);refine aS (aR ?_);refine nc ze ?_;exact aT ⟨.inr rfl,_,Wk.refl _,rfl,rfl,rfl,rfl,rfl,rfl,rfl,trivial⟩
  ·have g:decide (s.lk>0)=false:=by simpa using h2
   rw [if_neg (by omega)];refine aS (aS (aR ?_));refine nc zl (nc zt (nc zl (nc (zl (p:=gb)) (nc (z8 (r:=gb)) (nc (zg (r:=gb)) (nc (z9 (r:=gb)) (nc (zO (r:=gb)) (nc zJ (nc zl (nc (zl (p:=gb)) (nc (zt (r:=gb)) (nc (zl (p:=gb)) (nc U1 (nc U1 (nc U1 (nc U1 (nc U1 (nc (zI (r:=gb)) (nc zI ?_)))))))))))))))))));refine aC rfl (fun hc=>by cases hc) (fun hc=>aK ?_);refine aS (aR ?_);refine nc zl (nc ze ?_);exact aT ⟨.inr rfl,_,Wk.refl _,rfl,rfl,rfl,rfl,rfl,rfl,rfl,trivial⟩
 ·have g1:decide (o=1)=false:=by simpa using h1
  by_cases h2:o = -1
  ·subst h2;by_cases h3:0<s.sp
   ·have g:decide (s.sp>0)=true:=by simpa using h3
    rw [if_pos (.inr ⟨rfl,h3⟩)];refine aS (aS (aR ?_));refine nc zl (nc zt (nc zl (nc U1 (nc U1 (nc U1 (nc U1 (nc U1 (nc zI (nc zl (nc (zl (p:=gb)) (nc (zt (r:=gb)) (nc (zl (p:=gb)) (nc (zl (p:=gb)) (nc (z8 (r:=gb)) (nc (zg (r:=gb)) (nc (z9 (r:=gb)) (nc (zO (r:=gb)) (nc (zJ (r:=gb)) (nc zI ?_)))))))))))))))))));refine aC rfl (fun hc=>?_) (fun hc=>by rw [g] at hc;cases hc);refine aS (aR ?_);refine nc ze ?_;exact aT ⟨.inr rfl,_,Wk.refl _,rfl,rfl,rfl,rfl,rfl,rfl,rfl,trivial⟩
   ·have g:decide (s.sp>0)=false:=by simpa using h3
    rw [if_neg (by omega)];refine aS (aS (aR ?_));refine nc zl (nc zt (nc zl (nc U1 (nc U1 (nc U1 (nc U1 (nc U1 (nc zI (nc zl (nc (zl (p:=gb)) (nc (zt (r:=gb)) (nc (zl (p:=gb)) (nc (zl (p:=gb)) (nc (z8 (r:=gb)) (nc (zg (r:=gb)) (nc (z9 (r:=gb)) (nc (zO (r:=gb)) (nc (zJ (r:=gb)) (nc zI ?_)))))))))))))))))));refine aC rfl (fun hc=>by rw [g] at hc;cases hc) (fun hc=>aK ?_);refine aS (aR ?_);refine nc zl (nc ze ?_);exact aT ⟨.inr rfl,_,Wk.refl _,rfl,rfl,rfl,rfl,rfl,rfl,rfl,trivial⟩
  ·have g2:decide (o = -1)=false:=by simpa using h2
   rw [if_neg (by omega)];refine aS (aS (aR ?_));refine nc zl (nc zt (nc zl (nc U1 (nc U1 (nc U1 (nc U1 (nc U1 (nc zI (nc zl (nc (zl (p:=gb)) (nc (zt (r:=gb)) (nc (zl (p:=gb)) (nc U1 (nc U1 (nc U1 (nc U1 (nc U1 (nc (zI (r:=gb)) (nc zI ?_)))))))))))))))))));refine aC rfl (fun hc=>by cases hc) (fun hc=>aK ?_);refine aS (aR ?_);refine nc zl (nc ze ?_);exact aT ⟨.inr rfl,_,Wk.refl _,rfl,rfl,rfl,rfl,rfl,rfl,rfl,trivial⟩
def orL:List Int->Int
 | []=>0
 | x::l=>if x≠0 then x else orL l
theorem b7A:∀ {l:List Int} {k:Nat} {x:Int},l[k]?=some x->x≠0->(∀ j y,j<k->l[j]?=some y->y=0)->orL l=x
 | [],k,x,h,_,_=>by simp at h
 | y::l,0,x,h,hx,_=>by
  simp at h;subst h;rw [orL,if_pos hx]
 | y::l,k+1,x,h,hx,hi=>by
  rw [orL,if_neg (by have:=hi 0 y (by omega) rfl;omega)];exact b7A (by simpa using h) hx fun j z hj hz=>hi (j+1) z (by omega) (by simpa using hz)
theorem a9a:∀ {l:List Int},(∀ x∈l,x=0)->orL l=0
 | [],_=>rfl
 | x::l,h=>by
  rw [orL,if_neg (by have:=h x (by simp);omega)];exact a9a fun y hy=>h y (mem_cons_of_mem _ hy)
theorem b9i (W:World) (l:List Int) (hl:l.length<=1000000000):AFun Tryz.prog W 158 [.lst (l.map CV.i)] (.val (.i (orL l))):=by
 have kD:=b8 l;refine a9 (rs:=[.i (orL l)]) Tryz.func158 Tryz.ntmps158 rfl rfl rfl rfl ?_;intro w U hW;refine aS (aR ?_);refine nc ze ?_;refine aS (aR ?_);refine nc ze ?_;refine aS (aS (aR ?_));refine nc zl (nc zp (nc zl ?_));refine aB (l7 l.length (fun k=>∀ j y,j<k->l[j]?=some y->y=0) (fun k=>[(3,.val (.i 0)),(6,.val (.lst (l.map CV.i))),(7,.val (.i (l.map CV.i).length)),(8,.val (.i k))]) (a7 ⟨rfl,rfl,rfl,rfl,trivial⟩) (fun j c hj=>by omega) ?_);intro k hk hI;refine aS (aR ?_);refine nc zi ?_;refine aS (aC rfl (fun kA=>?_) (fun kA=>?_))
 ·have kB:k<l.length:=by simpa using kA
  obtain ⟨x,hx⟩:∃ x,l[k]?=some x:=⟨l[k],getElem?_eq_getElem kB⟩
  have kI:(l.map CV.i)[k]?=some (CV.i x):=by rw [List.getElem?_map,hx];rfl
  refine aK ?_;refine aS (aB (aS (aR ?_)));refine nc (zq (j:=k) (H:=kI) (hz:=kD)) (nc zr (nc ze ?_));refine aS (aR ?_);refine nc zl (nc zl (nc zE ?_));refine aC rfl (fun hq=>?_) (fun hq=>?_)
  ·have hq:x≠0:=by simpa using hq
   refine aS (aR ?_);refine nc zl (nc ze ?_);rw [b7A hx hq hI];exact aT ⟨.inr rfl,rfl⟩
  ·have hq:x=0:=by simpa using hq
   refine aK ?_;refine aR ?_;refine nc zu (nc zl ?_);refine ⟨kB,fun j c hj hc=>?_,a7 ⟨rfl,rfl,rfl,rfl,trivial⟩⟩;rcases Nat.lt_or_ge j k with h | h
   ·exact hI j c h hc
   ·have:j=k:=by omega
    subst this;rw [hx] at hc;cases hc;exact hq
 ·have kB:¬ k<l.length:=by simpa using kA
  rw [a9a (l:=l) fun x hx=>?_]
  ·refine aE ?_;refine aS (aR ?_);refine nc zl (nc ze ?_);exact aT ⟨.inr rfl,rfl⟩
  ·obtain ⟨j,hj⟩:=List.getElem?_of_mem hx;have gK:j<l.length:=by
    rcases Nat.lt_or_ge j l.length with h | h
    ·exact h
    ·rw [getElem?_eq_none h] at hj;cases hj
   exact hI j x (by omega) hj
theorem c1R {a b:Tm} (h:¬ (a.f<0\/b.f<0)):hdK a b=orL [M3 a.f b.f,M3 a.l.length b.l.length]:=by
 unfold hdK;rw [if_neg h];simp only [orL];rcases n8 a.f b.f with h1 | h1 | h1
 ·rw [if_pos (by omega),if_pos (by omega)]
 ·rw [if_neg (by omega),if_neg (by omega)];split
  ·rfl
  ·omega
 ·rw [if_pos (by omega),if_pos (by omega)]
theorem a3A (W:World) (a b:Tm):AFun Tryz.prog W 144 [a.cw,b.cw] (.val (.i (hdK a b))):=by
 refine a9 (rs:=[.i (hdK a b)]) Tryz.func144 Tryz.ntmps144 rfl rfl rfl rfl ?_;intro w U hW;refine aS (aR ?_);refine nc zd (nc zd (nc ze ?_));by_cases ha:a.f<0
 ·have g:decide (a.f<0)=true:=by simpa using ha
  refine aS (aS (aR ?_));refine nc zy (nc (zw (z:=K8 w a)) (nc zl (nc zH (nc zH (nc zJ ?_)))));refine aC rfl (fun hc=>?_) (fun hc=>by cases hc);unfold hdK;rw [if_pos (.inl ha)];refine aS (aR ?_);refine nc ze ?_;exact aT ⟨.inr rfl,rfl⟩
 have g:decide (a.f<0)=false:=by simpa using ha
 refine aS (aS (aR ?_));refine nc zy (nc (zw (z:=K8 w a)) (nc zl (nc (zy (p:=gb)) (nc (zw (p:=gb) (z:=K8 w b)) (nc zI ?_)))));refine aC rfl (fun hc=>?_) (fun hc=>?_)
 ·have hb:b.f<0:=by simpa using hc
  unfold hdK;rw [if_pos (.inr hb)];refine aS (aR ?_);refine nc ze ?_;exact aT ⟨.inr rfl,rfl⟩
 ·have hb:¬ b.f<0:=by simpa using hc
  rw [c1R (by omega)];have e1:(a.l.map Tm.cv).length=a.l.length:=length_map ..;have e2:(b.l.map Tm.cv).length=b.l.length:=length_map ..;refine aK ?_;refine aS (aD (by kernel_rfl) (by kernel_rfl) ?_);refine nc zg (nc zh (nc zg (nc zh (nc (zw (z:=a4e w a.f b.f)) (nc zg (nc zh (nc zp (nc zg (nc zh (nc zp (nc (zw (z:=a4e w _ _)) (nc zC (nc (zw (z:=b9i w [_,_] (by simp))) (nc ze ?_))))))))))))));refine ⟨by kernel_rfl,?_⟩;rw [e1,e2];exact aT ⟨.inr rfl,rfl⟩
def emp:Sc:=⟨0,[],0,0⟩
noncomputable def a7Y (c:Int) (s:Sc) (l m:List Tm) (r:Sc):Sc:=if c≠0 then addL (-1) (addL 1 s l) m else r
noncomputable def scS (p:Tm):Tm->Sc:=
 Tm.rec (motive_1:=fun _=>Tm->Sc) (motive_2:=fun _=>List Tm->Sc)
  (fun f l ih t=>if f≠t.f\/(Tm.mk f l).ps.length≠t.ps.length then addT (-1) (addT 1 emp ⟨f,l⟩) t else if f<0 then emp else ih t.l)
  (fun _=>emp)
  (fun x l ih1 ih2 ts=>match ts with | []=>emp | t::ts=>a7Y (kb x t) (ih1 t) l ts (ih2 ts)) p
noncomputable def scs (ps:List Tm):List Tm->Sc:=
 Tm.rec_1 (motive_1:=fun _=>Tm->Sc) (motive_2:=fun _=>List Tm->Sc)
  (fun f l ih t=>if f≠t.f\/(Tm.mk f l).ps.length≠t.ps.length then addT (-1) (addT 1 emp ⟨f,l⟩) t else if f<0 then emp else ih t.l)
  (fun _=>emp)
  (fun x l ih1 ih2 ts=>match ts with | []=>emp | t::ts=>a7Y (kb x t) (ih1 t) l ts (ih2 ts)) ps
theorem b8N (m:List Tm):scs [] m=emp:=rfl
theorem a4Y (x:Tm) (l:List Tm) (y:Tm) (m:List Tm):scs (x::l) (y::m)=a7Y (kb x y) (scS x y) l m (scs l m):=rfl
theorem b1V {a b:Tm} (h:a.f≠b.f\/a.ps.length≠b.ps.length):scS a b=addT (-1) (addT 1 emp a) b:=by
 cases a;show (if _ then _ else _)=_;rw [if_pos h]
theorem b1L {a b:Tm} (h:¬ (a.f≠b.f\/a.ps.length≠b.ps.length)):scS a b=scs a.ps b.ps:=by
 cases a with
 | mk f l =>
  show (if _ then _ else _)=_;rw [if_neg h];by_cases hf:f<0
  ·rw [if_pos hf,Tm.ps_of_var (t:=⟨f,l⟩) hf,b8N]
  ·rw [if_neg hf,Tm.ps_of_sym (t:=⟨f,l⟩) (by show 0<=f;omega),Tm.ps_of_sym (t:=b) (by have:=Classical.not_not.1 (fun e=>h (.inl e));simp only at this;omega)];rfl
theorem a7T:∀ {l m:List Tm} {k:Nat} {x y:Tm},l[k]?=some x->m[k]?=some y->kb x y≠0->(∀ j u v,j<k->l[j]?=some u->m[j]?=some v->kb u v=0)->scs l m=addL (-1) (addL 1 (scS x y) (l.drop (k+1))) (m.drop (k+1))/\kbs l m=kb x y
 | [],_,k,x,y,h,_,_,_=>by simp at h
 | _::_,[],k,x,y,_,h,_,_=>by simp at h
 | u::l,v::m,0,x,y,h1,h2,kE,_=>by
  simp at h1 h2;subst h1;subst h2;rw [a4Y,G5];unfold a7Y U7;rw [if_pos kE,if_pos kE];exact ⟨rfl,rfl⟩
 | u::l,v::m,k+1,x,y,h1,h2,kE,hi=>by
  have h0:=hi 0 u v (by omega) rfl rfl;rw [a4Y,G5];unfold a7Y U7;rw [if_neg (by omega),if_neg (by omega)];exact a7T (by simpa using h1) (by simpa using h2) kE fun j u v hj hu hv=>hi (j+1) u v (by omega) (by simpa using hu) (by simpa using hv)
theorem a1u:∀ {l m:List Tm},(∀ (j:Nat) u v,l[j]?=some u->m[j]?=some v->kb u v=0)->scs l m=emp/\kbs l m=0
 | [],_,_=>⟨rfl,rfl⟩
 | _::_,[],_=>⟨rfl,rfl⟩
 | u::l,v::m,hi=>by
  have h0:=hi 0 u v rfl rfl;rw [a4Y,G5];unfold a7Y U7;rw [if_neg (by omega),if_neg (by omega)];exact a1u fun j u v hu hv=>hi (j+1) u v (by simpa using hu) (by simpa using hv)
theorem emp_ss:Ss emp 0 fun _=>0:=⟨rfl,by simp [ndk,emp],rfl,rfl,fun _=>rfl⟩
theorem emp_bds:Bds emp 0:=⟨by simp [emp],by simp [emp],by simp [emp],fun _=>by simp [emp,C4,A9]⟩
def vD (a b:Tm) (v:Int):Int:=(a.vs.count v:Int)-b.vs.count v
theorem b0d:∀ (l m:List Tm),l.length=m.length->(∃ (k:Nat) (x y:Tm),l[k]?=some x/\m[k]?=some y/\kb x y≠0/\∀ (j:Nat) u v,j<k->l[j]?=some u->m[j]?=some v->kb u v=0)\/∀ (j:Nat) u v,l[j]?=some u->m[j]?=some v->kb u v=0
 | [],_,_ => .inr fun j u v h=>by simp at h
 | _::_,[],h=>by simp at h
 | u::l,v::m,h=>by
  by_cases h0:kb u v=0
  ·rcases b0d l m (by simpa using h) with ⟨k,x,y,h1,h2,h3,h4⟩ | h1
   ·left;refine ⟨k+1,x,y,by simpa using h1,by simpa using h2,h3,fun j u' v' hj hu hv=>?_⟩;cases j with
    | zero=>simp at hu hv;subst hu;subst hv;exact h0
    | succ j=>exact h4 j u' v' (by omega) (by simpa using hu) (by simpa using hv)
   ·right;intro j u' v' hu hv;cases j with
    | zero=>simp at hu hv;subst hu;subst hv;exact h0
    | succ j=>exact h1 j u' v' (by simpa using hu) (by simpa using hv)
  ·left;exact ⟨0,u,v,rfl,rfl,h0,fun j u v hj=>by omega⟩
theorem a0O:∀ {l m:List Tm} {k:Nat},k<=l.length->l.length=m.length->(∀ j u v,j<k->l[j]?=some u->m[j]?=some v->kb u v=0)->((l.take k).flatMap Tm.flat).length=((m.take k).flatMap Tm.flat).length/\(l.take k).flatMap Tm.vs=(m.take k).flatMap Tm.vs
 | _,_,0,_,_,_=>by simp
 | [],_,k+1,h,_,_=>by simp at h
 | _::_,[],k+1,_,h,_=>by simp at h
 | u::l,v::m,k+1,h,hl,hi=>by
  have h0:=(a7l u v).1 (hi 0 u v (by omega) rfl rfl);obtain ⟨h1,h2⟩:=a0O (l:=l) (m:=m) (k:=k) (by simpa using h) (by simpa using hl) fun j u v hj hu hv=>hi (j+1) u v (by omega) (by simpa using hu) (by simpa using hv);have h3:u.flat.length=v.flat.length:=by have:=congrArg Tm.size h0;rw [Tm.strip_size,Tm.strip_size] at this;exact this
  have h4:u.vs=v.vs:=by have:=congrArg Tm.vs h0;rw [Tm.strip_vs,Tm.strip_vs] at this;exact this
  rw [List.take_succ_cons,List.take_succ_cons,flatMap_cons,flatMap_cons,flatMap_cons,flatMap_cons,length_append,length_append,h1,h2,h3,h4];exact ⟨rfl,rfl⟩
theorem a0a {l:List Tm} {k:Nat} {x:Tm} (h:l[k]?=some x):(l.flatMap Tm.flat).length=((l.take k).flatMap Tm.flat).length+(x.size+((l.drop (k+1)).flatMap Tm.flat).length)/\∀ v,(l.flatMap Tm.vs).count v=((l.take k).flatMap Tm.vs).count v+(x.vs.count v+((l.drop (k+1)).flatMap Tm.vs).count v):=by
 obtain ⟨h1,_⟩:=b5Z h;constructor
 ·conv=>lhs;rw [h1]
  rw [flatMap_append,flatMap_cons,length_append,length_append];rfl
 ·intro v
  conv=>lhs;rw [h1]
  rw [flatMap_append,flatMap_cons,List.count_append,List.count_append]
theorem a8T (a:Tm):∀ b,Bds (scS a b) (a.size+b.size)/\(kb a b=0->scS a b=emp)/\(kb a b≠0->Ss (scS a b) (szD a b) (vD a b)):=by
 induction a using Tm.indp with
 | h a ih =>
  intro b;by_cases h:a.f≠b.f\/a.ps.length≠b.ps.length
  ·rw [b1V h];have h1:Bds (addT (-1) (addT 1 emp a) b) (0+a.size+b.size):=(emp_bds.addT (.inl rfl)).addT (.inr rfl);refine ⟨by rw [Nat.zero_add] at h1;exact h1,fun h2=>?_,fun _=>?_⟩
   ·rw [K9,x8] at h2;unfold wi at h2;rw [if_pos h] at h2;exact absurd h2 (b4T h)
   ·have h2:=(emp_ss.fold (σ:=1) (l:=a.flat)).fold (σ := -1) (l:=b.flat);refine ⟨?_,h2.nd,h2.sp,h2.lk,fun v=>?_⟩
    ·refine h2.sz.trans ?_;unfold szD Tm.size;omega
    ·refine (h2.at_ v).trans ?_;unfold vD Tm.vs;omega
  ·rw [b1L h];have hw:wi a b=kbs a.ps b.ps:=by unfold wi;rw [if_neg h]
   have cI:a.ps.length=b.ps.length:=by omega
   rcases b0d a.ps b.ps cI with ⟨k,x,y,h1,h2,h3,h4⟩ | h1
   ·obtain ⟨e1,e2⟩:=a7T h1 h2 h3 h4;obtain ⟨b1,b2,b3⟩:=ih x (mem_of_getElem? h1) y;have hk:k<a.ps.length:=by
     rcases Nat.lt_or_ge k a.ps.length with h | h
     ·exact h
     ·rw [getElem?_eq_none h] at h1;cases h1
    obtain ⟨v1,v2⟩:=a0O (Nat.le_of_lt hk) cI h4;obtain ⟨l1,l2⟩:=a0a h1;obtain ⟨m1,m2⟩:=a0a h2;have sa:=a.size_eq;have sb:=b.size_eq;rw [e1];refine ⟨?_,fun h5=>?_,fun h5=>?_⟩
    ·have hB:=((b1.addL (.inl rfl) (l:=a.ps.drop (k+1))).addL (.inr rfl) (l:=b.ps.drop (k+1)))
     obtain ⟨q1,q2,q3,q4⟩:=hB;exact ⟨by omega,by omega,by omega,fun v=>by have:=q4 v;omega⟩
    ·rw [K9,x8,hw,e2] at h5;exact absurd h5 h3
    ·have h6:=((b3 h3).fold (σ:=1) (l:=(a.ps.drop (k+1)).flatMap Tm.flat)).fold (σ := -1) (l:=(b.ps.drop (k+1)).flatMap Tm.flat);refine ⟨?_,h6.nd,h6.sp,h6.lk,fun v=>?_⟩
     ·refine h6.sz.trans ?_;unfold szD;omega
     ·refine (h6.at_ v).trans ?_;rw [V7,V7];have p1:=l2 v;have p2:=m2 v;rw [<-v2] at p2;have hf:a.f=b.f:=by omega
      have ha:a.vs=a.ps.flatMap Tm.vs:=by
       by_cases hv:a.f<0
       ·rw [Tm.ps_of_var hv] at hk;simp at hk
       ·rw [Tm.vs_sym hv,Tm.ps_of_sym (by omega)]
      have hb:b.vs=b.ps.flatMap Tm.vs:=by
       by_cases hv:b.f<0
       ·rw [Tm.ps_of_var (t:=a) (by omega)] at hk;simp at hk
       ·rw [Tm.vs_sym hv,Tm.ps_of_sym (by omega)]
      unfold vD;rw [ha,hb];omega
   ·obtain ⟨e1,e2⟩:=a1u h1;rw [e1];refine ⟨?_,fun _=>rfl,fun h5=>?_⟩
    ·obtain ⟨q1,q2,q3,q4⟩:=emp_bds;exact ⟨by omega,by omega,by omega,fun v=>by have:=q4 v;omega⟩
    ·exfalso;apply h5;rw [K9,x8,hw,e2]
theorem b6K (z w:Int):(if z≠0 then M3 z 0 else w)=b2g z w:=by
 unfold b2g;rcases n8 z 0 with h | h | h
 ·rw [if_pos (by omega),if_neg (by omega),if_pos (by omega),h.1]
 ·rw [if_neg (by omega),if_neg (by omega),if_neg (by omega)]
 ·rw [if_pos (by omega),if_pos (by omega),h.1]
theorem b2t {s:Sc} {a b:Tm} (h:Ss s (szD a b) (vD a b)) {w:Int} (hw:w≠0):vdS s w=a0N (szD a b) (cov a b) (cov b a) w:=by
 have h1:0<s.lk↔¬ cov a b:=by
  obtain ⟨d1,d2⟩:=b6u h.nd;rw [h.lk];have:dnS s.mp=0↔cov a b:=by
   rw [d2];unfold cov;constructor
   ·intro h2 v;have:=h2 v;rw [h.at_] at this;unfold vD at this;omega
   ·intro h2 v;have:=h2 v;rw [h.at_];unfold vD;omega
  rw [<-this];omega
 have h2:0<s.sp↔¬ cov b a:=by
  obtain ⟨d1,d2⟩:=b6w h.nd;rw [h.sp];have:upS s.mp=0↔cov b a:=by
   rw [d2];unfold cov;constructor
   ·intro h2 v;have:=h2 v;rw [h.at_] at this;unfold vD at this;omega
   ·intro h2 v;have:=h2 v;rw [h.at_];unfold vD;omega
  rw [<-this];omega
 unfold vdS a0N b7V b5a;rw [if_neg hw,h.sz,b6K];by_cases h3:(b2g (szD a b) w=1/\¬ cov a b)\/(b2g (szD a b) w = -1/\¬ cov b a)
 ·rw [if_pos h3,if_pos (by rw [h1,h2];exact h3)]
 ·rw [if_neg h3,if_neg (by rw [h1,h2];exact h3)]
set_option maxHeartbeats 1000000 in
theorem a6Y:∀ a:Tm,a.rng->a.ok->a.size<=100000000000->∀ b:Tm,b.rng->b.ok->b.size<=100000000000->p9 Tryz.prog 115 (sst emp) [.bp 350001 0 [],.val a.cw,.val b.cw] (.val (.i (kb a b))) (sst (scS a b)):=by
 intro a
 induction a using Tm.indp with
 | h a ih =>
 intro hr kG qI b cO lE dG;have lC:=(Tm.ok_iff _).1 kG;have yQ:=(Tm.rng_iff _).1 hr;have jA:=(Tm.ok_iff _).1 lE;have qJ:=(Tm.rng_iff _).1 cO;have kD:=Tm.size_all a.ps;have cR:=Tm.size_all b.ps;have el:(a.ps.map Tm.cv).length=a.ps.length:=length_map ..;have el2:(b.ps.map Tm.cv).length=b.ps.length:=length_map ..;have tZ:=a.len_ps;have tT:=b.len_ps;obtain ⟨S,hS⟩:∃ S,S=scS a b:=⟨_,rfl⟩
 obtain ⟨sp1,sp2,sp3⟩:=a8T a b;refine k6 Tryz.func115 Tryz.ntmps115 rfl rfl rfl rfl rfl rfl ?_;intro w U hU;refine aS (aR ?_);refine nc zd (nc zd (nc ze ?_));refine aS (aD (by kernel_rfl) (by kernel_rfl) ?_);refine nc zy (nc (zw (z:=a4t w a)) (nc zy (nc (zw (z:=a4t w b)) (nc ze (nc ze ?_)))));refine ⟨by kernel_rfl,?_⟩;refine AWp.wk (a7 (s':=(0,AV.bp 350001 0 [])::(4,.bp 4 0 [])::(100004,.bx a.cw)::(5,.bp 5 0 [])::(100005,.bx b.cw)::(7,.val (.lst (a.ps.map Tm.cv)))::(8,.val (.lst (b.ps.map Tm.cv)))::sst emp) ⟨rfl,rfl,rfl,rfl,rfl,rfl,rfl,rfl,rfl,rfl,rfl,rfl,rfl,trivial⟩) ?_;by_cases h:a.f≠b.f\/a.ps.length≠b.ps.length
 case pos =>
  have hw:wi a b=hdK a b:=by unfold wi;rw [if_pos h]
  have mR:kb a b≠0:=by rw [K9,ne_eq,x8,hw];exact b4T h
  have eG:vdS (addT (-1) (addT 1 emp a) b) (hdK a b)=kb a b:=by have:=b2t (w:=hdK a b) (by have:=sp3 mR;rw [b1V h] at this;exact this) (b4T h);rw [this,K9,hw]
  rw [b1V h];by_cases hf:a.f≠b.f
  ·have g:decide (a.f≠b.f)=true:=by simpa using hf
   refine aS (aS (aR ?_));refine nc zg (nc zh (nc zg (nc zh (nc zE (nc zl (nc zH (nc zH (nc zH (nc zH (nc zH (nc zJ ?_)))))))))));refine aC rfl (fun hc=>?_) (fun hc=>by cases hc);refine aS (aR ?_);refine nc zl (nc zy (nc (zX (z:=X6 1 (.inl rfl) a hr kG emp 0 emp_bds (by omega)) (B:=y0 _) (C:=r9 _) (G:=j8 (by first | rfl | kernel_rfl))) ?_));refine aS (aR ?_);refine nc zl (nc zy (nc (zX (z:=X6 (-1) (.inr rfl) b cO lE (addT 1 emp a) (0+a.size) (emp_bds.addT (.inl rfl)) (by omega)) (B:=y0 _) (C:=r9 _) (G:=j8 (by first | rfl | kernel_rfl))) ?_));refine aS (aR ?_);refine nc zl (nc zy (nc zy (nc (zw (z:=a3A w a b)) (nc (zX (z:=Q8 (addT (-1) (addT 1 emp a) b) (hdK a b)) (B:=y0 _) (C:=r9 _) (G:=j8 (by first | rfl | kernel_rfl))) (nc ze ?_)))));rw [eG];exact aT ⟨.inr rfl,_,Wk.refl _,rfl,rfl,rfl,rfl,rfl,rfl,rfl,trivial⟩
  ·have g:decide (a.f≠b.f)=false:=by simpa using hf
   refine aS (aS (aR ?_));refine nc zg (nc zh (nc zg (nc zh (nc zE (nc zl (nc (zl (p:=gb)) (nc (zp (r:=gb)) (nc (zl (p:=gb)) (nc (zp (r:=gb)) (nc (zE (r:=gb)) (nc zI ?_)))))))))));refine aC rfl (fun hc=>?_) (fun hc=>?_)
   case refine_2 =>
    exfalso;have hc:=of_decide_eq_false hc;simp only [length_map,ne_eq,Decidable.not_not] at hc;omega
   refine aS (aR ?_);refine nc zl (nc zy (nc (zX (z:=X6 1 (.inl rfl) a hr kG emp 0 emp_bds (by omega)) (B:=y0 _) (C:=r9 _) (G:=j8 (by first | rfl | kernel_rfl))) ?_));refine aS (aR ?_);refine nc zl (nc zy (nc (zX (z:=X6 (-1) (.inr rfl) b cO lE (addT 1 emp a) (0+a.size) (emp_bds.addT (.inl rfl)) (by omega)) (B:=y0 _) (C:=r9 _) (G:=j8 (by first | rfl | kernel_rfl))) ?_));refine aS (aR ?_);refine nc zl (nc zy (nc zy (nc (zw (z:=a3A w a b)) (nc (zX (z:=Q8 (addT (-1) (addT 1 emp a) b) (hdK a b)) (B:=y0 _) (C:=r9 _) (G:=j8 (by first | rfl | kernel_rfl))) (nc ze ?_)))));rw [eG];exact aT ⟨.inr rfl,_,Wk.refl _,rfl,rfl,rfl,rfl,rfl,rfl,rfl,trivial⟩
 case neg =>
  have hf:a.f=b.f:=by omega
  have cI:a.ps.length=b.ps.length:=by omega
  have hw:wi a b=kbs a.ps b.ps:=by unfold wi;rw [if_neg h]
  have g:decide (a.f≠b.f)=false:=by simpa using hf
  refine aS (aS (aR ?_));refine nc zg (nc zh (nc zg (nc zh (nc zE (nc zl (nc (zl (p:=gb)) (nc (zp (r:=gb)) (nc (zl (p:=gb)) (nc (zp (r:=gb)) (nc (zE (r:=gb)) (nc zI ?_)))))))))));refine aC rfl (fun hc=>?_) (fun hc=>?_)
  ·exfalso;have hc:=of_decide_eq_true hc;simp only [length_map,ne_eq] at hc;omega
  refine aK ?_;refine aS (aS (aR ?_));refine nc zl (nc zp (nc zl ?_));refine aB (l7 a.ps.length (fun k=>∀ (j:Nat) u v,j<k->a.ps[j]?=some u->b.ps[j]?=some v->kb u v=0) (fun k=>(0,.bp 350001 0 [])::(7,.val (.lst (a.ps.map Tm.cv)))::(8,.val (.lst (b.ps.map Tm.cv)))::(39,.val (.i (a.ps.map Tm.cv).length))::(40,.val (.i k))::sst emp) (a7 ⟨rfl,rfl,rfl,rfl,rfl,rfl,rfl,rfl,rfl,rfl,rfl,trivial⟩) (fun j u v hj=>by omega) ?_);intro k hk hI;refine aS (aR ?_);refine nc zi ?_;refine aS (aC rfl (fun kA=>?_) (fun kA=>?_))
  ·have kB:k<a.ps.length:=by simpa using kA
   obtain ⟨x,hx⟩:∃ x,a.ps[k]?=some x:=⟨a.ps[k],getElem?_eq_getElem kB⟩
   obtain ⟨y,hy⟩:∃ y,b.ps[k]?=some y:=⟨b.ps[k]'(by omega),getElem?_eq_getElem (by omega)⟩
   have kI:=Tm.map_at hx;have gO:=Tm.map_at hy;have cD:=mem_of_getElem? hx;have mW:=mem_of_getElem? hy;have eN:=Tm.size_part cD;have eA:=Tm.size_part mW;have qK:=ih x cD (yQ.2 x (Tm.ps_mem cD).1) (lC.2 x (Tm.ps_mem cD).1) (by omega) y (qJ.2 y (Tm.ps_mem mW).1) (jA.2 y (Tm.ps_mem mW).1) (by omega);obtain ⟨q1,q2,q3⟩:=a8T x y;refine aK ?_;refine aS (aB (aS (aR ?_)));refine nc zl (nc ze ?_);refine aS (aD (by kernel_rfl) (by kernel_rfl) ?_);refine nc zl (nc zl (nc zl (nc (zq (j:=k) (H:=kI) (hz:=kD)) (nc zr (nc zl (nc zl (nc (zq (j:=k) (H:=gO) (hz:=cR)) (nc zr (nc (zX (z:=qK) (B:=y0 _) (C:=r9 _) (G:=j8 (by first | rfl | kernel_rfl))) (nc ze ?_))))))))));refine ⟨by kernel_rfl,?_⟩;refine aS (aR ?_);refine nc zl (nc zE ?_);refine aC rfl (fun hc=>?_) (fun hc=>?_)
   ·have kE:kb x y≠0:=by simpa using hc
    obtain ⟨e1,e2⟩:=a7T hx hy kE hI;have mR:kb a b≠0:=by rw [K9,ne_eq,x8,hw,e2];exact kE
    obtain ⟨l1,l2⟩:=a0a hx;obtain ⟨m1,m2⟩:=a0a hy;have sa:=a.size_eq;have sb:=b.size_eq;have hA:∀ t∈a.ps.drop (k+1),t.rng/\t.ok:=fun t ht=>⟨yQ.2 t (Tm.ps_mem (mem_of_mem_drop ht)).1,lC.2 t (Tm.ps_mem (mem_of_mem_drop ht)).1⟩
    have hB:∀ t∈b.ps.drop (k+1),t.rng/\t.ok:=fun t ht=>⟨qJ.2 t (Tm.ps_mem (mem_of_mem_drop ht)).1,jA.2 t (Tm.ps_mem (mem_of_mem_drop ht)).1⟩
    have c1:=a2O 1 (.inl rfl) (a.ps.drop (k+1)) (by rw [length_drop];omega) hA (scS x y) (x.size+y.size) q1 (by omega);have b1:=q1.addL (σ:=1) (.inl rfl) (l:=a.ps.drop (k+1));have c2:=a2O (-1) (.inr rfl) (b.ps.drop (k+1)) (by rw [length_drop];omega) hB _ _ b1 (by omega);rw [map_drop] at c1 c2;have eG:vdS (addL (-1) (addL 1 (scS x y) (a.ps.drop (k+1))) (b.ps.drop (k+1))) (kb x y)=kb a b:=by have:=b2t (w:=kb x y) (by have:=sp3 mR;rw [b1L h,e1] at this;exact this) kE;rw [this,K9 a b,hw,e2]
    refine aS (aR ?_);refine nc zl (nc zl (nc zl (nc zu (nc (zbr (lo:=k+1)) (nc (zX (z:=c1) (B:=y0 _) (C:=r9 _) (G:=j8 (by first | rfl | kernel_rfl))) ?_)))));refine aS (aR ?_);refine nc zl (nc zl (nc zl (nc zu (nc (zbr (lo:=k+1)) (nc (zX (z:=c2) (B:=y0 _) (C:=r9 _) (G:=j8 (by first | rfl | kernel_rfl))) ?_)))));refine aS (aR ?_);refine nc zl (nc zl (nc (zX (z:=Q8 _ (kb x y)) (B:=y0 _) (C:=r9 _) (G:=j8 (by first | rfl | kernel_rfl))) (nc ze ?_)));rw [eG,b1L h,e1];exact aT ⟨.inr rfl,_,Wk.refl _,rfl,rfl,rfl,rfl,rfl,rfl,rfl,trivial⟩
   ·have h0:kb x y=0:=by simpa using hc
    rw [q2 h0];refine aK ?_;refine aR ?_;refine nc zu (nc zl ?_);refine ⟨kB,fun j u v hj hu hv=>?_,a7 ⟨rfl,rfl,rfl,rfl,rfl,rfl,rfl,rfl,rfl,rfl,rfl,trivial⟩⟩;rcases Nat.lt_or_ge j k with h | h
    ·exact hI j u v h hu hv
    ·have:j=k:=by omega
     subst this;rw [hx] at hu;rw [hy] at hv;cases hu;cases hv;exact h0
  ·have kB:k=a.ps.length:=by
    have:¬ k<a.ps.length:=by simpa using kA
    omega
   subst kB;obtain ⟨e1,e2⟩:=a1u (l:=a.ps) (m:=b.ps) fun j u v hu hv=>hI j u v (by
    rcases Nat.lt_or_ge j a.ps.length with h | h
    ·exact h
    ·rw [getElem?_eq_none h] at hu;cases hu) hu hv
   have h0:kb a b=0:=by rw [K9,x8,hw,e2]
   rw [h0,sp2 h0];refine aE ?_;refine aS (aR ?_);refine nc ze ?_;exact aT ⟨.inr rfl,_,Wk.refl _,rfl,rfl,rfl,rfl,rfl,rfl,rfl,trivial⟩
theorem c1c:sst emp=c1z 0 0 0:=b4U rfl
theorem a8W (W:World) (a b:Tm) (hr:a.rng) (kG:a.ok) (hs:a.size<=100000000000) (cO:b.rng) (lE:b.ok) (dG:b.size<=100000000000):AFun Tryz.prog W 82 [a.cw,b.cw] (.val (.i (kb a b))):=by
 have hc:=a6Y a hr kG hs b cO lE dG;rw [c1c] at hc;refine a9 (rs:=[.i (kb a b)]) Tryz.func82 Tryz.ntmps82 rfl rfl rfl rfl ?_;intro w U hW;refine aS (aR ?_);refine nc zd (nc zd (nc ze ?_));refine aS (aR ?_);refine nc (zby 350001 (hnf:=fun v h=>by first | (rw [hW.1] at h;cases h) | (have h2:=hU _ v h;cases h2))) ?_;refine AWp.wk ((a7 (s':=[(2,AV.bp 2 0 []),(100002,.bx a.cw),(3,.bp 3 0 []),(100003,.bx b.cw),(5,.bp 350001 0 []),(450001,.obj),(35500100,.val (.i 0)),(35500101,.val (.sc (.map none))),(35500102,.val (.i 0)),(35500103,.val (.i 0))]) ⟨rfl,rfl,rfl,rfl,rfl,by kernel_rfl,by kernel_rfl,by kernel_rfl,by kernel_rfl,by kernel_rfl,trivial⟩).trans (b9T 35500101 300001 rfl rfl rfl (by kernel_rfl) (by kernel_rfl))) ?_;refine aS (aR ?_);refine nc zy (nc zy (nc (zX (z:=hc) (B:=by kernel_rfl) (C:=r9 _) (G:=j8 (by first | rfl | kernel_rfl))) (nc ze ?_)));exact aT ⟨.inr rfl,rfl⟩
theorem a6T (W:World) (a b:Tm) (hr:a.rng) (kG:a.ok) (hs:a.size<=100000000000) (cO:b.rng) (lE:b.ok) (dG:b.size<=100000000000):AFun Tryz.prog W 151 [a.cw,b.cw] (.val (.b (decide (kb a b=1)))):=by
 refine a9 (rs:=[.b (decide (kb a b=1))]) Tryz.func151 Tryz.ntmps151 rfl rfl rfl rfl ?_;intro w U hW;refine aS (aR ?_);refine nc zd (nc zd (nc ze ?_));refine aS (aR ?_);refine nc zy (nc zy (nc (zw (z:=a8W w a b hr kG hs cO lE dG)) (nc zt (nc ze ?_))));exact aT ⟨.inr rfl,rfl⟩
noncomputable def b2p (a b:Tm):Bool:=haveI:=Classical.propDecidable;decide (cov a b)
theorem a1g (a b:Tm):b2p a b=true↔cov a b:=by unfold b2p;simp
def zTm:Tm:=⟨0,[]⟩
theorem b2x (a:List Tm) (k i:Nat) (hi:i<a.length) :
  (((a++List.replicate k zTm).map Tm.cv).take i++((((a++List.replicate k zTm).map Tm.cv).drop (i+1)).take (a.length-(i+1))++((a++List.replicate k zTm).map Tm.cv).drop (i+(a.length-(i+1))))).take (a.length-1)++(List.replicate (a.length-(a.length-1)) zTm.cv++(((a++List.replicate k zTm).map Tm.cv).take i++((((a++List.replicate k zTm).map Tm.cv).drop (i+1)).take (a.length-(i+1))++((a++List.replicate k zTm).map Tm.cv).drop (i+(a.length-(i+1))))).drop (a.length-1+(a.length-(a.length-1))))=(a.eraseIdx i++List.replicate (k+1) zTm).map Tm.cv:=by
 have e1:((a++List.replicate k zTm).map Tm.cv).take i=(a.take i).map Tm.cv:=by rw [<-map_take,List.take_append_of_le_length (by omega)]
 have e2:(((a++List.replicate k zTm).map Tm.cv).drop (i+1)).take (a.length-(i+1))=(a.drop (i+1)).map Tm.cv:=by rw [<-map_drop,<-map_take,List.drop_append_of_le_length (by omega),List.take_append_of_le_length (by rw [length_drop];exact Nat.le_refl _),List.take_of_length_le (by rw [length_drop];exact Nat.le_refl _)]
 obtain ⟨E,hE⟩:∃ E,E=(a.eraseIdx i).map Tm.cv:=⟨_,rfl⟩
 have hEl:E.length=a.length-1:=by rw [hE,length_map,List.length_eraseIdx_of_lt hi]
 have e3:(a.take i).map Tm.cv++((a.drop (i+1)).map Tm.cv++((a++List.replicate k zTm).map Tm.cv).drop (i+(a.length-(i+1))))=E++((a++List.replicate k zTm).map Tm.cv).drop (a.length-1):=by rw [<-List.append_assoc,<-List.map_append,<-List.eraseIdx_eq_take_drop_succ,<-hE,show i+(a.length-(i+1))=a.length-1 by omega]
 rw [e1,e2,e3];have e4:a.length-(a.length-1)=1:=by omega
 have e5:a.length-1+1=a.length:=by omega
 have e7:(a.eraseIdx i++List.replicate (k+1) zTm).map Tm.cv=E++List.replicate (k+1) zTm.cv:=by rw [List.map_append,<-hE,List.map_replicate]
 rw [e4,e5,<-hEl,List.take_left,e7];have e6:(E++((a++List.replicate k zTm).map Tm.cv).drop E.length).drop a.length=List.replicate k zTm.cv:=by rw [List.drop_append,List.drop_eq_nil_of_le (by omega),List.nil_append,List.drop_drop,show E.length+(a.length-E.length)=a.length by omega,<-map_drop,List.drop_left,List.map_replicate]
 rw [e6,List.replicate_succ];rfl
theorem a7A (a:List Tm) (k:Nat):((a++List.replicate k zTm).map Tm.cv).take a.length=a.map Tm.cv:=by rw [<-map_take,List.take_left]
theorem a9G (W:World) (p:Tm->Bool) (fc:CV) (c:List Tm) (hl:c.length<=1000000) (hc:∀ W,∀ x∈c,Y5 Tryz.prog W fc [x.cw] (.val (.b (p x)))):AFun Tryz.prog W 147 [.lst (c.map Tm.cv),fc] (.val (.i (match c.findIdx? p with | some i=>(i:Int) | none => -1))):=by
 have kD:=Tm.size_all c;obtain ⟨R,hR⟩:∃ R:Int,R=match c.findIdx? p with | some i=>(i:Int) | none => -1:=⟨_,rfl⟩
 rw [<-hR];refine a9 (rs:=[.i R]) Tryz.func147 Tryz.ntmps147 rfl rfl rfl rfl ?_;intro w U hW;refine aS (aR ?_);refine nc ze ?_;refine aS (aS (aR ?_));refine nc zl (nc zp (nc zl ?_));refine aB (l7 c.length (fun k=>∀ x∈c.take k,p x=false) (fun k=>[(0,.val (.lst (c.map Tm.cv))),(1,.val fc),(7,.val (.i (c.map Tm.cv).length)),(8,.val (.i k))]) (a7 ⟨rfl,rfl,rfl,rfl,trivial⟩) (by simp) ?_);intro k hk hI;refine aS (aR ?_);refine nc zi ?_;refine aS (aC rfl (fun kA=>?_) (fun kA=>?_))
 ·have kB:k<c.length:=by simpa using kA
  obtain ⟨x,hx⟩:∃ x,c[k]?=some x:=⟨c[k],getElem?_eq_getElem kB⟩
  have kI:=Tm.map_at hx;have cD:=mem_of_getElem? hx;refine aK ?_;refine aS (aB (aS (aR ?_)));refine nc zl (nc ze ?_);refine aS (aR ?_);refine nc zl (nc zl (nc zl (nc (zq (j:=k) (H:=kI) (hz:=kD)) (nc zr (nc (zR (E:=hc w x cD)) ?_)))));refine aC rfl (fun hp=>?_) (fun hp=>?_)
  ·have oP:R=k:=by
    rw [hR];have:c.findIdx? p=some k:=by rw [List.findIdx?_eq_some_iff_getElem];obtain ⟨bB,e⟩:=List.getElem?_eq_some_iff.1 hx;refine ⟨bB,by rw [e];exact hp,fun j hj=>?_⟩;have:=hI c[j] (List.mem_take_iff_getElem.2 ⟨j,by omega,rfl⟩);simpa using this
    rw [this]
   rw [oP];refine aS (aR ?_);refine nc zl (nc ze ?_);exact aT (And.intro (.inr rfl) rfl)
  ·refine aK ?_;refine aR ?_;refine nc zu (nc zl ?_);refine ⟨kB,?_,a7 ⟨rfl,rfl,rfl,rfl,trivial⟩⟩;intro y hy;rw [List.take_add_one,hx,List.mem_append] at hy;rcases hy with hy | hy
   ·exact hI y hy
   ·simp at hy;rw [hy];exact hp
 ·have kB:k=c.length:=by
   have:¬ k<c.length:=by simpa using kA
   omega
  subst kB;rw [List.take_length] at hI;have hRn:R = -1:=by rw [hR,List.findIdx?_eq_none_iff.2 fun x hx=>by rw [hI x hx]]
  rw [hRn];refine aE ?_;refine aS (aR ?_);refine nc ze ?_;exact aT (And.intro (.inr rfl) rfl)
theorem a9A (W:World) (p:Tm->Bool) (fc:CV) (c:List Tm) (hl:c.length<=1000000) (hc:∀ W,∀ x∈c,Y5 Tryz.prog W fc [x.cw] (.val (.b (p x)))):AFun Tryz.prog W 126 [.lst (c.map Tm.cv),fc] (.val (.b (c.any p))):=by
 have e:decide ((match c.findIdx? p with | some i=>(i:Int) | none => -1)>=0)=c.any p:=by
  cases h:c.findIdx? p with
  | none =>
   have h1:=List.findIdx?_eq_none_iff.1 h;have:c.any p=false:=by rw [List.any_eq_false];intro x hx;rw [h1 x hx];simp
   rw [this];rfl
  | some i =>
   obtain ⟨hi,hp,_⟩:=List.findIdx?_eq_some_iff_getElem.1 h;have:c.any p=true:=any_eq_true.2 ⟨_,List.getElem_mem hi,hp⟩;rw [this];simp
 refine a9 (rs:=[.b (c.any p)]) Tryz.func126 Tryz.ntmps126 rfl rfl rfl rfl ?_;intro w U hW;refine aS (aR ?_);refine nc ze ?_;refine aS (aR ?_);refine nc zl (nc zl (nc (zw (z:=a9G w p fc c hl hc)) (nc zG (nc ze ?_))));rw [e];exact aT (And.intro (.inr rfl) rfl)
theorem a5z (a:List Tm) (k i:Nat) (hi:i<a.length) (hb:a.length+k<=1000000):p9 Tryz.prog 149 [(400001,.mrow 42 2 ((a++List.replicate k zTm).map Tm.cv))] [.sl 400001 0 a.length 2,.val (.i i),.val (.i ((i:Int)+1))] (.sl 400001 0 (a.length-1) 2) [(400001,.mrow 42 2 ((a.eraseIdx i++List.replicate (k+1) zTm).map Tm.cv))]:=by
 refine k6 Tryz.func149 Tryz.ntmps149 rfl rfl rfl rfl rfl rfl ?_;intro w U hU;obtain ⟨l,hl⟩:∃ l,l=(a++List.replicate k zTm).map Tm.cv:=⟨_,rfl⟩
 have cI:l.length=a.length+k:=by rw [hl];simp
 rw [<-hl];refine aS (aR ?_);refine nc ze ?_;refine aS (aR ?_);refine nc zl (nc zl (nc zl (nc zl (nc zY (nc (zbz (i) (i+1) (a.length)) ?_)))));refine aS (aS (aR ?_));refine nc zl (nc zl (nc zt ?_));refine aC rfl (fun h=>?_) (fun h=>?_)
 ·have h:decide ((i:Int)=(i:Int)+1)=true:=h;have:=of_decide_eq_true h;omega
 refine aK ?_;refine AWp.wk (a7 (s':=[(0,.sl 400001 0 a.length 2),(1,.val (.i i)),(2,.val (.i ((i:Int)+1))),(400001,.mrow 42 2 l)]) ⟨rfl,rfl,rfl,rfl,trivial⟩) ?_;refine aS (aR ?_);refine nc zl (nc zY (nc ze ?_));refine aS (aD (by kernel_rfl) (by kernel_rfl) ?_);refine nc zl (nc zl (nc (z5 (j:=i)) (nc zl (nc zl (nc (zZ (j:=i+1)) (nc zbA (nc ze ?_)))))));refine ⟨by kernel_rfl,?_⟩;obtain ⟨r1,jU⟩:∃ r1,r1=l.take i++((l.drop (0+(i+1))).take (a.length-(i+1))++l.drop (i+(a.length-(i+1)))):=⟨_,rfl⟩
 have hr1l:r1.length=l.length:=by rw [jU];simp only [length_append,length_take,length_drop];omega
 have e1:i+(a.length-(i+1))=a.length-1:=by omega
 refine AWp.wk (a7 (s':=[(0,.sl 400001 0 (a.length-1) 2),(7,.val (.i a.length)),(400001,.mrow 42 2 r1)]) ⟨by rw [<-e1];rfl,rfl,by rw [jU];rfl,trivial⟩) ?_;refine aS (aR ?_);refine nc zl (nc zl (nc zY (nc zl (nc (zbB (a.length-1) (a.length)) (nc z0 ?_)))));refine aS (aR ?_);refine nc zl (nc ze ?_);refine aT ⟨.inr rfl,_,Wk.refl _,rfl,?_,trivial⟩;show some (AV.mrow _ _ _)=some (AV.mrow _ _ _);have e2:=b2x a k i hi;rw [<-hl] at e2;rw [<-e2,jU,Nat.zero_add];rfl
theorem a5o (a:List Tm) (k i:Nat) (hi:i<a.length) (hb:a.length+k<=1000000):p9 Tryz.prog 149 [(400002,.mrow 42 2 ((a++List.replicate k zTm).map Tm.cv))] [.sl 400002 0 a.length 2,.val (.i i),.val (.i ((i:Int)+1))] (.sl 400002 0 (a.length-1) 2) [(400002,.mrow 42 2 ((a.eraseIdx i++List.replicate (k+1) zTm).map Tm.cv))]:=by
 refine k6 Tryz.func149 Tryz.ntmps149 rfl rfl rfl rfl rfl rfl ?_;intro w U hU;obtain ⟨l,hl⟩:∃ l,l=(a++List.replicate k zTm).map Tm.cv:=⟨_,rfl⟩
 have cI:l.length=a.length+k:=by rw [hl];simp
 rw [<-hl];refine aS (aR ?_);refine nc ze ?_;refine aS (aR ?_);refine nc zl (nc zl (nc zl (nc zl (nc zY (nc (zbz (i) (i+1) (a.length)) ?_)))));refine aS (aS (aR ?_));refine nc zl (nc zl (nc zt ?_));refine aC rfl (fun h=>?_) (fun h=>?_)
 ·have h:decide ((i:Int)=(i:Int)+1)=true:=h;have:=of_decide_eq_true h;omega
 refine aK ?_;refine AWp.wk (a7 (s':=[(0,.sl 400002 0 a.length 2),(1,.val (.i i)),(2,.val (.i ((i:Int)+1))),(400002,.mrow 42 2 l)]) ⟨rfl,rfl,rfl,rfl,trivial⟩) ?_;refine aS (aR ?_);refine nc zl (nc zY (nc ze ?_));refine aS (aD (by kernel_rfl) (by kernel_rfl) ?_);refine nc zl (nc zl (nc (z5 (j:=i)) (nc zl (nc zl (nc (zZ (j:=i+1)) (nc zbA (nc ze ?_)))))));refine ⟨by kernel_rfl,?_⟩;obtain ⟨r1,jU⟩:∃ r1,r1=l.take i++((l.drop (0+(i+1))).take (a.length-(i+1))++l.drop (i+(a.length-(i+1)))):=⟨_,rfl⟩
 have hr1l:r1.length=l.length:=by rw [jU];simp only [length_append,length_take,length_drop];omega
 have e1:i+(a.length-(i+1))=a.length-1:=by omega
 refine AWp.wk (a7 (s':=[(0,.sl 400002 0 (a.length-1) 2),(7,.val (.i a.length)),(400002,.mrow 42 2 r1)]) ⟨by rw [<-e1];rfl,rfl,by rw [jU];rfl,trivial⟩) ?_;refine aS (aR ?_);refine nc zl (nc zl (nc zY (nc zl (nc (zbB (a.length-1) (a.length)) (nc z0 ?_)))));refine aS (aR ?_);refine nc zl (nc ze ?_);refine aT ⟨.inr rfl,_,Wk.refl _,rfl,?_,trivial⟩;show some (AV.mrow _ _ _)=some (AV.mrow _ _ _);have e2:=b2x a k i hi;rw [<-hl] at e2;rw [<-e2,jU,Nat.zero_add];rfl
theorem b3L (W:World) (t u:Tm) (ht:t.rng) (hu:u.rng):AFun Tryz.prog W 148 [u.cw,.ptr t.cw] (.val (.b (l8 t u))):=by
 refine a9 (rs:=[.b (l8 t u)]) Tryz.func148 Tryz.ntmps148 rfl rfl rfl rfl ?_;intro w U hW;refine aS (aR ?_);refine nc zd (nc ze ?_);refine aS (aR ?_);refine nc zbC (nc zy (nc (zw (z:=b5V w ht hu)) (nc ze ?_)));exact aT (And.intro (.inr rfl) rfl)
noncomputable def rwT (n:Nat) (a:List Tm) (k:Nat):Nat×AV:=(n,.mrow 42 2 ((a++List.replicate k zTm).map Tm.cv))
theorem a4D:∀ (n:Nat) (a b:List Tm),(C6 n a b).1.length<=a.length/\(C6 n a b).2.length<=b.length
 | 0,a,b=>⟨Nat.le_refl _,Nat.le_refl _⟩
 | n+1,a,b=>by
  unfold C6;split
  ·exact a4D n a b
  ·split
   ·exact a4D n a b
   ·rename_i k hk;have h:=a4D n (a.eraseIdx n) (b.eraseIdx k);exact ⟨Nat.le_trans h.1 (List.length_eraseIdx_le _ _),Nat.le_trans h.2 (List.length_eraseIdx_le _ _)⟩
theorem a4g:∀ (n:Nat) (a b:List Tm),(∀ t∈(C6 n a b).1,t∈a)/\∀ t∈(C6 n a b).2,t∈b
 | 0,a,b=>⟨fun _ h=>h,fun _ h=>h⟩
 | n+1,a,b=>by
  unfold C6;split
  ·exact a4g n a b
  ·split
   ·exact a4g n a b
   ·rename_i k hk;have h:=a4g n (a.eraseIdx n) (b.eraseIdx k);exact ⟨fun t ht=>List.mem_of_mem_eraseIdx (h.1 t ht),fun t ht=>List.mem_of_mem_eraseIdx (h.2 t ht)⟩
theorem b6b (a b:List Tm) (ha:∀ t∈a,t.rng) (hb:∀ t∈b,t.rng) (fT:a.length<=100000) (mJ:b.length<=100000) :
  b4W Tryz.prog 123 [rwT 400001 a 0,rwT 400002 b 0] 400001 400002 (fun v1 v2=>[.val (.sc (a5l v1 a.length)),.val (.sc (a5l v2 b.length))]) (fun v1 v2 => .tup [.sc (a5l v1 (C6 a.length a b).1.length),.sc (a5l v2 (C6 a.length a b).2.length)]) [rwT 400001 (C6 a.length a b).1 (a.length-(C6 a.length a b).1.length),rwT 400002 (C6 a.length a b).2 (b.length-(C6 a.length a b).2.length)]:=by
 refine b6V 2 400001 3 400002 Tryz.func123 Tryz.ntmps123 rfl rfl (fun _ _=>rfl) rfl rfl rfl rfl rfl ?_;intro v1 v2 w U hU;obtain ⟨X,Y,yR⟩:∃ X Y,C6 a.length a b=(X,Y):=⟨_,_,rfl⟩
 rw [yR];have tZ:((a++List.replicate 0 zTm).map Tm.cv).length=a.length:=by simp
 have tT:((b++List.replicate 0 zTm).map Tm.cv).length=b.length:=by simp
 refine AWp.wk ((b2E 0 400001 2 a.length (e:=42) (z:=2) (l:=(a++List.replicate 0 zTm).map Tm.cv) rfl rfl rfl rfl (by omega)).trans ((b2E 1 400002 3 b.length (e:=42) (z:=2) (l:=(b++List.replicate 0 zTm).map Tm.cv) rfl rfl rfl rfl (by omega)).trans (a7 (s':=[(2,.hdl v1 400001),(3,.hdl v2 400002),(0,.sl 400001 0 a.length 2),(1,.sl 400002 0 b.length 2),rwT 400001 a 0,rwT 400002 b 0]) ⟨rfl,rfl,rfl,rfl,rfl,rfl,trivial⟩))) ?_;refine aS (aR ?_);refine nc ze (nc ze ?_);refine aS (aS (aR ?_));refine nc zl (nc zY (nc zj (nc ze ?_)))
 let st:Nat->List Tm->List Tm->Nat->Nat->AS:=fun m A B ka kb=>[(2,.hdl v1 400001),(3,.hdl v2 400002),(0,.sl 400001 0 A.length 2),(1,.sl 400002 0 B.length 2),(6,.val (.i ((m:Int)-1))),rwT 400001 A ka,rwT 400002 B kb]
 refine aB (p8 (fun j s=>∃ A B ka kb,C6 j A B=(X,Y)/\j<=A.length/\A.length+ka=a.length/\B.length+kb=b.length/\(∀ t∈A,t.rng)/\(∀ t∈B,t.rng)/\s=st j A B ka kb) (s':=st a.length a b 0 0) (a7 ⟨rfl,rfl,rfl,rfl,rfl,rfl,rfl,trivial⟩) ⟨a,b,0,0,yR,Nat.le_refl _,rfl,rfl,ha,hb,rfl⟩ ?_);rintro m s ⟨A,B,ka,kb,hc,hm,hka,hkb,hA,hB,rfl⟩;refine aS (aS (aR ?_));refine nc zl (nc zG ?_);refine aC rfl (fun kA=>?_) (fun kA=>?_)
 ·have hm0:0<m:=by have h3:decide ((m:Int)-1>=0)=true:=kA;have:=of_decide_eq_true h3;omega
  obtain ⟨m,rfl⟩:∃ q,m=q+1:=⟨m-1,by omega⟩
  have yS:m<A.length:=by omega
  obtain ⟨t,ht⟩:∃ t,A[m]?=some t:=⟨A[m],getElem?_eq_getElem yS⟩
  have uE:t.rng:=hA t (mem_of_getElem? ht);have mH:((A++List.replicate ka zTm).map Tm.cv)[m]?=some t.cw:=Tm.map_at (by rw [List.getElem?_append_left yS];exact ht);have hlA:((A++List.replicate ka zTm).map Tm.cv).length=A.length+ka:=by simp
  have hlB:((B++List.replicate kb zTm).map Tm.cv).length=B.length+kb:=by simp
  obtain ⟨lA,qL⟩:∃ lA,lA=(A++List.replicate ka zTm).map Tm.cv:=⟨_,rfl⟩
  refine aK ?_;refine AWp.wk (a7 (s':=[(2,.hdl v1 400001),(3,.hdl v2 400002),(0,.sl 400001 0 A.length 2),(1,.sl 400002 0 B.length 2),(6,.val (.i (((m+1:Nat):Int)-1))),(400001,.mrow 42 2 lA),rwT 400002 B kb]) ⟨rfl,rfl,rfl,rfl,rfl,by rw [qL];rfl,rfl,trivial⟩) ?_;rw [<-qL] at mH hlA;refine aS (aB (aS (aR ?_)));refine nc zl (nc zl (nc (zP (k:=m)) (nc (zQ (G:=mH)) (nc zk (nc zo ?_)))));refine AWp.wk (A4 7 rfl rfl rfl (s':=[(2,.hdl v1 400001),(3,.hdl v2 400002),(0,.sl 400001 0 A.length 2),(1,.sl 400002 0 B.length 2),(6,.val (.i (((m+1:Nat):Int)-1))),(400001,.mrow 42 2 lA),rwT 400002 B kb]) ⟨rfl,rfl,rfl,rfl,rfl,rfl,rfl,trivial⟩ rfl rfl rfl) ?_;have hI:=a9G w (l8 t) (.fn 148 0 [.ptr t.cw]) B (by omega) (fun w x hx => .inl ⟨_,_,_,rfl,b3L w t x uE (hB x hx)⟩);rw [<-a7A B kb] at hI;have lQ:=b1u (e:=42) (z:=2) (nm:=400002) (N:=B.length) (by omega) (by omega) (by omega) hI;refine aS (aR ?_);refine nc zl (nc zA (nc (zX (z:=lQ) (G:=j8 (by first | rfl | kernel_rfl))) (nc ze ?_)));obtain ⟨J,hJ⟩:∃ J:Int,J=(match B.findIdx? (l8 t) with | some i=>(i:Int) | none => -1):=⟨_,rfl⟩
  refine AWp.wk (a7 (s':=[(2,.hdl v1 400001),(3,.hdl v2 400002),(0,.sl 400001 0 A.length 2),(1,.sl 400002 0 B.length 2),(6,.val (.i (((m+1:Nat):Int)-1))),(8,.val (.i J)),(400001,.mrow 42 2 lA),rwT 400002 B kb]) ⟨rfl,rfl,rfl,rfl,rfl,by rw [hJ];rfl,rfl,rfl,trivial⟩) ?_;refine aS (aR ?_);refine nc zl (nc zG ?_);unfold C6 at hc;rw [ht] at hc;simp only at hc;refine aC rfl (fun hf=>?_) (fun hf=>?_)
  ·have hf:decide (J>=0)=true:=hf;cases iC:B.findIdx? (l8 t) with
   | none=>rw [iC] at hJ;rw [hJ] at hf;simp at hf
   | some k =>
    rw [iC] at hJ hc;have hc:C6 m (A.eraseIdx m) (B.eraseIdx k)=(X,Y):=hc;obtain ⟨kB,_,_⟩:=List.findIdx?_eq_some_iff_getElem.1 iC;refine AWp.wk (a7 (s':=[(2,.hdl v1 400001),(3,.hdl v2 400002),(0,.sl 400001 0 A.length 2),(1,.sl 400002 0 B.length 2),(6,.val (.i (m:Int))),(8,.val (.i (k:Int))),rwT 400001 A ka,rwT 400002 B kb]) ⟨rfl,rfl,rfl,rfl,?_,by rw [hJ];rfl,by rw [qL];rfl,rfl,trivial⟩) ?_
    ·show some (AV.val (.i (((m+1:Nat):Int)-1)))=some (AV.val (.i (m:Int)));rw [show ((m+1:Nat):Int)-1=(m:Int) by omega]
    refine aR ?_;refine nc zl (nc zl (nc zl (nc zu (nc (zX (z:=a5z A ka m yS (by omega)) (G:=j8 (by first | rfl | kernel_rfl))) (nc zl (nc zl (nc zl (nc zu (nc (zX (z:=a5o B kb k kB (by omega)) (G:=j8 (by first | rfl | kernel_rfl))) (nc ze (nc ze ?_)))))))))));have tM:(A.eraseIdx m).length=A.length-1:=List.length_eraseIdx_of_lt yS;have hBe:(B.eraseIdx k).length=B.length-1:=List.length_eraseIdx_of_lt kB;refine AWp.wk (a7 (s':=[(2,.hdl v1 400001),(3,.hdl v2 400002),(0,.sl 400001 0 (A.eraseIdx m).length 2),(1,.sl 400002 0 (B.eraseIdx k).length 2),(6,.val (.i (m:Int))),rwT 400001 (A.eraseIdx m) (ka+1),rwT 400002 (B.eraseIdx k) (kb+1)]) ⟨rfl,rfl,by rw [tM];rfl,by rw [hBe];rfl,rfl,rfl,rfl,trivial⟩) ?_;refine aR ?_;refine nc zl (nc zj (nc ze ?_));refine ⟨m,st m (A.eraseIdx m) (B.eraseIdx k) (ka+1) (kb+1),by omega,⟨_,_,_,_,hc,by omega,by omega,by omega,fun t h=>hA t (List.mem_of_mem_eraseIdx h),fun t h=>hB t (List.mem_of_mem_eraseIdx h),rfl⟩,a7 ⟨rfl,rfl,rfl,rfl,rfl,rfl,rfl,trivial⟩⟩
  ·have hf:decide (J>=0)=false:=hf;cases iC:B.findIdx? (l8 t) with
   | some k=>rw [iC] at hJ;rw [hJ] at hf;simp at hf
   | none =>
    rw [iC] at hc;have hc:C6 m A B=(X,Y):=hc;refine aK ?_;refine AWp.wk (a7 (s':=[(2,.hdl v1 400001),(3,.hdl v2 400002),(0,.sl 400001 0 A.length 2),(1,.sl 400002 0 B.length 2),(6,.val (.i (m:Int))),rwT 400001 A ka,rwT 400002 B kb]) ⟨rfl,rfl,rfl,rfl,?_,by rw [qL];rfl,rfl,trivial⟩) ?_
    ·show some (AV.val (.i (((m+1:Nat):Int)-1)))=some (AV.val (.i (m:Int)));rw [show ((m+1:Nat):Int)-1=(m:Int) by omega]
    refine aR ?_;refine nc zl (nc zj (nc ze ?_));refine ⟨m,st m A B ka kb,by omega,⟨_,_,_,_,hc,by omega,hka,hkb,hA,hB,rfl⟩,a7 ⟨rfl,rfl,rfl,rfl,rfl,rfl,rfl,trivial⟩⟩
 ·have hm0:m=0:=by have h3:decide ((m:Int)-1>=0)=false:=kA;have:=of_decide_eq_false h3;omega
  subst hm0;unfold C6 at hc;cases hc;have hkA:ka=a.length-X.length:=by omega
  have hkB:kb=b.length-Y.length:=by omega
  subst hkA hkB;refine aE ?_;refine aS (aR ?_);refine nc zl (nc zl (nc ze (nc ze ?_)));refine aT ⟨.inr rfl,_,(a4c 4 400001 2 rfl rfl rfl).trans (a4c 5 400002 3 rfl rfl rfl),rfl,rfl,rfl,trivial⟩
structure Lt where
 neg:Bool
 a:Tm
 b:Tm
noncomputable abbrev Lt.cw (l:Lt):CV := .row [.b l.neg,l.a.cw,l.b.cw]
noncomputable def Lt.cv (l:Lt):CV:=l.cw
theorem Lt.size_all (c:List Lt):∀ x∈c.map Lt.cv,x.size=5:=by
 intro x hx;obtain ⟨l,_,rfl⟩:=List.mem_map.1 hx;rfl
theorem Lt.map_at {c:List Lt} {i:Nat} {l:Lt} (h:c[i]?=some l):(c.map Lt.cv)[i]?=some l.cw:=by rw [List.getElem?_map,h];rfl
def Lt.strip (l:Lt):Lt:=⟨l.neg,l.a.strip,l.b.strip⟩
end Go.Proofs.YtglmoficcjphaaaGreat
