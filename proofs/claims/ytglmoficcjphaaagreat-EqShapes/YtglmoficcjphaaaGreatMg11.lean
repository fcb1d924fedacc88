/-
 ClWith SrtGen ClNmM AbKind CodeMath CodeLen CodePut CodePutMore RefSame CodeRef CodeAlive CodeReadMath CodeRead CodeUint CodeText CodeBackMath ClBy ClCode ClPut ClGet ClGet2 ClA ClB ClNmN EqMath EqWays EqConcat ClSort AbZero ClNmW AbNilF EqFns EqFac KbRef KbRef2 OrRef OrRef2 OrCom OrLw
-/
import Derived.Test.YtglmoficcjphaaaGreatMg10
import Derived.Test.YtglmoficcjphaaaGreatMg4
import Derived.Test.YtglmoficcjphaaaGreatMg3
import Derived.WalkKit
import Derived.Test.YtglmoficcjphaaaGreatChecked
import Derived.WalkLawsBesides
import Derived.WalkSpells
import Derived.Test.YtglmoficcjphaaaGreatMg1
import Derived.Laws.BitsAllLaws
import Derived.Deep.QuietTactic
import Derived.BigQuiet
import Derived.Laws.BytesArg
import Derived.Test.YtglmoficcjphaaaGreatMg2
import Derived.Test.YtglmoficcjphaaaGreatMg9
import Derived.Test.YtglmoficcjphaaaGreatMg8
namespace Go.Proofs.YtglmoficcjphaaaGreat
open List (all_eq_true append_nil getElem?_eq_getElem length_append length_cons length_map length_take map_append map_cons mem_append mem_flatMap mem_of_getElem? sum_cons take_add_one take_length)
open Go.RowKit
set_option linter.unusedVariables false
set_option linter.unusedSimpArgs false
set_option maxRecDepth 100000
theorem b2N:∀ {c:List Lt} {k:Nat} {l:Lt},c[k]?=some l->(A4 c)[2*k]?=some l.a/\(A4 c)[2*k+1]?=some l.b
 | [],k,l,h=>by simp at h
 | x::c,0,l,h=>by
  simp at h;subst h;exact ⟨rfl,rfl⟩
 | x::c,k+1,l,h=>by
  have:=b2N (c:=c) (k:=k) (l:=l) (by simpa using h);have e:A4 (x::c)=x.a::x.b::A4 c:=rfl;rw [e,show 2*(k+1)=2*k+1+1 by omega];simpa using this
theorem a5A (W:World) (c d:List Lt) (f:Int) (hn:c.length<=1000000) (hcd:d.map Lt.neg=c.map Lt.neg):AFun Tryz.prog W 39 [.lst (c.map Lt.cv),Tm.cw ⟨f,A4 d⟩] (.val (.lst (d.map Lt.cv))):=by
 have hsz:=Lt.size_all c;have hszT:=Tm.size_all (A4 d);have hlen:d.length=c.length:=by have:=congrArg List.length hcd;simpa using this
 refine b9 (rs:=[.lst (d.map Lt.cv)]) Tryz.func39 Tryz.ntmps39 rfl rfl rfl rfl ?_;intro w U hW;refine aS (aR ?_);refine nc zd (nc ze ?_);refine aS (aR ?_);refine nc ze ?_;refine aS (aS (aR ?_));refine nc zl (nc zp (nc zl ?_));refine aB (p6 c.length (fun k=>[(3,.bp 3 0 []),(100003,.bx (Tm.cw ⟨f,A4 d⟩)),(5,.own (.lst ((d.take k).map Lt.cv)) 200033),(200033,.tok 44 5),(8,.val (.lst (c.map Lt.cv))),(9,.val (.i (c.map Lt.cv).length)),(10,.val (.i k))])
  ((K5 5 200033 44 5 rfl rfl rfl rfl rfl rfl rfl).trans (a7 ⟨rfl,rfl,rfl,rfl,rfl,rfl,rfl,trivial⟩)) ?_)
 intro k hk;refine aS (aR ?_);refine nc zi ?_;refine aS (aC rfl (fun hlt=>?_) (fun hlt=>?_))
 ·have hkl:k<c.length:=by simpa using hlt
  obtain ⟨x,hx⟩:∃ x,c[k]?=some x:=⟨c[k],getElem?_eq_getElem hkl⟩
  obtain ⟨y,hy⟩:∃ y,d[k]?=some y:=⟨d[k],getElem?_eq_getElem (by omega)⟩
  have hneg:x.neg=y.neg:=by
   have:=congrArg (fun l=>l[k]?) hcd;simp only [List.getElem?_map,hx,hy,Option.map_some] at this;injection this with this;exact this.symm
  obtain ⟨n1,a1,b1⟩:=x;simp only at hneg;subst hneg;have hx':=Lt.map_at hx;obtain ⟨ha,hb⟩:=b2N hy;have ha':=Tm.map_at ha;have hb':=Tm.map_at hb;have hsz2:∀ z∈(d.take k).map Lt.cv,z.size=5:=Lt.size_all _;have hl3:((d.take k).map Lt.cv).length<=1000000:=by rw [length_map,length_take];omega
  refine aK ?_;refine aS (aB (aS (aR ?_)));refine nc zl (nc (zq (j:=k) (H:=hx') (hz:=hsz)) (nc zr (nc zk (nc ze (nc zo ?_)))));refine aD (by kernel_rfl) (by kernel_rfl) ?_;refine nc zl (nc zg (nc zh (nc zg (nc zh (nc zl (nc zbt (nc (zq (j:=(2*k)) (H:=ha') (hz:=hszT)) (nc zr (nc zg (nc zh (nc zl (nc zbt (nc zu (nc (zq (j:=(2*k+1)) (H:=hb') (hz:=hszT)) (nc zr (nc zn (nc zD (nc zE (nc ze ?_)))))))))))))))))));refine ⟨by kernel_rfl,?_⟩;refine aR ?_;refine nc zu (nc zl ?_);refine ⟨hkl,Wk.trans (a7 (s':=[(3,.bp 3 0 []),(100003,.bx (Tm.cw ⟨f,A4 d⟩)),(5,.own (.lst ((d.take (k+1)).map Lt.cv)) 300033),(300033,.tok 44 5),(8,.val (.lst (c.map Lt.cv))),(9,.val (.i (c.map Lt.cv).length)),(10,.val (.i ((k+1:Nat):Int)))]) ⟨rfl,rfl,?_,rfl,rfl,rfl,rfl,trivial⟩) (A3 300033 200033 rfl rfl rfl rfl)⟩;rw [take_add_one,hy];simp only [Option.toList_some,map_append,map_cons,List.map_nil];rfl
 ·have hkl:k=d.length:=by
   have:¬ k<c.length:=by simpa using hlt
   omega
  subst hkl;rw [take_length];refine aE ?_;refine aS (aR ?_);refine nc zl (nc ze ?_);exact aT (And.intro (.inr rfl) rfl)
def Lt.rep (img:Int->Tm) (l:Lt):Lt:=⟨l.neg,a8 img l.a,a8 img l.b⟩
theorem b0d (img:Int->Tm):∀ c:List Lt,(A4 c).map (a8 img)=A4 (c.map (Lt.rep img))
 | []=>rfl
 | l::c=>by
  show a8 img l.a::a8 img l.b::(A4 c).map (a8 img)=_;rw [b0d img c];rfl
theorem a1L (img:Int->Tm) (c:List Lt):a8 img ⟨0,A4 c⟩=⟨0,A4 (c.map (Lt.rep img))⟩:=by
 rw [b8 (show ¬ (0:Int)<0 by decide),b0d]
theorem a1D (img:Int->Tm) (c:List Lt):(c.map (Lt.rep img)).map Lt.neg=c.map Lt.neg:=by
 rw [List.map_map];rfl
theorem b0C (W:World) (L:List Bd) (c:List Lt) (hn:c.length<=1000000) (hl:L.length<=1000000000) (hb:bdsOk L) (hr:(⟨0,A4 c⟩:Tm).rng) (hok:(⟨0,A4 c⟩:Tm).ok):AFun Tryz.prog W 28 [.lst (L.map Bd.cv),.lst (c.map Lt.cv)] (.val (.lst ((c.map (Lt.rep (c9 L))).map Lt.cv))):=by
 have h2:=fun w=>a2V w L ⟨0,A4 c⟩ hl hb hr hok;rw [a1L] at h2;refine b9 (rs:=[.lst ((c.map (Lt.rep (c9 L))).map Lt.cv)]) Tryz.func28 Tryz.ntmps28 rfl rfl rfl rfl ?_;intro w U hW;refine aS (aR ?_);refine nc ze ?_;refine aS (aR ?_);refine nc zl (nc zl (nc zl (nc (zw (z:=S5 w c hn)) (nc (zw (z:=h2 w)) (nc (zw (z:=a5A w c _ 0 hn (a1D _ c))) (nc ze ?_))))));exact aT (And.intro (.inr rfl) rfl)
theorem a8z (W:World) (c:List Lt) (by_:Int) (hn:c.length<=1000000) (hr:(⟨0,A4 c⟩:Tm).rng) (hok:(⟨0,A4 c⟩:Tm).ok):AFun Tryz.prog W 20 [.lst (c.map Lt.cv),.i by_] (.val (.lst ((c.map (Lt.rep fun v=>l9 (upV (max by_ 0) v))).map Lt.cv))):=by
 have h2:=fun w=>b0l w ⟨0,A4 c⟩ by_ hr hok;rw [a1L] at h2;refine b9 (rs:=[.lst ((c.map (Lt.rep fun v=>l9 (upV (max by_ 0) v))).map Lt.cv)]) Tryz.func20 Tryz.ntmps20 rfl rfl rfl rfl ?_;intro w U hW;refine aS (aR ?_);refine nc ze ?_;refine aS (aR ?_);refine nc zl (nc zl (nc (zw (z:=S5 w c hn)) (nc zl (nc (zw (z:=h2 w)) (nc (zw (z:=a5A w c _ 0 hn (a1D _ c))) (nc ze ?_))))));exact aT (And.intro (.inr rfl) rfl)
section
section
variable {α β:Type}
def kDn (p:α->Bool) (l:List α):Nat->Nat
 | 0=>0
 | k+1=>match l[k]? with
  | some y=>if p y=true then kDn p l k else k+1
  | none=>k+1
def c3R (lt:α->α->Bool) (l:List α) (x:α):List α:=l.take (kDn (lt x) l l.length)++x::l.drop (kDn (lt x) l l.length)
def c0v (lt:α->α->Bool) (c:List α):List α:=c.foldl (c3R lt) []
def c0n (q:α->α->Bool) (L:List α):Nat->List α
 | 0=>[]
 | 1=>L.take 1
 | m+2=>match L[m+1]?,L[m]? with
  | some x,some y=>if q x y=true then c0n q L (m+1) else c0n q L (m+1)++[x]
  | _,_=>c0n q L (m+1)
def c3S (q:α->α->Bool) (c:List α):List α:=c.foldl (fun out x=>if out.any (fun y=>q y x) then out else out++[x]) []
end
def sgZ (b:Bool):Int:=if b then 1 else 0
def a2W (x y:Lt):Int:=if J5 (sgZ x.neg) (sgZ y.neg)≠0 then J5 (sgZ x.neg) (sgZ y.neg) else c1R x y
def a0s (c:List Lt) (m:Int):Lt:=(c[m.toNat]?).getD ⟨false,⟨0,[]⟩,⟨0,[]⟩⟩
def ltI (c:List Lt) (m n:Int):Bool:=decide (a2W (a0s c m) (a0s c n)<0)
def c2D (c:List Lt) (m n:Int):Bool:=decide (a2W (a0s c m) (a0s c n)=0)
def c3p (c:List Lt):List Int:=c0v (ltI c) (b7b c.length)
def c4q (c:List Lt):List Int:=c0n (c2D c) (c3p c) (c3p c).length
def c4f (c:List Lt):List Int:=c0v (fun m n:Int=>decide (m<n)) (c4q c)
def wdL (c:List Lt):List Lt:=(c4f c).map (a0s c)
def RI (c:List Lt) (m n:Int):Prop:=a2W (a0s c m) (a0s c n)<0\/(a2W (a0s c m) (a0s c n)=0/\m<n)
def c3X (c:List Lt) (m:Int):Prop:=∀ k:Int,0<=k->k<m->a2W (a0s c k) (a0s c m)≠0
open Classical in
noncomputable def c4W (c:List Lt) (k:Nat):List Int:=(b7b k).filter fun m=>decide (c3X c m)
def smL (x y:Lt):Bool:=decide (a2W x y=0)
section
variable {P:Program} {w0:World} {U0:UX} {nt:Nat} {ops:Array Oper} {o:Oper} {S:Nat->Option AV} {gs:List Nat} {d:Nat}
variable (hg:Gd w0 U0 nt ops o gs S) (hd:o.dst=some d) (hn:Nat.blt d nt=true) (h5:Nat.blt d 100000=true)
include hg hd hn h5
end
end
def ub:Nat->Nat->List Int
 | 0,n=>[(n:Int)]
 | k+1,n=>if n<128 then [(n:Int)] else ((128+n % 128:Nat):Int)::ub k (n / 128)
def a8e (n:Nat):List Int:=ub 9 n
def c5a (n:Nat):Nat:=if n=0 then 0 else (a8e n).length
def zz (n:Int):Nat:=if 0<=n then (2*n).toNat else (-2*n-1).toNat
def b1x:List Int->Option Nat
 | []=>none
 | b::r=>if b<128 then some 0 else (b1x r).map (·+ 1)
def c3i (l:List Int):Int:=match b1x l with | none => -1 | some i=>(i:Int)
def val:List Int->Nat
 | []=>0
 | b::r=>(b % 128).toNat+128*val r
def c2t (l:List Int):Bool:=decide (l.length<=10/\(l.length=10->l.getD (l.length-1) 0<=1)/\(l.getD (l.length-1) 0≠0\/l.length=1))
def c0p (n:Nat):Int:=if n % 2=0 then ((n / 2:Nat):Int) else -((n / 2:Nat):Int)-1
def rdU (l:List Int):Nat×Nat×Nat:=
 match b1x l with
 | none=>(0,0,10)
 | some i=>if c2t (l.take (i+1)) then (val (l.take (i+1)),i+1,0) else (0,0,7)
def c2X:List Int->Prop
 | []=>False
 | b::r=>match r with
  | []=>0<b/\b<128
  | _::_=>128<=b/\b<=255/\c2X r
def wT:Tm->List Int
 | ⟨f,l⟩=>a8e (zz f)++(if f<0 then [] else a8e l.length++(l.map wT).flatten)
def wL (l:Lt):List Int:=(if l.neg then 1 else 0)::(wT l.a++wT l.b)
def wC (c:List Lt):List Int:=a8e c.length++c.flatMap wL
def rN (most:Nat) (l:List Int):Except Nat (Nat×Nat):=match rdU l with
 | (v,c,0)=>if v>most then .error 7 else .ok (v,c)
 | (_,_,e+1) => .error (e+1)
def rH (l:List Int):Except Nat (Int×Nat):=match rdU l with
 | (v,c,0)=>if -2147483648<=c0p v/\c0p v<=2147483647 then .ok (c0p v,c) else .error 7
 | (_,_,e+1) => .error (e+1)
def c0m {α:Type} (g:List Int->Except Nat (α×Nat)):Nat->List Int->Except Nat (List α×Nat)
 | 0,_ => .ok ([],0)
 | n+1,l=>match g l with
  | .error e => .error e
  | .ok (x,c)=>match c0m g n (l.drop c) with
   | .error e => .error e
   | .ok (xs,c') => .ok (x::xs,c+c')
def c0G {α:Type} (g:List Int->Except Nat (α×Nat)) (l:List Int):Except Nat (List α×Nat):=match rN 4096 l with
 | .error e => .error e
 | .ok (n,c)=>match c0m g n (l.drop c) with
  | .error e => .error e
  | .ok (xs,c') => .ok (xs,c+c')
def rT:Nat->List Int->Except Nat (Tm×Nat)
 | 0,_ => .error 7
 | d+1,l=>match rH l with
  | .error e => .error e
  | .ok (f,c)=>if f<0 then .ok (⟨f,[]⟩,c) else match c0G (rT d) (l.drop c) with
   | .error e => .error e
   | .ok (xs,c') => .ok (⟨f,xs⟩,c+c')
def rL (l:List Int):Except Nat (Lt×Nat):=match rN 1 l with
 | .error e => .error e
 | .ok (n,c)=>match rT 257 (l.drop c) with
  | .error e => .error e
  | .ok (a,c1)=>match rT 257 (l.drop (c+c1)) with
   | .error e => .error e
   | .ok (b,c2) => .ok (⟨decide (n=1),a,b⟩,c+c1+c2)
def rC (l:List Int):Except Nat (List Lt×Nat):=c0G rL l
def wfB (l:List Int):Prop:=∀ z∈l,0<=z/\z<=255
def Rt {α:Type} (w:α->List Int) (l:List Int) (r:Except Nat (α×Nat)):Prop:=∀ x c,r = .ok (x,c)->c<=l.length/\w x=l.take c
def Er {α:Type} (r:Except Nat (α×Nat)):Prop:=∀ e,r = .error e->e=7\/e=10
structure c5F {α:Type} (g:List Int->Except Nat (α×Nat)) (w:List Int) (x:α):Prop where
 back:∀ r,g (w++r) = .ok (x,w.length)
 cut:∀ j,j<w.length->g (w.take j) = .error 10
abbrev by8 (z:Int):CV := .sc (.int .u8 z)
def gU (zs:List Int) (p:Int):Int×Int×Int:=
 if p<0\/p>zs.length then (0,0,1) else match rdU (zs.drop p.toNat) with
  | (v,c,0)=>(v,p+c,0)
  | (_,_,e+1)=>(0,0,((e+1:Nat):Int))
def gI (zs:List Int) (p:Int):Int×Int×Int:=
 if p<0\/p>zs.length then (0,0,1) else match rdU (zs.drop p.toNat) with
  | (v,c,0)=>(c0p v,p+c,0)
  | (_,_,e+1)=>(0,0,((e+1:Nat):Int))
noncomputable abbrev rB (zs:List Int):AS:=[(300001,.mrow 5 1 (zs.map by8))]
def zT:Tm:=⟨0,[]⟩
def zL:Lt:=⟨false,zT,zT⟩
def okP {α:Type} (q:Nat):Except Nat (α×Nat)->Int
 | .ok (_,c)=>((q+c:Nat):Int)
 | .error _=>0
def okE {α:Type}:Except Nat (α×Nat)->Int
 | .ok _=>0
 | .error e=>(e:Int)
def okN:Except Nat (Nat×Nat)->Int
 | .ok (v,_)=>(v:Int)
 | .error _=>0
noncomputable def okT:Except Nat (Tm×Nat)->CV
 | .ok (x,_)=>x.cw
 | .error _ => .row [.i 0,.lst []]
noncomputable def okG:Except Nat (Lt×Nat)->CV
 | .ok (x,_)=>x.cw
 | .error _ => .row [.b false,.row [.i 0,.lst []],.row [.i 0,.lst []]]
noncomputable def c4e:Except Nat (List Tm×Nat)->List CV
 | .ok (x,_)=>x.map Tm.cv
 | .error _=>[]
noncomputable def c3N:Except Nat (List Lt×Nat)->List CV
 | .ok (x,_)=>x.map Lt.cv
 | .error _=>[]
noncomputable abbrev c5i (q:Nat) (r:Except Nat (Nat×Nat)):List CV:=[.sc (.int .u64 (okN r)),.i (okP q r),by8 (okE r)]
noncomputable abbrev c5r (q:Nat) (r:Except Nat (Tm×Nat)):List CV:=[okT r,.i (okP q r),by8 (okE r)]
noncomputable abbrev c4T (q:Nat) (r:Except Nat (Lt×Nat)):List CV:=[okG r,.i (okP q r),by8 (okE r)]
noncomputable abbrev c4w (q:Nat) (r:Except Nat (List Tm×Nat)):List CV:=[.lst (c4e r),.i (okP q r),by8 (okE r)]
noncomputable abbrev c4v (q:Nat) (r:Except Nat (List Lt×Nat)):List CV:=[.lst (c3N r),.i (okP q r),by8 (okE r)]
def rHd (l:List Int):Except Nat (Tm×Nat):=match rH l with
 | .error e => .error e
 | .ok (f,c) => .ok (⟨f,[]⟩,c)
def cmb {α:Type} (xs:List α) (q0 q:Nat):Except Nat (List α×Nat)->Except Nat (List α×Nat)
 | .error e => .error e
 | .ok (ys,c) => .ok (xs++ys,q-q0+c)
def gC (zs:List Int) (p:Int):Except Nat (List Lt×Nat):=if p<0\/p>zs.length then .error 1 else rC (zs.drop p.toNat)
def exC:Lt:=⟨false,⟨3,[⟨-1,[]⟩]⟩,⟨1,[]⟩⟩
def b1V (size:Int) (l:Lt):Bool:=decide (0<=n8 l.a size 8)&&decide (0<=n8 l.b size 8)
def Y4 (c:List Lt) (most:Nat) (size:Int):Bool:=decide (c.length<=most)&&c.all (b1V size)
set_option maxHeartbeats 1000000 in
theorem b0m (W:World) (c:List Lt) (most:Nat) (size:Int) (hm:most<=1000) (h0:0<=size) (h1:size<=60) (hr:okC c):AFun Tryz.prog W 8 [.lst (c.map Lt.cv),.i (most:Int),.i size] (.val (.b (Y4 c most size))):=by
 have hsz:=Lt.size_all c;refine b9 (rs:=[.b (Y4 c most size)]) Tryz.func8 Tryz.ntmps8 rfl rfl rfl rfl ?_;intro w U hW;refine aS (aR ?_);refine nc ze ?_;refine aS (aS (aR ?_));refine nc zl (nc zp (nc zl (nc zK ?_)));refine aC rfl (fun hc=>?_) (fun hc=>?_)
 ·have hno:Y4 c most size=false:=by
   have:=of_decide_eq_true hc;rw [length_map] at this;unfold Y4;rw [show decide (c.length<=most)=false by rw [decide_eq_false_iff_not];omega];rfl
  rw [hno];refine aS (aR ?_);refine nc ze ?_;exact aT (And.intro (.inr rfl) rfl)
 have hl:c.length<=most:=by
  have:=of_decide_eq_false hc;rw [length_map] at this;omega
 refine aK ?_;refine aS (aS (aR ?_));refine nc ze ?_;refine aB (y9 c.length (fun k=>∀ l∈c.take k,b1V size l=true) (fun k=>[(0,.val (.lst (c.map Lt.cv))),(2,.val (.i size)),(7,.val (.i k))]) (a7 ⟨rfl,rfl,rfl,trivial⟩) (by simp) ?_);intro k hk hI;refine aS (aS (aR ?_));refine nc zl (nc zl (nc zp (nc zi ?_)));refine aC rfl (fun hlt=>?_) (fun hlt=>?_)
 ·have hkl:k<c.length:=by simpa using hlt
  obtain ⟨x,hx⟩:∃ x,c[k]?=some x:=⟨c[k],getElem?_eq_getElem hkl⟩
  have hx':=Lt.map_at hx;have hxm:=mem_of_getElem? hx;have sa:=a6i w x.a size 8 (hr x hxm).1 h0 h1 (by decide) (by decide);have sb:=a6i w x.b size 8 (hr x hxm).2 h0 h1 (by decide) (by decide);have hno:b1V size x=false->Y4 c most size=false:=fun h=>by
   unfold Y4;rw [show c.all (b1V size)=false from List.all_eq_false.2 ⟨x,hxm,by rw [h];simp⟩,Bool.and_false]
  refine aK ?_;by_cases ha:n8 x.a size 8<0
  ·have ga:decide (n8 x.a size 8<0)=true:=by simpa using ha
   rw [hno (by unfold b1V;rw [show decide (0<=n8 x.a size 8)=false by rw [decide_eq_false_iff_not];omega];rfl)];refine aS (aB (aS (aR ?_)));refine nc zl (nc zl (nc (zq (j:=k) (H:=hx') (hz:=hsz)) (nc zbM (nc zr (nc zl (nc (zw (z:=sa)) (nc zi (nc zl (nc zR (nc zR (nc zR (nc zR (nc zR (nc zR (nc zR (nc zR (nc zP ?_)))))))))))))))));refine aC rfl (fun hc2=>?_) (fun hc2=>by cases hc2);refine aS (aR ?_);refine nc ze ?_;exact aT (And.intro (.inr rfl) rfl)
  ·have ga:decide (n8 x.a size 8<0)=false:=by simpa using ha
   refine aS (aB (aS (aR ?_)));refine nc zl (nc zl (nc (zq (j:=k) (H:=hx') (hz:=hsz)) (nc zbM (nc zr (nc zl (nc (zw (z:=sa)) (nc zi (nc zl (nc (zl (p:=gb)) (nc (zl (p:=gb)) (nc (zq (j:=k) (r:=gb) (H:=hx') (hz:=hsz)) (nc (zbM (r:=gb)) (nc (zr (r:=gb)) (nc (zl (p:=gb)) (nc (zw (p:=gb) (z:=sb)) (nc (zi (r:=gb)) (nc zS ?_)))))))))))))))));refine aC rfl (fun hc2=>?_) (fun hc2=>?_)
   ·have hb:=of_decide_eq_true hc2;rw [hno (by unfold b1V;rw [show decide (0<=n8 x.b size 8)=false by rw [decide_eq_false_iff_not];omega];simp)];refine aS (aR ?_);refine nc ze ?_;exact aT (And.intro (.inr rfl) rfl)
   ·have hb:=of_decide_eq_false hc2;refine aK ?_;refine aR ?_;refine nc zl (nc zu (nc ze ?_));refine ⟨hkl,?_,a7 ⟨rfl,rfl,rfl,trivial⟩⟩;intro y hy;rw [take_add_one,hx,mem_append] at hy;rcases hy with hy | hy
    ·exact hI y hy
    ·simp at hy;rw [hy];unfold b1V;rw [show decide (0<=n8 x.a size 8)=true by rw [decide_eq_true_eq];omega,show decide (0<=n8 x.b size 8)=true by rw [decide_eq_true_eq];omega];rfl
 ·have hkl:k=c.length:=by
   have:¬ k<c.length:=by simpa using hlt
   omega
  subst hkl;rw [take_length] at hI;have hyes:Y4 c most size=true:=by
   unfold Y4;rw [show decide (c.length<=most)=true by simpa using hl,Bool.true_and];exact all_eq_true.2 hI
  rw [hyes];refine aE ?_;refine aS (aR ?_);refine nc ze ?_;exact aT (And.intro (.inr rfl) rfl)
theorem a2j {c:List Lt} {most:Nat} {size:Int} (h0:0<=size) (h1:size<=60) (h:Y4 c most size=true):c.length<=most/\∀ l∈c,((l.a.sm/\l.a.rng/\l.a.ok)/\(l.a.wt:Int)<=size/\(l.a.size:Int)<=size)/\((l.b.sm/\l.b.rng/\l.b.ok)/\(l.b.wt:Int)<=size/\(l.b.size:Int)<=size):=by
 unfold Y4 at h;rw [Bool.and_eq_true,decide_eq_true_eq] at h;refine ⟨h.1,fun l hl=>?_⟩;have hf:=all_eq_true.1 h.2 l hl;unfold b1V at hf;rw [Bool.and_eq_true,decide_eq_true_eq,decide_eq_true_eq] at hf;have key:∀ t:Tm,0<=n8 t size 8->(t.sm/\t.rng/\t.ok)/\(t.wt:Int)<=size/\(t.size:Int)<=size:=fun t ht=>by
  have hsm:=b5F t _ _ ht;have hwt:(t.wt:Int)<=size:=by have:=(a0P t size 8 h0).2.2 ht;omega
  have:=t.size_wt;exact ⟨⟨hsm,Tm.sm_rng hsm,Tm.wt_ok (t:=t) (by omega)⟩,hwt,by omega⟩
 exact ⟨key _ hf.1,key _ hf.2⟩
set_option maxHeartbeats 1000000 in
theorem b3S (W:World) (c:List Lt) (hl:c.length<=1000000) (hc:∀ l∈c,l.a.ok/\l.b.ok):AFun Tryz.prog W 9 [.lst (c.map Lt.cv)] (.val (.lst ((c.map id).map Lt.cv))):=by
 have hsz:=Lt.size_all c;refine b9 (rs:=[.lst ((c.map id).map Lt.cv)]) Tryz.func9 Tryz.ntmps9 rfl rfl rfl rfl ?_;intro w U hW;refine aS (aR ?_);refine nc ze ?_;refine aS (aR ?_);refine nc ze ?_;refine aS (aS (aR ?_));refine nc ze ?_;refine aB (p6 c.length (fun k=>[(0,.val (.lst (c.map Lt.cv))),(3,.own (.lst (((c.take k).map id).map Lt.cv)) 200031),(200031,.tok 44 5),(4,.val (.i k))]) ((K5 3 200031 44 5 rfl rfl rfl rfl rfl rfl rfl).trans (a7 ⟨rfl,rfl,rfl,rfl,trivial⟩)) ?_);intro k hk;have hks:=Lt.size_all ((c.take k).map id);refine aS (aS (aR ?_));refine nc zl (nc zl (nc zp (nc zi ?_)));refine aC rfl (fun hlt=>?_) (fun hlt=>?_)
 ·have hkl:k<c.length:=by simpa using hlt
  obtain ⟨x,hx⟩:∃ x,c[k]?=some x:=⟨c[k],getElem?_eq_getElem hkl⟩
  have hx':=Lt.map_at hx;have hxm:=mem_of_getElem? hx;have hkn:(((c.take k).map id).map Lt.cv).length<=1000000:=by rw [length_map,length_map,length_take];omega
  refine aK ?_;refine aS (aB (aD (by kernel_rfl) (by kernel_rfl) ?_));refine nc zl (nc zl (nc zl (nc (zq (j:=k) (H:=hx') (hz:=hsz)) (nc zbM (nc zr (nc zl (nc zl (nc (zq (j:=k) (H:=hx') (hz:=hsz)) (nc zbM (nc zr (nc (zw (z:=b6Y w x.a (hc x hxm).1)) (nc zl (nc zl (nc (zq (j:=k) (H:=hx') (hz:=hsz)) (nc zbM (nc zr (nc (zw (z:=b6Y w x.b (hc x hxm).2)) (nc zn (nc zD (nc zE (nc ze ?_)))))))))))))))))))));refine ⟨by kernel_rfl,?_⟩;refine aR ?_;refine nc zl (nc zu (nc ze ?_));refine ⟨hkl,Wk.trans (a7 (s':=[(0,.val (.lst (c.map Lt.cv))),(3,.own (.lst (((c.take (k+1)).map id).map Lt.cv)) 300031),(300031,.tok 44 5),(4,.val (.i ((k+1:Nat):Int)))]) ⟨rfl,?_,rfl,rfl,trivial⟩) (A3 300031 200031 rfl rfl rfl rfl)⟩;rw [take_add_one,hx,map_append,map_append];rfl
 ·have hkl:k=c.length:=by
   have:¬ k<c.length:=by simpa using hlt
   omega
  subst hkl;rw [take_length];refine aE ?_;refine aS (aR ?_);refine nc zl (nc ze ?_);exact aT (And.intro (.inr rfl) rfl)
theorem b6e (W:World) (c:List Lt) (hl:c.length<=1000000) (hc:∀ l∈c,l.a.ok/\l.b.ok):AFun Tryz.prog W 9 [.lst (c.map Lt.cv)] (.val (.lst (c.map Lt.cv))):=by
 have:=b3S W c hl hc;rw [List.map_id] at this;exact this
def b4H (x y:Lt):Bool:=(x.neg == y.neg)&&(s8 x.a y.a&&s8 x.b y.b)
def c2S:List Lt->List Lt->Bool
 | [],[]=>true
 | x::l,y::m=>b4H x y&&c2S l m
 | _,_=>false
def lkT (t:Tm):Tm:=a8 (fun _=>l9 0) t
def lkL (l:Lt):Lt:=Lt.rep (fun _=>l9 0) l
structure Sn where
 lit:Lt
 look:Lt
def c3h (l k:Lt):Sn:=if 0<=T1 k.a k.b then ⟨l,k⟩ else ⟨c0k l,c0k k⟩
def c2J (x y:Sn):Int:=a2W x.look y.look
def c3Z (x y:Sn):Bool:=decide (c2J x y<0)
def inL (c:List Lt):List Lt:=(c0v c3Z (c.map fun l=>c3h l (lkL l))).map Sn.lit
def T9 (c:List Lt):Tm:=⟨0,A4 c⟩
def c3s (c:List Lt):List Bd:=a3Y (T9 c).nv (b7b (T9 c).nv.length)
def nmP (c:List Lt):List Lt:=wdL ((inL c).map (Lt.rep (c9 (c3s (inL c)))))
def rtL (l:Lt):Lt:=if T1 (lkT l.a) (lkT l.b)<0 then c0k l else l
def c4k (x y:Lt):Bool:=decide (a2W (lkL x) (lkL y)<0)
def inD (c:List Lt):List Lt:=c0v c4k (c.map rtL)
def c4c (l:Lt):Tm:=⟨sgZ l.neg,[l.a,l.b]⟩
def c5p (c:List Lt):Tm:=⟨0,c.map c4c⟩
def c1O (s:List Bd) (l:Lt):Lt:=⟨l.neg,n5 s l.a,n5 s l.b⟩
def nmD (c:List Lt):List Lt:=c3S b4H ((inD c).map (c1O (c3s (inD c))))
theorem a7M (img:Int->Tm) (c:List Lt):a8 img (T9 c)=T9 (c.map (Lt.rep img)):=a1L img c
def b7F (c d:List Lt):Bool:=decide (c.map Lt.neg=d.map Lt.neg)&&a7v (T9 c) (T9 d)
theorem ToldU.uniq {l:List (Tm×Tm)} {r1 r2:List Bd×Bool} (h1:ToldU l r1) (h2:ToldU l r2):r1=r2:=by
 rcases h1 with ⟨a1,a2,a3⟩ | ⟨a1,s,a2,a3,a4,a5⟩
 ·rw [h2.no a3];cases r1;simp only at a1 a2;rw [a1,a2]
 ·have h:=(h2.yes a2 a3).1;cases r1;simp only at a1 a5;rw [h,a1,a5]
noncomputable def mgT (a b:Tm):List Bd×Bool:=open Classical in if h:∃ r,Tells8 [(a,b)] r then Classical.choose h else ([],false)
def Tm.ten (t:Tm):Prop:=(t.rng/\t.ok)/\t.size<=10
def Lt.ten (l:Lt):Prop:=l.a.ten/\l.b.ten
theorem a9D {a b:Tm} (ha:a.ten) (hb:b.ten):a7S [(a,b)]:=fun p hp=>by
 rw [List.mem_singleton] at hp;subst hp;exact ⟨⟨ha.1,Nat.le_trans ha.2 (by omega)⟩,hb.1,Nat.le_trans hb.2 (by omega)⟩
theorem c2i {a b:Tm} {r:List Bd×Bool} (h:Tells8 [(a,b)] r):mgT a b=r:=by
 have he:∃ r,Tells8 [(a,b)] r:=⟨r,h⟩
 unfold mgT;rw [dif_pos he];exact (Classical.choose_spec he).told.uniq h.told
theorem T8 {a b:Tm} (ha:a.ten) (hb:b.ten):Tells8 [(a,b)] (mgT a b):=by
 obtain ⟨n,r,_,_,_,h⟩:=b9e (l:=[(a,b)]) (by simp) (a9D ha hb);rw [c2i h];exact h
theorem b5L (l:List (Tm×Tm)) (hl:l.length<=2) (ht:a7S l):∃ r:Option (List Bd),(r=none->∀ τ,¬ uni τ l)/\∀ s,r=some s->Mgu (c9 s) l/\M4 s/\Orig (J8 l) (c9 s):=by
 have hV:∀ v∈G9 l,0<=v:=fun v hv=>by
  obtain ⟨p,_,hv⟩:=mem_flatMap.1 hv;rcases mem_append.1 hv with hv | hv<;>exact n9 _ v hv
 have hsub:∀ p∈l,(∀ u∈p.1.vs,u∈G9 l)/\∀ u∈p.2.vs,u∈G9 l:=fun p hp=>⟨fun u hu=>mem_flatMap.2 ⟨p,hp,List.mem_append_left _ hu⟩,fun u hu=>mem_flatMap.2 ⟨p,hp,List.mem_append_right _ hu⟩⟩
 have h0:Mgu (c9 []) []:=Mgu.nil;obtain ⟨n,r,e,g1,g2⟩:=a1O hV l [] [] h0 (fun b hb=>by cases hb) (fun b hb=>by cases hb) hsub;rw [List.nil_append] at g1 g2;have hE:arA (J8 l)<=60:=by
  have:=a7i l fun p hp=>⟨(ht p hp).1.2,(ht p hp).2.2⟩
  omega
 have hvl:=a1N l ht;have hmid0:a7x (G9 l) (J8 l) 64 [] ([]++[]):=⟨h0,(fun b hb=>by cases hb),(fun b hb=>by cases hb),(fun v hv hf=>by exfalso;apply hf;show (l9 v).f<0;rw [r8];omega),by
  have:frN (G9 l) []<=(G9 l).length:=a8R _;show 0+_<=64;omega,fun b hb=>by cases hb⟩
 obtain ⟨c1,c2⟩:=a4h (V:=G9 l) (S:=J8 l) (K:=64) (E:=[]) hV (b6W hV (Z0 l) (by decide) hE n) l [] [] hmid0 (fun b hb=>by cases hb) fun p hp=>by
  obtain ⟨s1,s2⟩:=a9u hp;exact ⟨fun s1' F1 h1=>⟨⟨(hsub p hp).1,p.1,s1,rfl⟩,⟨(hsub p hp).2,p.2,s2,rfl⟩⟩,(ht p hp).1.1,(ht p hp).2.1⟩
 refine ⟨r,g1,fun s hs=>?_⟩;obtain ⟨k1,k2,k3⟩:=g2 s hs;rw [hs] at e;exact ⟨k1,k2,(c2 s e).1.orig⟩
theorem c1B {s E:Nat} (hE:E<=18) (h:Big E s):s<=2955:=by
 have h:=h.up hE;unfold Big at h;have e1:(2:Nat) ^ 18=262144:=by decide
 have e2:(3:Nat) ^ 18=387420489:=by decide
 rw [e1,e2] at h;omega
theorem c0T {a b:Tm} (ha:a.ten) (hb:b.ten) {v:Int} (hv:0<=v):(c9 (mgT a b).1 v).size<=2955:=by
 have hT:=T8 ha hb;have hvar:∀ u:Tm,u.f<0->u.size<=2955:=fun u hu=>by rw [Tm.size_var hu];omega
 cases h2:(mgT a b).2 with
 | false =>
  rw [(hT.no h2).1];exact hvar _ (by show (l9 v).f<0;rw [r8];omega)
 | true =>
  have hm:=hT.yes h2;obtain ⟨r,g1,g2⟩:=b5L [(a,b)] (by simp) (a9D ha hb);cases r with
  | none=>exact absurd hm.uni (g1 rfl _)
  | some s =>
   obtain ⟨k1,k2,k3⟩:=g2 s rfl;rw [k1.one hm hv];by_cases hf:(c9 s v).f<0
   ·exact hvar _ hf
   ·obtain ⟨q,hq,_,e⟩:=k3 v hv hf;rw [<-e];refine c1B ?_ (a1n (Z0 _) k3 (fun v _=>M7 k2 v) ⟨q,hq,rfl⟩);have e1:J8 [(a,b)]=(a.flat++b.flat)++[]:=rfl;have e2:=a0S a;have e3:=a0S b;have e4:=ha.2;have e5:=hb.2;rw [e1,append_nil,a3I];omega
theorem b8k {σ:Int->Tm} {M:Nat} (hM:1<=M) (h:∀ v,0<=v->(σ v).size<=M) (t:Tm):(a8 σ t).size<=M*t.size:=by
 induction t using Tm.indp with
 | h t ih =>
  by_cases hf:t.f<0
  ·rw [i8 hf,Tm.strip_size,Tm.size_var hf,Nat.mul_one];exact h _ (by omega)
  ·have e1:(a8 σ t).size=1+((t.l.map (a8 σ)).map Tm.size).sum:=by rw [b8 hf];exact Tm.size_sym (t:=⟨t.f,t.l.map (a8 σ)⟩) hf
   have e2:t.size=1+(t.l.map Tm.size).sum:=Tm.size_sym hf;have hps:t.ps=t.l:=Tm.ps_of_sym (by omega);rw [hps] at ih;have:∀ L:List Tm,(∀ s∈L,(a8 σ s).size<=M*s.size)->((L.map (a8 σ)).map Tm.size).sum<=M*(L.map Tm.size).sum:=fun L=>by
    induction L with
    | nil=>intro _;simp
    | cons x L ihL =>
     intro g;rw [map_cons,map_cons,map_cons,sum_cons,sum_cons,Nat.mul_add];have a1:=g x (by simp);have a2:=ihL fun s hs=>g s (List.mem_cons_of_mem _ hs);omega
   have h3:=this t.l ih;rw [e1,e2,Nat.mul_add,Nat.mul_one];omega
noncomputable def mgS (a b:Tm):Int->Tm:=c9 (mgT a b).1
theorem b1J {a b:Tm} (ha:a.ten) (hb:b.ten) {t:Tm} (ht:t.ten):(a8 (mgS a b) t).rng/\(a8 (mgS a b) t).ok/\(a8 (mgS a b) t).size<=29550:=by
 have hT:=T8 ha hb;refine ⟨b9r hT.bdsOk ht.1.1,a7G ht.1.2 fun v=>b0h (fun b hb=>(hT.ok b hb).2) v,?_⟩;have h1:=b8k (M:=2955) (by omega) (fun v hv=>c0T ha hb hv) t;have h2:2955*t.size<=2955*10:=Nat.mul_le_mul_left _ ht.2;exact Nat.le_trans h1 h2
def I8 (c:List Lt) (n:Nat):List Lt:=c.take n++c.drop (n+1)
theorem b5r {c:List Lt} {n:Nat} {l:Lt} (h:l∈I8 c n):l∈c:=by
 rcases mem_append.1 h with h | h
 ·exact List.mem_of_mem_take h
 ·exact List.mem_of_mem_drop h
theorem a1l {c:List Lt} {n:Nat} (h:n<c.length):(I8 c n).length+1=c.length:=by
 unfold I8;rw [length_append,length_take,List.length_drop];omega
noncomputable def b1h (c:List Lt) (n:Nat):Option (List Lt):=match c[n]? with
 | some l=>if l.neg=true/\(mgT l.a l.b).2=true then some ((I8 c n).map (Lt.rep (mgS l.a l.b))) else none
 | none=>none
noncomputable def E7 (c:List Lt):List (List Lt):=(I2 c).filterMap fun z=>b1h c z.toNat
noncomputable def a1i (a b:Tm):Bool:=decide (kb a b=1\/kb a b=2)
noncomputable def a7k (p q:Tm×Tm) (rest:List Lt):Option (List Lt):=
 if (mgT p.1 q.1).2=true/\a1i (a8 (mgS p.1 q.1) p.1) (a8 (mgS p.1 q.1) p.2)=true then some ((rest++[(⟨true,p.2,q.2⟩:Lt)]).map (Lt.rep (mgS p.1 q.1))) else none
def J6 (l:Lt):List (Tm×Tm):=[(l.a,l.b),(l.b,l.a)]
noncomputable def a8T (p:Tm×Tm) (L:List (Tm×Tm)) (rest:List Lt):List (List Lt):=L.filterMap fun q=>a7k p q rest
noncomputable def a1B (L:List (Tm×Tm)) (o:Lt) (rest:List Lt):List (List Lt):=L.flatMap fun p=>a8T p (J6 o) rest
noncomputable def a7R (c:List Lt) (l:Lt) (n m:Nat):List (List Lt):=match c[m]? with
 | some o=>if m≠n/\o.neg=false then a1B (J6 l) o (I8 c n) else []
 | none=>[]
noncomputable def a7C (c:List Lt) (n:Nat):List (List Lt):=match c[n]? with
 | some l=>if l.neg=true then [] else (List.range c.length).flatMap fun m=>a7R c l n m
 | none=>[]
noncomputable def U6 (c:List Lt):List (List Lt):=(I2 c).flatMap fun z=>a7C c z.toNat
theorem a3W {l:Lt} (h:l.ten):∀ p∈J6 l,p.1.ten/\p.2.ten:=fun p hp=>by
 simp only [J6,List.mem_cons,List.not_mem_nil,or_false] at hp;rcases hp with rfl | rfl
 ·exact h
 ·exact ⟨h.2,h.1⟩
theorem a8W (p:Tm×Tm) (L:List (Tm×Tm)) (rest:List Lt):(a8T p L rest).length<=L.length:=List.length_filterMap_le _ _
theorem a1d:∀ (L:List (Tm×Tm)) (o:Lt) (rest:List Lt),(a1B L o rest).length<=2*L.length
 | [],o,rest=>by simp [a1B]
 | p::L,o,rest=>by
  have h1:=a8W p (J6 o) rest;have h2:=a1d L o rest;have e:a1B (p::L) o rest=a8T p (J6 o) rest++a1B L o rest:=List.flatMap_cons;have h3:(J6 o).length=2:=rfl;rw [e,length_append,length_cons];omega
section
open Go.RowKit Go.MapKept Go.Shelf
attribute [local go_sem] Oper.semAt_some
noncomputable def c1W (p:Tm×Tm):List CV:=[p.1.cw,p.2.cw]
def c1L (v1 v2 v3 v4:Value) (x:Nat):List Value:=if x=0 then [.agg #[v1,v2],.agg #[v3,v4]] else [.agg #[v3,v4],.agg #[v1,v2]]
set_option maxRecDepth 100000 in
set_option maxHeartbeats 2000000 in
theorem b9R (l Bb ob:Nat) (v1 v2 v3 v4:Value) (R:Nat->Nat->Prop) (w:World) (hc:(R Bb (ob+1)/\w.cell? ⟨Bb,ob+1,none⟩=some v1)/\(R Bb (ob+2)/\w.cell? ⟨Bb,ob+2,none⟩=some v2)/\(R Bb (ob+3)/\w.cell? ⟨Bb,ob+3,none⟩=some v3)/\(R Bb (ob+4)/\w.cell? ⟨Bb,ob+4,none⟩=some v4))
  (J:List Nat->World->Prop)
  (hY:∀ pre (x:Nat) V,J pre V->x=pre.length/\x<2->YieldAt Fence.wide 1 Tryz.prog l (c1L v1 v2 v3 v4 x).toArray V fun e V'=>e = .returned (.bool true)/\J (pre++[x]) V'/\KpX w.heap.size (fun b=>¬ ∃ o,R b o) V V')
  (W:World) (hW:Below w.heap.size w W) (h0:J [] W) :
  CallsIn Fence.wide 2 Tryz.prog 81 #[.func (.yield l) #[] #[],.pointer (some ⟨Bb,ob,none⟩)] W fun e W'=>(∃ v,e = .returned v)/\∃ ys,ys=List.range 2/\J ys W':=by
 have hcs:∀ {V:World},KpX w.heap.size (fun b=>¬ ∃ o,R b o) w V->V.cell? ⟨Bb,ob+1,none⟩=some v1/\V.cell? ⟨Bb,ob+2,none⟩=some v2/\V.cell? ⟨Bb,ob+3,none⟩=some v3/\V.cell? ⟨Bb,ob+4,none⟩=some v4:=fun {V} hV=>by
  have hkeep:∀ b o u,R b o->w.cell? ⟨b,o,none⟩=some u->V.cell? ⟨b,o,none⟩=some u:=fun b o u hr hc=>by
   have hb:b<w.heap.size:=World.block_lt_of_cell? w _ hc;rw [World.cell?_of_block (w:=w) (hV b hb (fun hn=>hn ⟨o,hr⟩))];exact hc
  obtain ⟨⟨g1,g2⟩,⟨g3,g4⟩,⟨g5,g6⟩,g7,g8⟩:=hc;exact ⟨hkeep _ _ _ g1 g2,hkeep _ _ _ g3 g4,hkeep _ _ _ g5 g6,hkeep _ _ _ g7 g8⟩
 have hW0:KpX w.heap.size (fun b=>¬ ∃ o,R b o) w W:=fun b hb _=>hW.block b hb;have HC:Hid (∀ {V:World},KpX w.heap.size (fun b=>¬ ∃ o,R b o) w V->V.cell? ⟨Bb,ob+1,none⟩=some v1/\V.cell? ⟨Bb,ob+2,none⟩=some v2/\V.cell? ⟨Bb,ob+3,none⟩=some v3/\V.cell? ⟨Bb,ob+4,none⟩=some v4):=fun {V} h=>hcs h;clear hcs hc;obtain ⟨c1,c2,c3,c4⟩:=HC.out hW0;obtain ⟨fn,tmps,assign,body,hy,hR⟩:=hY [] 0 _ h0 ⟨rfl,by omega⟩;have hy:Sem.run Tryz.prog (Instr.yield l #[.agg #[v1,v2],.agg #[v3,v4]]) W = .ok (.round l fn tmps assign body) W:=hy;refine callsIn_of_wp Tryz.func81 rfl trivial ?_ rfl;simp only [Tryz.ntmps81,List.size_toArray,length_cons,List.length_nil,Nat.reduceAdd,Nat.reduceSub,Array.replicate_succ,Array.replicate_zero,List.push_toArray,List.append_toArray,List.nil_append,List.cons_append]
 gi_wp2
 refine hR.mono ?_;rintro e V3 ⟨rfl,hJ3,hk3⟩;have hK3:KpX w.heap.size (fun b=>¬ ∃ o,R b o) w V3:=fun b' hb' hx'=>(hk3 b' hb' hx').trans (hW0 b' hb' hx');clear c1 c2 c3 c4 hy hR;obtain ⟨c1,c2,c3,c4⟩:=HC.out hK3;obtain ⟨fn,tmps,assign,body,hy,hR⟩:=hY [0] 1 _ hJ3 ⟨rfl,by omega⟩;have hy:Sem.run Tryz.prog (Instr.yield l #[.agg #[v3,v4],.agg #[v1,v2]]) V3 = .ok (.round l fn tmps assign body) V3:=hy
 gi_wp2
 refine hR.mono ?_;rintro e V4 ⟨rfl,hJ4,hk4⟩
 gi_wp2
 go_end0
 exact ⟨⟨_,rfl⟩,_,rfl,hJ4⟩
theorem b6L {R:Nat->Nat->Prop} {w:World} {l:Lt} {xs:List Value} (h:Rep R w l.cw xs):∃ v0 v1 v2 v3 v4,xs=[v0,v1,v2,v3,v4]/\VRep R w l.a.cw (.agg #[v1,v2])/\VRep R w l.b.cw (.agg #[v3,v4]):=by
 obtain ⟨x1,y1,rfl,h1,h2⟩:=F4.1 h;obtain ⟨x2,y2,rfl,h3,h4⟩:=h2;obtain ⟨x3,y3,rfl,h5,h6⟩:=h4;have h6:y3=[]:=h6;subst h6;have l1:x1.length=1:=h1.len;have l2:x2.length=2:=h3.len;have l3:x3.length=2:=h5.len
 match x1,x2,x3,l1,l2,l3 with
 | [v0],[v1,v2],[v3,v4],_,_,_=>exact ⟨v0,v1,v2,v3,v4,rfl,⟨_,rfl,h3⟩,_,rfl,h5⟩
theorem a3k (l:Lt):b1z Tryz.prog 81 [.ptr l.cw] 2 c1W (J6 l):=by
 rintro w lb R ⟨u,us,rfl,h1,h2⟩;have h2:us=[]:=h2;subst h2;obtain ⟨b,off,xs,rfl,h3,h4⟩:=W8.1 h1;obtain ⟨v0,v1,v2,v3,v4,rfl,g1,g2⟩:=b6L h3;have hc:∀ i,i<5->R b (off+i)/\w.cell? ⟨b,off+i,none⟩=[v0,v1,v2,v3,v4][i]?:=fun i hi=>h4 i hi;refine ⟨c1L v1 v2 v3 v4,fun k=>by unfold c1L;split<;>rfl,fun k x hx=>?_,fun l2 J W hW hJ hY h0=>?_⟩
 ·match k,hx with
  | 0,hx=>cases hx;exact ⟨_,_,rfl,g1,_,_,rfl,g2,rfl⟩
  | 1,hx=>cases hx;exact ⟨_,_,rfl,g2,_,_,rfl,g1,rfl⟩
  | k+2,hx=>cases hx
 ·exact b9R l2 b off v1 v2 v3 v4 R w ⟨hc 1 (by omega),hc 2 (by omega),hc 3 (by omega),hc 4 (by omega)⟩ J hY W hW h0
theorem a5x (W:World) (l:Lt):AFun Tryz.prog W 55 [l.cw] (.val (.fn 81 0 [.ptr l.cw])):=by
 refine b9 (rs:=[.fn 81 0 [.ptr l.cw]]) Tryz.func55 Tryz.ntmps55 rfl rfl rfl rfl ?_;intro w U hW;refine aS (aR ?_);refine nc zd (nc ze ?_);refine AWp.wk (x9 1 rfl rfl rfl (s':=[]) trivial rfl rfl rfl) ?_;refine aS (aR ?_);refine nc zB (nc ze ?_);exact aT ⟨.inr rfl,rfl⟩
end
theorem a9o:(Tryz.prog.info? 44).map (fun i=>(i.zero,i.size,i.bytes))=some (some (.agg #[.bool false,.int .i64 0,.slice none 0 0,.int .i64 0,.slice none 0 0]),5,72):=by kernel_rfl
set_option maxRecDepth 100000 in
set_option maxHeartbeats 400000 in
theorem b4s (n:Nat) (hn:n<=2199023255552) (w:World) :
  Calls Tryz.prog 76 #[.slice none 0 0,.int .i64 (n:Int)] w fun e w'=>∃ v,e = .returned v/\w'.ownsRow w.heap.size 44 5 v 0 []/\Below w.heap.size w w':=by
 obtain ⟨i,hi1,hi2,hi3,hi4⟩:=info_parts a9o;rcases Nat.eq_zero_or_pos n with rfl | h0
 ·go_enter Tryz.func76,Tryz.ntmps76
  go_wp2
  go_ret
  exact ⟨_,rfl,World.ownsRow_nil _ _ _ _,bW _⟩
 ·have hr:=Lib.run_append_nil_zeros (P:=Tryz.prog) w 26 3 26 44 i (.agg #[.bool false,.int .i64 0,.slice none 0 0,.int .i64 0,.slice none 0 0]) .i64 .i64 Tryz.underlying26 Tryz.underlying3 hi1 hi2 n h0 (by rw [hi3];omega) (by omega) (by rw [hi4];omega)
  go_enter Tryz.func76,Tryz.ntmps76
  go_wp2_with (at_builtin;refine Lib.wpList_append_run _ rfl _ _ _ _ rfl _ _ rfl rfl _ _ hr ?_)
  go_wp2
  go_ret
  refine ⟨_,rfl,World.ownsRow_made w.drew _ _ (Nat.le_refl _) (grownCap_le_maxLen _ _ _ _ (by unfold maxLen;omega)) ?_,(Below.refl _ _).drew.alloc (Nat.le_refl _) _⟩;have:=grownCap_ge w n 0 44;simp [size_zeroCells]
  try omega
set_option maxRecDepth 100000 in
set_option maxHeartbeats 800000 in
theorem a8t (a:Option Addr) (m c:Nat) (A:Nat->Option Addr) (L C:Nat->Nat) (R:Nat->List Value) (w:World) (hr:Rw 5 w a m A L C R) (hm:m<=1000) (hs:b0J L m<=1099511627776) :
  Calls Tryz.prog 51 #[.slice a m c] w fun e w'=>∃ v,e = .returned v/\w'.ownsRow w.heap.size 44 5 v (b0J L m) (b1a R m)/\Below w.heap.size w w':=by
 obtain ⟨J,hJ⟩:∃ J:Nat->List Value,J=b1a R:=⟨_,rfl⟩
 obtain ⟨N,hN⟩:∃ N:Nat->Nat,N=b0J L:=⟨_,rfl⟩
 have HS:Hid (∀ k,J (k+1)=J k++R k):=fun k=>by rw [hJ];rfl
 have HSN:Hid (∀ k,N (k+1)=N k+L k):=fun k=>by rw [hN];rfl
 have HJ0:Hid (J 0=[]/\N 0=0):=by rw [hJ,hN];exact ⟨rfl,rfl⟩
 have HL:Hid (∀ k,k<=m->N k<=1099511627776):=fun k hk=>by rw [hN];exact Nat.le_trans (b8n L hk) hs
 have HR:Hid (∀ B w',Below B w w'->w.heap.size<=B->Rw 5 w' a m A L C R):=fun B w' hb hB=>hr.below hb hB;have HR0:Hid (Rw 5 w a m A L C R):=hr;rw [<-hJ,<-hN];clear hJ hs hr hN
 go_enter Tryz.func51,Tryz.ntmps51
 go_wp2
 go_loop [3,11] (fun s i=>∃ k x:Nat,i = .int .i64 (k:Int)/\k<=m/\s = .int .i64 (x:Int)/\x=N k) (fun s i=>m-(intOf i).toNat)
 case atStart=>exact ⟨0,0,rfl,by omega,rfl,by rw [HJ0.out.2]⟩
 case round =>
  obtain ⟨k,x,rfl,hk,rfl,hx⟩:=hrel;have HX:Hid (x=N k):=hx;have hx1:x<=1099511627776:=by rw [hx];exact HL.out k hk
  clear hx;by_cases hlt:k<m
  ·rcases HR0.out.2 with h0 | ⟨b,off,rfl,hb,hc⟩
   ·omega
   have hck:=hc k hlt;have HXX:Hid (x+L k=N (k+1)):=by show x+L k=_;rw [HSN.out k,<-HX.out]
   have hx2:x+L k<=1099511627776:=by rw [HXX.out];exact HL.out (k+1) hlt
   obtain ⟨Lk,hLk⟩:∃ y,L k=y:=⟨_,rfl⟩
   obtain ⟨Ak,hAk⟩:∃ y,A k=y:=⟨_,rfl⟩
   obtain ⟨Ck,hCk⟩:∃ y,C k=y:=⟨_,rfl⟩
   rw [hLk] at HXX hx2;rw [hLk,hAk,hCk] at hck;clear hLk hAk hCk hc
   go_wp2
   refine ⟨⟨k+1,x+Lk,by go_num,by omega,by go_num,HXX.out⟩,?_⟩;simp [intOf];omega
  ·obtain rfl:k=m:=by omega
   go_wp2_with fail
   refine (b4s x (by omega) w).mono ?_;rintro e w1 ⟨v1,rfl,ho1,hb1⟩
   go_wp2
   go_loopw [6,27] (fun u i wr=>∃ j:Nat,i = .int .i64 (j:Int)/\j<=k/\wr.ownsRow w.heap.size 44 5 u (N j) (J j)/\Below w.heap.size w wr) (fun _ i _=>k-(intOf i).toNat)
   case atStart=>exact ⟨0,rfl,by omega,by rw [HJ0.out.1,HJ0.out.2];exact ho1,hb1⟩
   case round =>
    obtain ⟨j,rfl,hj,hoj,hbj⟩:=hrel;by_cases hlt:j<k
    ·obtain ⟨hn1,hbs,hRl,hone⟩:=(HR.out _ _ hbj (Nat.le_refl _)).1 j hlt;rcases (HR.out _ _ hbj (Nat.le_refl _)).2 with h0 | ⟨b,off,rfl,hb,hc⟩
     ·omega
     have hck:=hc j hlt;have hJl:N j+L j<=1099511627776:=by
      have:=HL.out (j+1) hlt;rw [HSN.out j] at this;exact this
     have HSj':Hid (J (j+1)=J j++R j/\N (j+1)=N j+L j):=⟨HS.out j,HSN.out j⟩
     obtain ⟨Lk,hLk⟩:∃ y,L j=y:=⟨_,rfl⟩
     obtain ⟨Ak,hAk⟩:∃ y,A j=y:=⟨_,rfl⟩
     obtain ⟨Ck,hCk⟩:∃ y,C j=y:=⟨_,rfl⟩
     obtain ⟨Rk,hRk⟩:∃ y,R j=y:=⟨_,rfl⟩
     obtain ⟨Jk,hJk⟩:∃ y,J j=y:=⟨_,rfl⟩
     obtain ⟨Nk,hNk⟩:∃ y,N j=y:=⟨_,rfl⟩
     rw [hAk,hRk] at hbs;rw [hRk] at hone;rw [hLk,hRk] at hRl;rw [hLk,hAk,hCk] at hck;rw [hLk,hAk,hCk] at hn1;rw [hJk,hRk,hNk,hLk] at HSj';rw [hJk,hNk] at hoj;rw [hNk,hLk] at hJl;have hsz:=hbj.size;have HRl:=hid hRl;clear hLk hAk hCk hRk hJk hNk hc hRl
     go_wp2_with (at_builtin;refine W6 _ rfl _ _ 26 rfl w.heap.size 44 (.agg #[.bool false,.int .i64 0,.slice none 0 0,.int .i64 0,.slice none 0 0]) 5 72 Tryz.underlying26 a9o rfl (by decide) _ Nk Jk rfl hoj Ak Lk Ck Rk rfl hn1 hbs HRl.out hone ?d1 ?d2 hsz ?_)
     case d1=>unfold maxLen;omega
     case d2=>omega
     intro v2 w2 ho2 hg2;have hb2:=hbj.trans (a8B hoj hg2 hsz);clear hg2
     go_wp2
     go_roundw
     case rel=>exact ⟨j+1,by go_num,hlt,by rw [HSj'.out.1,HSj'.out.2];exact ho2,hb2⟩
     case measure=>simp [intOf];omega
    ·obtain rfl:j=k:=by omega
     go_wp2
     go_ret
     exact ⟨_,rfl,hoj,hbj⟩
theorem a9A {U:Nat->Nat->Prop} {w:World}:∀ {l:List (List Lt)} {ys:List Value},Sq ((l.map fun x=>CV.lst (x.map Lt.cv)).map fun c=>Rep U w c) ys ->
  ∃ (A:Nat->Option Addr) (L C:Nat->Nat) (R:Nat->List Value),∀ r x,l[r]?=some x->ys[r]?=some (.slice (A r) (L r) (C r))/\L r=x.length/\(A r=none->L r=0/\C r=0)/\At U w (A r) (R r)/\Sq ((x.map Lt.cv).map fun c=>Rep U w c) (R r)
 | [],ys,h=>⟨fun _=>none,fun _=>0,fun _=>0,fun _=>[],fun r x hx=>by simp at hx⟩
 | x::l,ys,h=>by
  obtain ⟨y1,y2,rfl,h1,h2⟩:=h;obtain ⟨a,n,c,rfl,g1,g2,g3,g4,zs,g5,g6⟩:=T3.1 h1;obtain ⟨A,L,C,R,hR⟩:=a9A (l:=l) h2;refine ⟨fun r=>match r with | 0=>a | r+1=>A r,fun r=>match r with | 0=>n | r+1=>L r,fun r=>match r with | 0=>c | r+1=>C r,fun r=>match r with | 0=>zs | r+1=>R r,fun r y hy=>?_⟩;cases r with
  | zero =>
   simp at hy;subst hy;exact ⟨rfl,by rw [g1,length_map],g4,g5,g6⟩
  | succ r =>
   simp at hy;exact hR r y hy
theorem b1b {U:Nat->Nat->Prop} {w:World} {l:List (List Lt)} {L:Nat->Nat} {R:Nat->List Value} (h:∀ r x,l[r]?=some x->L r=x.length/\Sq ((x.map Lt.cv).map fun c=>Rep U w c) (R r)) :
  ∀ k,k<=l.length->Sq (((l.take k).flatten.map Lt.cv).map fun c=>Rep U w c) (b1a R k)/\b0J L k=(l.take k).flatten.length:=by
 intro k
 induction k with
 | zero=>intro _;exact ⟨rfl,rfl⟩
 | succ k ih =>
  intro hk;obtain ⟨h1,h2⟩:=ih (by omega);obtain ⟨x,hx⟩:∃ x,l[k]?=some x:=⟨l[k],getElem?_eq_getElem (by omega)⟩
  obtain ⟨h3,h4⟩:=h k x hx;rw [take_add_one,hx,List.flatten_append,b1a,b0J,map_append,map_append,length_append,h2,h3];simp only [Option.toList_some,List.flatten_cons,List.flatten_nil,append_nil];exact ⟨C0 h1 h4,trivial⟩
theorem a8w (W:World) (l:List (List Lt)) (hl:l.length<=1000) (hs:l.flatten.length<=1099511627776):AFun Tryz.prog W 51 [.lst (l.map fun x=>CV.lst (x.map Lt.cv))] (.val (.lst (l.flatten.map Lt.cv))):=by
 refine ⟨B8 Tryz.func51 rfl rfl,.inl rfl,rfl,?_⟩;rintro U w vs hW ⟨u1,us1,rfl,h1,h3⟩;have h3:us1=[]:=h3;subst h3;obtain ⟨a,n,c,rfl,g1,g2,g3,g4,ys,g5,g6⟩:=k8.1 h1;rw [length_map] at g1;subst g1;obtain ⟨A,L,C,R,hR⟩:=a9A g6;obtain ⟨hj,hn⟩:=b1b (fun r x hx=>⟨(hR r x hx).2.1,(hR r x hx).2.2.2.2⟩) l.length (Nat.le_refl _);rw [take_length] at hj hn;have hrw:Rw 5 w a l.length A L C R:=by
  refine ⟨fun r hr=>?_,?_⟩
  ·obtain ⟨k1,k2,k3,k4,k5⟩:=hR r _ (getElem?_eq_getElem hr);refine ⟨k3,a8Y k4,?_,S3 k5⟩;rw [C8 (n:=fun _=>5) (fun c hc xs hx=>by
    obtain ⟨t,ht,rfl⟩:=List.mem_map.1 hc;rw [hx.len];exact Lt.size_all [t] _ (by simp)) k5,k2]
   rw [List.map_const',List.sum_replicate_nat];simp
  ·by_cases hz:l.length=0
   ·exact .inl hz
   ·refine .inr ?_;have hc:=a8Y g5;have hy0:=(hR 0 _ (getElem?_eq_getElem (by omega:0<l.length))).1;rcases hc with hc | ⟨b,off,ha,hb,hc⟩
    ·rw [hc] at hy0;simp at hy0
    ·refine ⟨b,off,ha,hb,fun r hr=>?_⟩;have hy:=(hR r _ (getElem?_eq_getElem hr)).1;have hlt:r<ys.length:=by
      rcases Nat.lt_or_ge r ys.length with h | h
      ·exact h
      ·rw [List.getElem?_eq_none h] at hy;cases hy
     rw [hc r hlt,hy]
 refine (a8t a l.length c A L C R w hrw hl (by rw [hn];exact hs)).mono ?_;rintro e w' ⟨v,rfl,ho,hb⟩;obtain ⟨a',c',rfl,k1,k2,k3,k4⟩:=b0q ho;refine ⟨_,rfl,k8.2 ⟨a',_,c',rfl,by rw [hn,length_map],k1,k2,k3,_,k4.keep fun b o v h1 h2=>⟨.inr h1,h2⟩,hj.keep fun b o v h1 h2=>⟨.inl h1,?_⟩⟩,hb⟩;rw [hb.cell (World.block_lt_of_cell? w _ h2)];exact h2
noncomputable abbrev Sn.cw (s:Sn):CV := .row [s.lit.cw,s.look.cw]
noncomputable def Sn.cv (s:Sn):CV:=s.cw
def ltG {α:Type} (cmp:α->α->Int) (x y:α):Bool:=decide (cmp x y<0)
def ltO (x y:Int):Bool:=decide (x<y)
def b2h:List (Option (List Value))->Option (List Value)
 | []=>some []
 | none::_=>none
 | some x::r=>match b2h r with | some y=>some (x++y) | none=>none
def plS (k:Nat) (v:Value) (l:List CV) (r:Option (List Value)):Option (List Value):=match k,v,l with
 | 0,v,[]=>match N9 v,G5 v with | true,false=>some [v] | _,_=>none
 | 1,.nilFunc,[]=>some [.slice none 0 0]
 | 2,.nilFunc,_=>r
 | _,_,_=>none
def plC:Nat->CV->Option (List Value)
 | 0,_=>none
 | n+1,⟨k,v,l⟩=>plS k v l (b2h (l.map (plC n)))
theorem a1P {U:Nat->Nat->Prop} {w:World} {n:Nat} (ih:∀ c vs,plC n c=some vs->Rep U w c vs/\vs.length=c.size):∀ {zs:List CV} {vs:List Value},b2h (zs.map (plC n))=some vs->∃ segs:List (List Value),segs.flatten=vs/\segs.map List.length=zs.map CV.size/\zs.length=segs.length/\∀ (i:Nat) (c:CV),zs[i]?=some c->∃ seg,segs[i]?=some seg/\Rep U w c seg
 | [],vs,h=>by
  simp [b2h] at h;subst h;exact ⟨[],rfl,rfl,rfl,fun i c hi=>by simp at hi⟩
 | z::zs,vs,h=>by
  rw [map_cons] at h;cases hz:plC n z with
  | none=>rw [hz] at h;simp [b2h] at h
  | some x =>
   rw [hz] at h;unfold b2h at h;split at h
   ·rename_i y hy;cases h;obtain ⟨segs,a1,a2,a3,a4⟩:=a1P ih hy;obtain ⟨b1,b2⟩:=ih z x hz;refine ⟨x::segs,by simp [a1],by simp [a2,b2],by simp [a3],fun i c hi=>?_⟩;cases i with
    | zero=>simp at hi;subst hi;exact ⟨x,rfl,b1⟩
    | succ i=>obtain ⟨seg,c1,c2⟩:=a4 i c (by simpa using hi);exact ⟨seg,by simpa using c1,c2⟩
   ·cases h
theorem a4N {U:Nat->Nat->Prop} {w:World}:∀ (n:Nat) (c:CV) (vs:List Value),plC n c=some vs->Rep U w c vs/\vs.length=c.size
 | 0,c,vs,h=>by cases h
 | n+1,⟨k,v,l⟩,vs,h=>by
  rw [plC] at h;unfold plS at h;split at h
  ·split at h
   ·rename_i h1 h2;cases h;exact ⟨(W7 h1).2 h2,rfl⟩
   ·cases h
  ·cases h;exact ⟨a7B U w,rfl⟩
  ·obtain ⟨segs,a1,a2,a3,a4⟩:=a1P (fun c vs h=>a4N (U:=U) (w:=w) n c vs h) h;refine ⟨?_,?_⟩
   ·show Rep U w (.row l) vs;rw [F4,<-a1];exact H9 a3 a4
   ·rw [CV.size_mk,if_pos rfl,<-a1,List.length_flatten,a2]
  ·cases h
section
variable {P:Program} {w0:World} {U0:UX} {nt:Nat} {ops:Array Oper} {o:Oper} {S:Nat->Option AV} {gs:List Nat} {d:Nat}
theorem b6H (zs:List CV) (hg:Gd w0 U0 nt ops o gs S) (hd:o.dst=some d) (hn:Nat.blt d nt=true) (h5:Nat.blt d 100000=true) {ty:TypeId} {it:TypeInfo} {cs:Array Value} (ho:o.op = .alloc ty) (hi:P.info? ty=some it) (hz:it.zero=some (.agg cs)) (h0:plC 6 (.row zs)=some cs.toList):AOp P w0 U0 nt ops o gs [(d,[])] S [(d,.bp d 0 []),(100000+d,.bx (.row zs))]:=by
 intro s hs hN a w ⟨D,hv,h⟩ Q K hK;rw [if_pos (hg s hs a w D hv h)];have hrep:Rep (Us w0 U0 D) w (.row zs) cs.toList:=(a4N 6 _ _ h0).1;have he:(execOp a.eval o).run P w = .ok (.value (.pointer (some ⟨w.heap.size,0,none⟩))) (w.alloc (.cells cs ty)):=by
  simp [execOp,ho,Instr.alloc,zeroValue,typeInfo,hi,hz,E0,Value.cells]
 unfold Oper.wp;rw [he,Oper.upon_value,hd];have:=h.newbox (d:=d) (av := .bx (.row zs)) (hN (d,[]) (by simp)).nr (bL hn) (bL h5) (.inl rfl) ty (fun _=>hrep) (fun _ hl=>absurd hl A7);rw [Array.toArray_toList] at this;exact hK _ _ ⟨_,_,this⟩
theorem zbP {P:Program} {w0:World} {U0:UX} {nt:Nat} {ops:Array Oper} {o:Oper} {S:Nat->Option AV} {gs:List Nat} {d:Nat} {ty:TypeId} {it:TypeInfo} {cs:Array Value} (zs:List CV) (p:Gd w0 U0 nt ops o gs S:=by exact gN rfl) (q:o.dst=some d:=by exact rfl) (r:Nat.blt d nt=true:=by exact rfl) (t:Nat.blt d 100000=true:=by exact rfl) (u:o.op = .alloc ty:=by exact rfl) (v:P.info? ty=some it:=by exact rfl) (x:it.zero=some (.agg cs):=by exact rfl) (y:plC 6 (.row zs)=some cs.toList:=by exact rfl):AOp P w0 U0 nt ops o gs [(d,[])] S [(d,.bp d 0 []),(100000+d,.bx (.row zs))]:=b6H zs p q r t u v x y
theorem b6M (zs:List CV) (hg:Gd w0 U0 nt ops o gs S) (hd:o.dst=some d) (hn:Nat.blt d nt=true) (h5:Nat.blt d 100000=true) {t:TypeId} {parts:Array (Nat×Operand)} {fs:Array Field} {it:TypeInfo} {cs:Array Value} {sz:List Nat} {r:List CV} (ho:o.op = .build t parts) (hu:P.underlying t=some (.struct fs)) (hi:P.info? t=some it) (hz:it.zero=some (.agg cs)) (hsz:szO P fs.toList 0=some sz) (hzz:zs.map CV.size=sz) (h0:b2h (zs.map (plC 6))=some cs.toList) (hr:O9 S parts.toList zs=some r) :
  AOp P w0 U0 nt ops o (gs++rds parts.toList) [] S [(d,.val (.row r))]:=
 j8 hg hd hn h5 (fun k hk=>List.mem_append_left _ hk) fun s hs a w D hv hm=>by
  obtain ⟨segs,e1,e2,e4,e5⟩:=a1P (U:=Us w0 U0 D) (w:=w) (a4N 6) h0;obtain ⟨g1,g2⟩:=S6 (U:=Us w0 U0 D) (w:=w) (ρ:=a.eval) (segs:=segs) hr (fun x hx c n q p hev=>A0 hm (fun k hk=>hs k (List.mem_append_right _ (a3v hx k hk))) hev) e4 e2 e5;obtain ⟨pl,h1,h2⟩:=a4s hsz;have hfill:=X8 (place:=fun i=>pl.toArray[i]?) sz (fun i z hz=>by rw [List.getElem?_toArray,h2 i z hz,Nat.zero_add]) (parts.toList.map fun x=>(x.1,a.eval x.2)) segs cs e1.symm (by rw [e2,hzz]) (fun x hx=>by rw [<-hzz];exact g1 x hx);refine ⟨.agg (E8 segs (parts.toList.map fun x=>(x.1,a.eval x.2))).flatten.toArray,?_,l7 (J3.2 ⟨_,rfl,g2⟩)⟩;have hb:P.built t (parts.map fun x=>(x.1,a.eval x.2)).toList=some (E8 segs (parts.toList.map fun x=>(x.1,a.eval x.2))).flatten.toArray:=by
   unfold Program.built;rw [hi,hu];simp only [hz,h1];rw [Array.toList_map];exact hfill
  have:=run_build w t _ _ hb;generalize a.eval=ρ at this |-;simp [execOp,ho,this]
theorem zbO {P:Program} {w0:World} {U0:UX} {nt:Nat} {ops:Array Oper} {o:Oper} {S:Nat->Option AV} {gs:List Nat} {d:Nat} {t:TypeId} {parts:Array (Nat×Operand)} {fs:Array Field} {it:TypeInfo} {cs:Array Value} {sz:List Nat} {r:List CV} (zs:List CV) (u:Gd w0 U0 nt ops o gs S:=by exact gN rfl) (v:o.dst=some d:=by exact rfl) (y:Nat.blt d nt=true:=by exact rfl) (A:Nat.blt d 100000=true:=by exact rfl) (B:o.op = .build t parts:=by exact rfl) (C:P.underlying t=some (.struct fs):=by exact rfl) (E:P.info? t=some it:=by exact rfl) (F:it.zero=some (.agg cs):=by exact rfl) (G:szO P fs.toList 0=some sz:=by exact rfl) (H:zs.map CV.size=sz:=by exact rfl) (h0:b2h (zs.map (plC 6))=some cs.toList:=by exact rfl) (hr:O9 S parts.toList zs=some r:=by exact rfl):AOp P w0 U0 nt ops o (gs++rds parts.toList) [] S [(d,.val (.row r))]:=b6M zs u v y A B C E F G H h0 hr
end
def eqF (p:Lt->Lt->Bool):List Lt->List Lt->Bool
 | [],[]=>true
 | x::c,y::d=>p x y&&eqF p c d
 | _,_=>false
theorem b2v {p:Lt->Lt->Bool}:∀ {c d:List Lt},c.length≠d.length->eqF p c d=false
 | [],[],h=>absurd rfl h
 | [],_::_,_=>rfl
 | _::_,[],_=>rfl
 | x::c,y::d,h=>by rw [eqF,b2v (c:=c) (d:=d) (by simpa using h),Bool.and_false]
theorem b6P {p:Lt->Lt->Bool}:∀ {c d:List Lt} {k:Nat} {x y:Lt},c[k]?=some x->d[k]?=some y->p x y=false->eqF p c d=false
 | [],_,k,_,_,h,_,_=>by simp at h
 | _::_,[],k,_,_,_,h,_=>by simp at h
 | a::c,b::d,0,x,y,h1,h2,h=>by
  simp at h1 h2;subst h1 h2;rw [eqF,h,Bool.false_and]
 | a::c,b::d,k+1,x,y,h1,h2,h=>by rw [eqF,b6P (c:=c) (d:=d) (k:=k) (by simpa using h1) (by simpa using h2) h,Bool.and_false]
theorem b2E {p:Lt->Lt->Bool}:∀ {c d:List Lt},c.length=d.length->(∀ (k:Nat) (x y:Lt),c[k]?=some x->d[k]?=some y->p x y=true)->eqF p c d=true
 | [],[],_,_=>rfl
 | [],_::_,h,_=>by simp at h
 | _::_,[],h,_=>by simp at h
 | x::c,y::d,h,hp=>by
  rw [eqF,hp 0 x y rfl rfl,Bool.true_and];exact b2E (by simpa using h) fun k a b h1 h2=>hp (k+1) a b (by simpa using h1) (by simpa using h2)
theorem b6A (c d:List Lt):eqF (fun x y=>x.neg == y.neg) c d=decide (c.map Lt.neg=d.map Lt.neg):=by
 induction c generalizing d with
 | nil=>cases d<;>simp [eqF]
 | cons x c ih=>cases d with
  | nil=>simp [eqF]
  | cons y d=>rw [eqF,ih,Bool.eq_iff_iff];simp
theorem b9H (W:World) (p:Lt->Lt->Bool) (fc:CV) (c d:List Lt) (hl:c.length<=1000000) (hc:∀ W,∀ x∈c,∀ y∈d,N4 Tryz.prog W fc [x.cw,y.cw] (.val (.b (p x y)))):AFun Tryz.prog W 42 [.lst (c.map Lt.cv),.lst (d.map Lt.cv),fc] (.val (.b (eqF p c d))):=by
 have hs1:=Lt.size_all c;have hs2:=Lt.size_all d;refine b9 (rs:=[.b (eqF p c d)]) Tryz.func42 Tryz.ntmps42 rfl rfl rfl rfl ?_;intro w U hW;refine aS (aR ?_);refine nc ze ?_;refine aS (aS (aR ?_));refine nc zl (nc zp (nc zl (nc zp (nc zba ?_))));refine aC rfl (fun h=>?_) (fun h=>?_)
 ·have h:=of_decide_eq_true h;rw [length_map,length_map] at h;rw [b2v (p:=p) (c:=c) (d:=d) (by omega)];refine aS (aR ?_);refine nc ze ?_;exact aT (And.intro (.inr rfl) rfl)
 have hll:c.length=d.length:=by
  have:=of_decide_eq_false h;simp only [length_map,ne_eq,Decidable.not_not] at this;omega
 refine aK ?_;refine aS (aS (aR ?_));refine nc zl (nc zp (nc zl ?_));refine aB (y9 c.length (fun k=>∀ (i:Nat) (x y:Lt),i<k->c[i]?=some x->d[i]?=some y->p x y=true) (fun k=>[(1,.val (.lst (d.map Lt.cv))),(2,.val fc),(15,.val (.lst (c.map Lt.cv))),(16,.val (.i (c.map Lt.cv).length)),(17,.val (.i k))]) (a7 ⟨rfl,rfl,rfl,rfl,rfl,trivial⟩) (fun i _ _ hi=>by omega) ?_);intro k hk hI;refine aS (aR ?_);refine nc zi ?_;refine aS (aC rfl (fun hlt=>?_) (fun hlt=>?_))
 ·have hkl:k<c.length:=by simpa using hlt
  obtain ⟨x,hx⟩:∃ x,c[k]?=some x:=⟨c[k],getElem?_eq_getElem hkl⟩
  obtain ⟨y,hy⟩:∃ y,d[k]?=some y:=⟨d[k]'(by omega),getElem?_eq_getElem (by omega)⟩
  have hx':=Lt.map_at hx;have hy':=Lt.map_at hy;refine aK ?_;refine aS (aB (aS (aR ?_)));refine nc zl (nc (zq (j:=k) (H:=hx') (hz:=hs1)) (nc zr (nc zk (nc ze (nc zo ?_)))));refine aS (aR ?_);refine nc zl (nc zl (nc (zq (j:=k) (H:=hy') (hz:=hs2)) (nc zr (nc zk (nc zo ?_)))));refine aS (aR ?_);refine nc zl (nc zy (nc zy (nc (zO (E:=hc w x (mem_of_getElem? hx) y (mem_of_getElem? hy))) (nc z0 ?_))));refine aC rfl (fun hq=>?_) (fun hq=>?_)
  ·rw [b6P hx hy (by simpa using hq)];refine aS (aR ?_);refine nc ze ?_;exact aT (And.intro (.inr rfl) rfl)
  ·have hq:p x y=true:=by simpa using hq
   refine aK ?_;refine aR ?_;refine nc zu (nc zl ?_);refine ⟨hkl,fun i a b hi h1 h2=>?_,a7 ⟨rfl,rfl,rfl,rfl,rfl,trivial⟩⟩;rcases Nat.lt_or_ge i k with h3 | h3
   ·exact hI i a b h3 h1 h2
   ·have:i=k:=by omega
    subst this;rw [hx] at h1;rw [hy] at h2;cases h1;cases h2;exact hq
 ·have hkl:k=c.length:=by
   have:¬ k<c.length:=by simpa using hlt
   omega
  subst hkl;rw [b2E hll fun i x y h1 h2=>hI i x y (by have:=(List.getElem?_eq_some_iff.1 h1).1;omega) h1 h2];refine aE ?_;refine aS (aR ?_);refine nc ze ?_;exact aT (And.intro (.inr rfl) rfl)
set_option maxHeartbeats 1000000 in
theorem a6G (W:World) (a b:Tm) (ha:a.rng) (hb:b.rng) (hok:a.ok) (has:a.size<=90000000000) (hbs:b.size<=90000000000) (hnl:a.nv.length<=1000000) (hnb:b.nv.length<=1000000):AFun Tryz.prog W 44 [a.cw,b.cw] (.val (.b (a7v a b))):=by
 refine b9 (rs:=[.b (a7v a b)]) Tryz.func44 Tryz.ntmps44 rfl rfl rfl rfl ?_;intro w U hW;have hV1:=a8L w ha (by omega);have hV2:=a8L w hb (by omega);rw [b9q] at hV1 hV2;refine aS (aR ?_);refine nc zd (nc zd (nc ze ?_));refine aS (aD (by kernel_rfl) (by kernel_rfl) ?_);refine nc zy (nc (zw (z:=hV1)) (nc zy (nc (zw (z:=hV2)) (nc ze (nc ze ?_)))));refine ⟨by kernel_rfl,?_⟩;have hur:=c1u hb;unfold a7v;obtain ⟨l,hl⟩:∃ l,l=a.nv:=⟨_,rfl⟩
 obtain ⟨m,hm⟩:∃ m,m=b.nv:=⟨_,rfl⟩
 rw [<-hl] at hnl |-;rw [<-hm] at hnb hur |-;have hsz:=q9 l;have hsm:=q9 m;refine aS (aS (aR ?_));refine nc zl (nc zp (nc zl (nc zp (nc zba ?_))));refine aC rfl (fun hc=>?_) (fun hc=>aK ?_)
 ·have hne:¬ l.length=m.length:=by
   simp only [length_map] at hc;simp at hc;omega
  rw [show decide (l.length=m.length)=false by simpa using hne,Bool.false_and];refine aS (aR ?_);refine nc ze ?_;exact aT (And.intro (.inr rfl) rfl)
 have he:l.length=m.length:=by
  simp only [length_map] at hc;simp at hc;omega
 clear hc;rw [show decide (l.length=m.length)=true by simpa using he,Bool.true_and];obtain ⟨z,hz⟩:∃ z,z=a3Y l m:=⟨_,rfl⟩
 have hzl:z.length=l.length:=by rw [hz];exact b7Y he
 have hzz:=fun k=>Bd.size_all (z.take k);have hzo:bdsOk z:=fun x hx=>by
  rw [hz] at hx;obtain ⟨u,hu,e⟩:=b8I hx;rw [e];exact ⟨X4 (hur u hu).1 (hur u hu).2,by rw [K6];omega⟩
 rw [<-hz];refine aS (aR ?_);refine nc ze ?_;refine aS (aS (aR ?_));refine nc zl (nc zp (nc zl ?_));refine aB (p6 l.length (fun k=>[(2,.bp 2 0 []),(100002,.bx a.cw),(3,.bp 3 0 []),(100003,.bx b.cw),(6,.val (.lst (m.map CV.i))),(7,.own (.lst ((z.take k).map Bd.cv)) 200035),(200035,.tok 99 3),(19,.val (.lst (l.map CV.i))),(20,.val (.i (l.map CV.i).length)),(21,.val (.i k))])
  ((K5 7 200035 99 3 rfl rfl rfl rfl rfl rfl rfl).trans (a7 ⟨rfl,rfl,rfl,rfl,rfl,rfl,rfl,rfl,rfl,rfl,trivial⟩)) ?_)
 intro k hk;refine aS (aR ?_);refine nc zi ?_;refine aS (aC rfl (fun hc=>aK ?_) (fun hc=>aE ?_))
 ·have hkl:k<l.length:=by
   simp only [length_map,decide_eq_true_eq] at hc;omega
  clear hc;obtain ⟨v,hv⟩:∃ v,l[k]?=some v:=⟨l[k],getElem?_eq_getElem hkl⟩
  obtain ⟨u,hu⟩:∃ u,m[k]?=some u:=⟨m[k],getElem?_eq_getElem (by omega)⟩
  have hv':=b2x hv;have hu':=b2x hu;have hub:=hur u (mem_of_getElem? hu);have hzk:z[k]?=some ⟨v,l9 u⟩:=by rw [hz];exact c0X hv hu
  refine aS (aB (aS (aR ?_)));refine nc zl (nc (zq (H:=by assumption) (hz:=by first | assumption | exact sZ rfl | exact Tm.size_all _ | exact Bd.size_all _ | exact q9 _ | exact bys_size _ | exact Lt.size_all _)) (nc zr (nc ze (nc ze ?_))));refine aR ?_;refine nc zl (nc zl (nc zl (nc zl (nc (zq (H:=by assumption) (hz:=by first | assumption | exact sZ rfl | exact Tm.size_all _ | exact Bd.size_all _ | exact q9 _ | exact bys_size _ | exact Lt.size_all _)) (nc zr (nc (zw (z:=I1 w u hub.1 hub.2)) (nc zn (nc zD (nc zE (nc ze ?_))))))))));refine aR ?_;refine nc zu (nc zl ?_);refine ⟨hkl,Wk.trans (a7 (s':=[(2,.bp 2 0 []),(100002,.bx a.cw),(3,.bp 3 0 []),(100003,.bx b.cw),(6,.val (.lst (m.map CV.i))),(7,.own (.lst ((z.take (k+1)).map Bd.cv)) 300035),(300035,.tok 99 3),(19,.val (.lst (l.map CV.i))),(20,.val (.i (l.map CV.i).length)),(21,.val (.i ((k+1:Nat):Int)))]) ⟨rfl,rfl,rfl,rfl,rfl,?_,rfl,rfl,rfl,rfl,trivial⟩) (A3 300035 200035 rfl rfl rfl rfl)⟩;rw [take_add_one,hzk,map_append];rfl
 ·have hkl:k=z.length:=by
   simp only [length_map,decide_eq_false_iff_not] at hc;omega
  subst hkl;rw [take_length];refine aS (aD (by kernel_rfl) (by kernel_rfl) ?_);refine nc zl (nc zy (nc (zw (z:=a2V w z a (by omega) hzo ha hok)) (nc zy ?_)));refine nc (zw (z:=a8M w (a1q ha fun v h1 h2=>(a1H hzo h1 h2).1) hb)) ?_;refine nc ze ?_;refine ⟨by kernel_rfl,?_⟩;exact aT (And.intro (.inr rfl) rfl)
def okCl (c:List Lt):Prop:=c.length<=12/\∀ l∈c,(l.a.rng/\l.a.ok/\l.a.size<=1000)/\(l.b.rng/\l.b.ok/\l.b.size<=1000)
theorem a4L {c:List Lt} {s:Tm}:s∈A4 c↔∃ l∈c,s=l.a\/s=l.b:=by
 unfold A4;rw [mem_flatMap];constructor
 ·rintro ⟨l,hl,h⟩;exact ⟨l,hl,by simpa using h⟩
 ·rintro ⟨l,hl,h⟩;exact ⟨l,hl,by simpa using h⟩
theorem okCl.sid {c:List Lt} (h:okCl c):(T9 c).rng/\(T9 c).ok/\(T9 c).size<=24001:=by
 have hm:∀ s∈A4 c,s.rng/\s.ok/\s.size<=1000:=fun s hs=>by
  obtain ⟨l,hl,e⟩:=a4L.1 hs;rcases e with rfl | rfl
  ·exact (h.2 l hl).1
  ·exact (h.2 l hl).2
 have hl:=a1m c;have h1:=h.1;refine ⟨(Tm.rng_iff _).2 ⟨by show _<=(0:Int)/\(0:Int)<=_;omega,fun s hs=>(hm s hs).1⟩,(Tm.ok_iff _).2 ⟨by show (A4 c).length<=_;omega,fun s hs=>(hm s hs).2.1⟩,?_⟩;rw [Tm.size_sym (show ¬ (T9 c).f<0 by show ¬ (0:Int)<0;decide)];show 1+((A4 c).map Tm.size).sum<=_;have:∀ L:List Tm,(∀ s∈L,s.size<=1000)->(L.map Tm.size).sum<=1000*L.length:=fun L=>by
  induction L with
  | nil=>intro _;exact Nat.zero_le _
  | cons x L ih =>
   intro g;rw [map_cons,sum_cons,length_cons];have a1:=g x (by simp);have a2:=ih fun s hs=>g s (List.mem_cons_of_mem _ hs);omega
 have:=this (A4 c) fun s hs=>(hm s hs).2.2;omega
theorem okCl.nv {c:List Lt} (h:okCl c):(T9 c).nv.length<=24001:=Nat.le_trans (b1E _) h.sid.2.2
theorem okCl.rng {c:List Lt} (h:okCl c):∀ l∈c,l.rng:=fun l hl=>⟨(h.2 l hl).1.1,(h.2 l hl).2.1⟩
theorem okCl.ok {c:List Lt} (h:okCl c):∀ l∈c,l.a.ok/\l.b.ok:=fun l hl=>⟨(h.2 l hl).1.2.1,(h.2 l hl).2.2.1⟩
def Lt.z:Lt:=⟨false,⟨0,[]⟩,⟨0,[]⟩⟩
noncomputable abbrev ltZ:CV := .row [.b false,.row [.i 0,.lst []],.row [.i 0,.lst []]]
def c5y (c:List Lt) (g:Int->Int):List Bd:=a3Y (T9 c).nv ((b7b (T9 c).nv.length).map g)
section
variable {P:Program} {w0:World} {U0:UX} {nt:Nat} {s:AS}
theorem b8c (k n e0 z:Nat) (hk:Nat.ble 500000 k=true) (hn:(Nat.ble 200000 n&&Nat.blt n 400000)=true) (hz:Nat.blt 0 z=true) (hs:look s k=some ⟨0,.lst [],1,0,[]⟩) (hr:B0 s [(n,[])]=true) (hnk:R6 s n=true):Wk w0 U0 nt s ((k,.sl n 0 0 z)::(n,.mrow e0 z [])::s):=by
 rintro a w ⟨D,hv,h⟩;have hk5:=Nat.le_of_ble_eq_true hk;have hrn:=rnB hn;have hrn':RN n:=RW.rn hrn;unfold RW at hrn;have hnk':look s n=none:=by
  cases e:look s n with
  | none=>rfl
  | some av =>
   unfold R6 at hnk;rw [all_eq_true] at hnk;have:=hnk _ (B9 e);simp [Nat.beq_refl] at this
 have hnr:S0 s n:=(r6 hr (n,[]) (by simp)).nr;obtain ⟨hv',hhv⟩:∃ hv':Nat->Value,hv'=fun x=>if x=n then .slice none 0 0 else hv x:=⟨_,rfl⟩
 have hvn:∀ x,x≠n->hv' x=hv x:=fun x hx=>by rw [hhv];simp only [if_neg hx]
 have hvd:hv' n = .slice none 0 0:=by rw [hhv];simp
 obtain ⟨s',hs'⟩:∃ s',s'=(k,AV.sl n 0 0 z)::(n,AV.mrow e0 z [])::s:=⟨_,rfl⟩
 rw [<-hs'];have hlk:∀ x,x≠k->x≠n->look s' x=look s x:=fun x h1 h2=>by rw [hs',lN (Ne.symm h1),lN (Ne.symm h2)]
 have hlkk:look s' k=some (.sl n 0 0 z):=by rw [hs',lS]
 have hlkn:look s' n=some (.mrow e0 z []):=by rw [hs',lN (by omega),lS]
 have hl:∀ q e,t9 s' q e↔t9 s q e:=fun q e=>by
  unfold t9;by_cases e1:q=k
  ·omega
  ·by_cases e2:q=n
   ·subst e2;rw [hlkn,hnk'];constructor<;>(rintro ⟨h1,_⟩;cases h1)
   ·rw [hlk q e1 e2]
 have hl2:a9 s'=a9 s:=by funext q;simp only [a9,hl]
 have hmv:∀ {k' av v},look s k'=some av->AVRep (Us w0 U0 D) w hv (a9 s) av v->AVRep (Us w0 U0 D) w hv' (a9 s) av v:=fun {k' av v} h1 h2 =>
  h2.move (fun _ _ _ h1 h2=>⟨h1,h2⟩) (fun _ h=>h) fun h3=>hvn _ (a1T hrn' (hnr k' av h1).1 h3)
 refine ⟨D,hv',h.below,h.dfr,h.size,fun d av g1 g2=>?_,fun m o av g1 g2 g3 g4=>?_,fun m o o' av av' g1 g2 g3 g4 g5=>?_,fun k' av g1 g2=>?_,fun k' av g g1 g2 g3 g4=>?_,fun k' k2 av av' g g1 g2 g3 g4 g5 g6 g7 g8=>?_,fun k' v g1=>?_,h.dlt⟩
 ·rw [hlk d (by omega) (by omega)] at g1;rw [hl2];obtain ⟨v,h1,h2⟩:=h.slot d av g1 g2;exact ⟨v,h1,hmv g1 h2⟩
 ·have hbk:=F3 g4;unfold j9 at hbk;unfold BN at g4;rw [hlk (100000+m) (by omega) (by omega)] at g3;rw [hl2,hvn (100000+m) (by omega)];by_cases e:d9 m o=k
  ·rw [e,hlkk] at g1;cases g1;obtain ⟨v,h1,h2,h3⟩:=h.fld m o _ (by rw [e];exact hs) g2 g3 g4;have hv0:v = .slice none 0 0:=by
    obtain ⟨q1,q2⟩:VRep (Us w0 U0 D) w (.lst []) v/\Tk hv (a9 s) ⟨0,.lst [],1,0,[]⟩ v.cells.toList:=h1;obtain ⟨mm,c,f1,f2⟩:=q2 (.inl rfl);simp only at f1;rw [Q3] at f1;cases f1;obtain ⟨ao,k,c,e1,_⟩:=k8.1 q1;rw [e1] at f2 |-;simpa [Value.cells,H6] using f2
   subst hv0;refine ⟨.slice none 0 0,⟨hrn',?_⟩,rfl,h3⟩;show SlV (hv' n) 0 0 z (.slice none 0 0);rw [hvd];exact O1 rfl (Nat.le_refl _) (.inl rfl)
  ·rw [hlk _ e (by unfold d9;omega)] at g1;obtain ⟨v,h1,h2,h3⟩:=h.fld m o av g1 g2 g3 g4;exact ⟨v,hmv g1 h1,h2,h3⟩
 ·have conv:∀ o (av:AV),look s' (d9 m o)=some av->∃ av',look s (d9 m o)=some av'/\av'.sz=av.sz:=fun o av f1=>by
   by_cases e:d9 m o=k
   ·rw [e,hlkk] at f1;cases f1;exact ⟨⟨0,.lst [],1,0,[]⟩,by rw [e];exact hs,rfl⟩
   ·rw [hlk _ e (by unfold d9;omega)] at f1;exact ⟨av,f1,rfl⟩
  obtain ⟨a1,b1,c1⟩:=conv o av g1
  obtain ⟨a2,b2,c2⟩:=conv o' av' g2
  rw [<-c1];exact h.fdis m o o' a1 a2 b1 b2 g3 g4 g5
 ·unfold j9 at g2;rw [hl2];by_cases e:k'=n
  ·subst e;rw [hlkn] at g1;cases g1;rw [hvd];exact ⟨[],World.ownsRow_nil _ _ _ _,bL hz,(fun c hc=>by cases hc),rfl⟩
  ·rw [hlk k' (by omega) e] at g1;rw [hvn k' e];exact (h.obj k' av g1 g2).move (fun _ _ _ h1 h2=>⟨h1,h2⟩) (fun ht hl=>⟨hl,by
    unfold H6;rw [hvn _ (hnr k' av g1).1]⟩) (fun _ _=>rfl)
 ·unfold j9 at g2;by_cases e:k'=n
  ·subst e;rw [hvd] at g4;cases g4
  ·rw [hlk k' (by omega) e] at g1;rw [hvn k' e] at g4 |-;exact h.blk k' av g g1 g2 g3 g4
 ·unfold j9 at g3 g4;by_cases e:k'=n
  ·subst e;rw [hvd] at g8;cases g8
  ·by_cases e2:k2=n
   ·subst e2;rw [hvd];intro h9;cases h9
   ·rw [hlk k' (by omega) e] at g1;rw [hlk k2 (by omega) e2] at g2;rw [hvn k' e] at g8;rw [hvn k2 e2];exact h.disj k' k2 av av' g g1 g2 g3 g4 g5 g6 g7 g8
 ·have:=U0.hf k' v g1;rw [hvn k' (by omega)];exact h.fix k' v g1
end
theorem a2k (W:World) (x y:List Lt) (hl:x.length+y.length<=1000000):AFun Tryz.prog W 51 [.lst [.lst (x.map Lt.cv),.lst (y.map Lt.cv)]] (.val (.lst ((x++y).map Lt.cv))):=by
 have h:=a8w W [x,y] (by simp) (by simp;omega);have e:[x,y].flatten=x++y:=by simp
 rw [e] at h;exact h
theorem a2t (W:World) (c:List Lt) (n:Nat) (hn:n<c.length) (hl:c.length<=100000):AFun Tryz.prog W 29 [.lst (c.map Lt.cv),.i (n:Int)] (.val (.lst ((I8 c n).map Lt.cv))):=by
 have hsz:=Lt.size_all c;have hc2:=fun w=>a2k w (c.take n) (c.drop (n+1)) (by rw [length_take,List.length_drop];omega);rw [List.map_take,List.map_drop] at hc2;have hlen:(c.map Lt.cv).length=c.length:=length_map ..;refine b9 (rs:=[.lst ((I8 c n).map Lt.cv)]) Tryz.func29 Tryz.ntmps29 rfl rfl rfl rfl ?_;intro w U hW;refine aS (aR ?_);refine nc ze ?_;refine aS (aD (by kernel_rfl) (by kernel_rfl) ?_);refine nc zl (nc zl (nc zbN (nc zl (nc zl (nc zu (nc (zbA (lo:=n+1)) (nc zD (nc (zw (z:=hc2 w)) (nc ze ?_)))))))));refine ⟨by kernel_rfl,?_⟩;exact aT (And.intro (.inr rfl) rfl)
theorem b1c (W:World) (l:Lt) (ha:l.a.rng/\l.a.ok/\l.a.size<=29550) (hb:l.b.rng/\l.b.ok/\l.b.size<=29550):AFun Tryz.prog W 56 [l.cw] (.val (.b (a1i l.a l.b))):=by
 have hk:=fun w=>a9J w l.a l.b ha.1 ha.2.1 (by omega) hb.1 hb.2.1 (by omega);obtain ⟨k,hkk⟩:∃ k,k=kb l.a l.b:=⟨_,rfl⟩
 have he:a1i l.a l.b=decide (k=1\/k=2):=by rw [hkk];rfl
 rw [<-hkk] at hk;rw [he];refine b9 (rs:=[.b (decide (k=1\/k=2))]) Tryz.func56 Tryz.ntmps56 rfl rfl rfl rfl ?_;intro w U hW;refine aS (aR ?_);refine nc zd (nc ze ?_);refine aS (aR ?_);refine nc zg (nc zh (nc zg (nc zh (nc (zw (z:=hk w)) (nc ze ?_)))));by_cases h1:k=1
 ·have g:decide (k=1)=true:=decide_eq_true h1;rw [decide_eq_true (Or.inl h1)];refine aS (aR ?_);refine nc zl (nc zt (nc zl (nc zR (nc zR (nc zP (nc ze ?_))))));exact aT (And.intro (.inr rfl) rfl)
 ·have g:decide (k=1)=false:=decide_eq_false h1;have e:decide (k=1\/k=2)=decide (k=2):=by simp [h1]
  rw [e];refine aS (aR ?_);refine nc zl (nc zt (nc zl (nc (zl (p:=gb)) (nc (zt (r:=gb)) (nc zS (nc ze ?_))))));exact aT (And.intro (.inr rfl) rfl)
theorem b7V {c:List Lt} (hl:c.length<=100000) (h:∀ l∈c,(l.a.rng/\l.a.ok)/\l.b.rng/\l.b.ok):(⟨0,A4 c⟩:Tm).rng/\(⟨0,A4 c⟩:Tm).ok:=by
 have hm:∀ s∈A4 c,s.rng/\s.ok:=fun s hs=>by
  obtain ⟨l,hl,e⟩:=a4L.1 hs;rcases e with rfl | rfl
  ·exact (h l hl).1
  ·exact (h l hl).2
 have hlen:=a1m c;exact ⟨(Tm.rng_iff _).2 ⟨by show _<=(0:Int)/\(0:Int)<=_;omega,fun s hs=>(hm s hs).1⟩,(Tm.ok_iff _).2 ⟨by show (A4 c).length<=_;omega,fun s hs=>(hm s hs).2⟩⟩
theorem a7H {c:List Lt} (h:∀ l∈c,l.ten):∀ l∈c,(l.a.rng/\l.a.ok)/\l.b.rng/\l.b.ok:=fun l hl=>⟨(h l hl).1.1,(h l hl).2.1⟩
theorem a0r (W:World) {a b:Tm} (ha:a.ten) (hb:b.ten) (c:List Lt) (hl:c.length<=100000) (hc:∀ l∈c,(l.a.rng/\l.a.ok)/\l.b.rng/\l.b.ok):AFun Tryz.prog W 28 [.lst ((mgT a b).1.map Bd.cv),.lst (c.map Lt.cv)] (.val (.lst ((c.map (Lt.rep (mgS a b))).map Lt.cv))):=by
 have hT:=T8 ha hb;obtain ⟨h1,h2⟩:=b7V hl hc;exact b0C W (mgT a b).1 c (by omega) (by have:=hT.len;omega) hT.bdsOk h1 h2
theorem a4e (W:World) {a b:Tm} (ha:a.ten) (hb:b.ten):AFun Tryz.prog W 27 [a.cw,b.cw] (.tup [.lst ((mgT a b).1.map Bd.cv),.b (mgT a b).2]):=
 b0U W a b ha.1.1 ha.1.2 hb.1.1 hb.1.2 (by have:=ha.2;have:=hb.2;omega) _ (T8 ha hb).told
noncomputable def clC (c:List Lt):CV := .lst (c.map Lt.cv)
theorem J1 (L:List (List Lt)):∀ x∈L.map clC,x.size=1:=by
 intro x hx;obtain ⟨c,_,rfl⟩:=List.mem_map.1 hx;rfl
noncomputable abbrev obE (L:List (List Lt)):AS:=[(450001,.obj),(35500100,.sl 300005 0 L.length 1),(300005,.mrow 26 1 (L.map clC))]
noncomputable abbrev b7k:List CV:=[.b false,.row [.i 0,.lst []],.row [.i 0,.lst []]]
theorem b3J {p q:Tm×Tm} {L:List (Tm×Tm)} {rest:List Lt} {k:Nat} (h:L[k]?=some q):a8T p (L.take (k+1)) rest=a8T p (L.take k) rest++(a7k p q rest).toList:=by
 unfold a8T;rw [take_add_one,h,List.filterMap_append];congr 1
theorem b3j {p:Tm×Tm} {L:List (Tm×Tm)} {o:Lt} {rest:List Lt} {k:Nat} (h:L[k]?=some p):a1B (L.take (k+1)) o rest=a1B (L.take k) o rest++a8T p (J6 o) rest:=by
 unfold a1B;rw [take_add_one,h,List.flatMap_append];simp
set_option maxHeartbeats 8000000 in
theorem a6F (W:World) (l o:Lt) (rest:List Lt) (hl:l.ten) (ho:o.ten) (hr:∀ x∈rest,x.ten) (hrl:rest.length<=1000):AFun Tryz.prog W 33 [l.cw,o.cw,.lst (rest.map Lt.cv)] (.val (.lst ((a1B (J6 l) o rest).map clC))):=by
 have hent:a9W Tryz.prog 81:=B8 Tryz.func81 rfl rfl;have hwl:(J6 l).length=2:=rfl;have hwo:(J6 o).length=2:=rfl;refine b5M Tryz.func33 Tryz.ntmps33 rfl rfl rfl rfl ?_;intro w U hW;refine Q6 (aR ?_);refine nc zd (nc zd (nc zd (nc ze ?_)));refine ⟨rfl,?_⟩;refine Q6 (aR ?_);refine nc (zbm 350001 (C:=fun v h=>by first | (rw [hW.1] at h;cases h) | (have h2:=hU _ v h;cases h2))) ?_;refine ⟨rfl,?_⟩;refine a6W ((x9 4 rfl rfl rfl (s':=[(3,.bp 3 0 []),(100003,.bx l.cw),(5,.bp 5 0 []),(100005,.bx (.lst (rest.map Lt.cv))),(7,.bp 350001 0 []),(450001,.obj),(35500100,⟨0,.lst [],1,0,[]⟩)]) ⟨rfl,rfl,rfl,rfl,rfl,rfl,rfl,trivial⟩ rfl rfl rfl).trans ((x9 5 rfl rfl rfl (s':=[(3,.bp 3 0 []),(100003,.bx l.cw),(4,.val (.ptr o.cw)),(7,.bp 350001 0 []),(450001,.obj),(35500100,⟨0,.lst [],1,0,[]⟩)]) ⟨rfl,rfl,rfl,rfl,rfl,rfl,trivial⟩ rfl rfl rfl).trans (b8c 35500100 300005 26 1 rfl rfl rfl rfl rfl rfl))) ?_;refine a5I (Q6 (aR ?_));refine nc zy (nc (zw (z:=a5x w l)) ?_);refine ⟨rfl,?_⟩;refine a3t ?_;refine a6W (a7 (s':=(16,AV.val (.fn 81 0 [.ptr l.cw]))::(4,.val (.ptr o.cw))::(5,.val (.ptr (.lst (rest.map Lt.cv))))::(7,.bp 350001 0 [])::obE []) ⟨rfl,rfl,rfl,rfl,rfl,rfl,rfl,trivial⟩) ?_;refine a5D (a8n (α:=Tm×Tm) (encC:=c1W) (xs:=J6 l) (ps:=[17,18]) (fun k=>obE (a1B ((J6 l).take k) o rest)) [(4,.val (.ptr o.cw)),(5,.val (.ptr (.lst (rest.map Lt.cv)))),(7,.bp 350001 0 [])] rfl hent (a3k l) rfl ⟨rfl,rfl,rfl,trivial⟩ rfl ⟨rfl,rfl,rfl,trivial⟩ (fun k=>by kernel_rfl) (fun k=>by kernel_rfl) (fun k=>rfl) rfl (by kernel_rfl) (by kernel_rfl) ?_) ?_
 ·intro k p hp w U hU;have hpt:=a3W hl p (mem_of_getElem? hp);obtain ⟨L0,hL0⟩:∃ L0,L0=a1B ((J6 l).take k) o rest:=⟨_,rfl⟩
  have hL0l:L0.length<=4:=by
   have:=a1d ((J6 l).take k) o rest;rw [hL0];have h2:((J6 l).take k).length<=2:=by rw [length_take];omega
   omega
  rw [b3j hp,<-hL0];refine AWp.wk (a7 (s':=(17,AV.val p.1.cw)::(18,.val p.2.cw)::(4,.val (.ptr o.cw))::(5,.val (.ptr (.lst (rest.map Lt.cv))))::(7,.bp 350001 0 [])::obE L0) ⟨rfl,rfl,rfl,rfl,rfl,rfl,rfl,rfl,trivial⟩) ?_;refine aS (aR ?_);refine ne zk (nc zo ?_);refine aR ?_;refine ne zk (nc zo ?_);refine ⟨rfl,fun w'=>?_⟩;refine b1P ((x9 8 rfl rfl rfl (s':=(9,AV.bp 9 0 [])::(100009,.bx p.2.cw)::(4,.val (.ptr o.cw))::(5,.val (.ptr (.lst (rest.map Lt.cv))))::(7,.bp 350001 0 [])::obE L0) ⟨rfl,rfl,rfl,rfl,rfl,rfl,rfl,rfl,trivial⟩ rfl rfl (by kernel_rfl)).trans (x9 9 rfl rfl rfl (s':=(8,AV.val (.ptr p.1.cw))::(4,.val (.ptr o.cw))::(5,.val (.ptr (.lst (rest.map Lt.cv))))::(7,.bp 350001 0 [])::obE L0) ⟨rfl,rfl,rfl,rfl,rfl,rfl,rfl,trivial⟩ rfl rfl (by kernel_rfl))) ?_;refine a3n (b5I (aR ?_));refine nc zF (nc (zw (z:=a5x w' o)) ?_);refine ⟨rfl,?_⟩;refine a3n ?_;refine b1P (a7 (s':=(20,AV.val (.fn 81 0 [.ptr o.cw]))::(5,.val (.ptr (.lst (rest.map Lt.cv))))::(7,.bp 350001 0 [])::(8,.val (.ptr p.1.cw))::(9,.val (.ptr p.2.cw))::obE (L0++[])) ⟨rfl,rfl,rfl,rfl,rfl,rfl,by rw [append_nil];rfl,by rw [append_nil];rfl,trivial⟩) ?_;refine b3n (b0H (α:=Tm×Tm) (encC:=c1W) (xs:=J6 o) (ps:=[21,22]) (fun j=>obE (L0++a8T p ((J6 o).take j) rest)) [(5,.val (.ptr (.lst (rest.map Lt.cv)))),(7,.bp 350001 0 []),(8,.val (.ptr p.1.cw)),(9,.val (.ptr p.2.cw))] rfl hent (a3k o) rfl ⟨rfl,rfl,rfl,rfl,trivial⟩ rfl ⟨rfl,rfl,rfl,trivial⟩ (fun k=>by kernel_rfl) (fun k=>by kernel_rfl) (fun k=>rfl) rfl (by kernel_rfl) (by kernel_rfl) ?_) ?_
  ·intro j q hq w U hU;have hqt:=a3W ho q (mem_of_getElem? hq);obtain ⟨L1,hL1⟩:∃ L1,L1=L0++a8T p ((J6 o).take j) rest:=⟨_,rfl⟩
   have hL1l:L1.length<=6:=by
    have:=a8W p ((J6 o).take j) rest;have h2:((J6 o).take j).length<=2:=by rw [length_take];omega
    rw [hL1,length_append];omega
   rw [b3J hq,<-List.append_assoc,<-hL1];refine AWp.wk (a7 (s':=(21,AV.val q.1.cw)::(22,.val q.2.cw)::(5,.val (.ptr (.lst (rest.map Lt.cv))))::(7,.bp 350001 0 [])::(8,.val (.ptr p.1.cw))::(9,.val (.ptr p.2.cw))::obE L1) ⟨rfl,rfl,rfl,rfl,rfl,rfl,rfl,rfl,rfl,trivial⟩) ?_;refine aS (aR ?_);refine ne zk (nc zo ?_);refine aR ?_;refine ne zk (nc zo ?_);refine ⟨rfl,fun w'=>b9o ?_⟩;refine aB (aS (aR ?_));refine nc zF (nc zy (nc (zw (z:=a4e w' hpt.1 hqt.1)) (nc zl (nc zx (nc zx (nc ze (nc ze ?_)))))));have hrp:∀ t:Tm,t.ten->(a8 (mgS p.1 q.1) t).rng/\(a8 (mgS p.1 q.1) t).ok/\(a8 (mgS p.1 q.1) t).size<=29550:=fun t ht=>b1J hpt.1 hqt.1 ht;obtain ⟨ok,hok⟩:∃ ok,ok=(mgT p.1 q.1).2:=⟨_,rfl⟩
   obtain ⟨ld,hld⟩:∃ ld,ld=a1i (a8 (mgS p.1 q.1) p.1) (a8 (mgS p.1 q.1) p.2):=⟨_,rfl⟩
   have hfc:a7k p q rest=if ok=true/\ld=true then some ((rest++[(⟨true,p.2,q.2⟩:Lt)]).map (Lt.rep (mgS p.1 q.1))) else none:=by unfold a7k;rw [hok,hld]
   have hlc:=b1c w' (Lt.rep (mgS p.1 q.1) ⟨false,p.1,p.2⟩) (hrp _ hpt.1) (hrp _ hpt.2);have hlc:AFun Tryz.prog w' 56 [(Lt.rep (mgS p.1 q.1) ⟨false,p.1,p.2⟩).cw] (.val (.b ld)):=by rw [hld];exact hlc
   have hA1:=a0r w' hpt.1 hqt.1 [⟨false,p.1,p.2⟩] (by simp) (fun l hl=>by rw [List.mem_singleton] at hl;subst hl;exact ⟨hpt.1.1,hpt.2.1⟩);refine AWp.wk (a7 (s':=(12,AV.val (.lst ((mgT p.1 q.1).1.map Bd.cv)))::(13,.val (.b ok))::(11,.bp 11 0 [])::(100011,.bx q.2.cw)::(5,.val (.ptr (.lst (rest.map Lt.cv))))::(7,.bp 350001 0 [])::(8,.val (.ptr p.1.cw))::(9,.val (.ptr p.2.cw))::obE L1) ⟨rfl,by rw [hok];rfl,rfl,rfl,rfl,rfl,rfl,rfl,rfl,rfl,rfl,trivial⟩) ?_;cases ok with
   | false =>
    have hn:a7k p q rest=none:=by rw [hfc,if_neg (by rintro ⟨h,_⟩;cases h)]
    rw [hn];refine aS (aS (aR ?_));refine nc zl (nc z0 (nc zl (nc zR (nc zR (nc zR (nc zR (nc zR (nc zR (nc zR (nc zR (nc zR (nc zR (nc zP ?_)))))))))))));refine aC rfl (fun _=>?_) (fun h=>by cases h);refine aE ?_;refine ⟨rfl,a7 ⟨rfl,?_,?_,trivial⟩⟩
    ·show some (AV.sl _ _ _ _)=some (AV.sl _ _ _ _);simp
    ·show some (AV.mrow _ _ _)=some (AV.mrow _ _ _);simp
   | true =>
    refine aS (aS (aR ?_));refine nc zl (nc z0 (nc zl (nc (zl (p:=gb)) (nc (zF (r:=gb)) (nc (zF (r:=gb)) (nc (zbO b7k (u:=gb)) (nc (zD (p:=gb)) (nc (zw (p:=gb) (z:=hA1)) (nc (zq (j:=0) (r:=gb) (H:=rfl) (hz:=Lt.size_all _)) (nc (zr (r:=gb)) (nc (zw (p:=gb) (z:=hlc)) (nc (z0 (r:=gb)) (nc zS ?_)))))))))))));cases ld with
    | false =>
     have hn:a7k p q rest=none:=by rw [hfc,if_neg (by rintro ⟨_,h⟩;cases h)]
     rw [hn];refine aC rfl (fun _=>?_) (fun h=>by cases h);refine aE ?_;refine ⟨rfl,a7 ⟨rfl,?_,?_,trivial⟩⟩
     ·show some (AV.sl _ _ _ _)=some (AV.sl _ _ _ _);simp
     ·show some (AV.mrow _ _ _)=some (AV.mrow _ _ _);simp
    | true =>
     have hy:a7k p q rest=some ((rest++[(⟨true,p.2,q.2⟩:Lt)]).map (Lt.rep (mgS p.1 q.1))):=by rw [hfc,if_pos ⟨rfl,rfl⟩]
     rw [hy];have hc2:=a2k w' rest [⟨true,p.2,q.2⟩] (by simp;omega);have hA2:=a0r w' hpt.1 hqt.1 (rest++[⟨true,p.2,q.2⟩]) (by simp;omega) (fun l hl=>by
      rcases mem_append.1 hl with h | h
      ·exact a7H hr l h
      ·rw [List.mem_singleton] at h;subst h;exact ⟨hpt.2.1,hqt.2.1⟩)
     have hszc:=J1 L1;have hL1m:(L1.map clC).length=L1.length:=length_map ..;refine aC rfl (fun h=>by cases h) (fun _=>aK ?_);refine aS (aR ?_);refine nc zF (nc zy (nc (zbO b7k) (ne (zbP b7k) (nc zo ?_))));refine aD (by kernel_rfl) (by kernel_rfl) ?_;refine nc z9 (nc zl (nc zF (nc zy (nc zD (nc zD (nc (zw (z:=hc2)) (nc (zw (z:=hA2)) (nc zD (ne (zbc 300006) (nc zbd ?_))))))))));refine ⟨by kernel_rfl,?_⟩;refine ⟨rfl,(a7 (s':=[(450001,.obj),(35500100,.sl 300006 0 (L1++[(rest++[(⟨true,p.2,q.2⟩:Lt)]).map (Lt.rep (mgS p.1 q.1))]).length 1),(300006,.mrow 26 1 ((L1++[(rest++[(⟨true,p.2,q.2⟩:Lt)]).map (Lt.rep (mgS p.1 q.1))]).map clC))]) ⟨rfl,?_,?_,trivial⟩).trans (A3 300006 300005 rfl rfl (by kernel_rfl) (by kernel_rfl))⟩
     ·show some (AV.sl _ _ _ _)=some (AV.sl _ _ _ _);rw [length_append,<-hL1m];rfl
     ·show some (AV.mrow _ _ _)=some (AV.mrow _ _ _);rw [map_append (f:=clC)];rfl
  ·rintro e s' ⟨rfl,m,rfl⟩;rw [take_length];refine ⟨rfl,rfl,rfl,?_⟩;exact a7 ⟨rfl,rfl,rfl,trivial⟩
 ·rintro e s' g ⟨rfl,rfl⟩;rw [take_length];refine ⟨rfl,rfl,?_⟩;refine aS (aR ?_);refine nc z9 (nc ze ?_);obtain ⟨R,hR⟩:∃ R,R=a1B (J6 l) o rest:=⟨_,rfl⟩
  rw [<-hR];refine aT ⟨⟨.inr rfl,[(6,AV.val (.lst (((R.map clC).drop 0).take R.length)))],?_,?_,trivial,rfl⟩,rfl⟩
  ·exact (a8g 6 300005 (e:=26) (z:=1) (lo:=0) (len:=R.length) (l:=R.map clC) rfl rfl rfl (.inl hW.2) (by simp) (s':=[(299999,.ob g 0)]) ⟨rfl,trivial⟩ rfl).trans (a7 ⟨rfl,rfl,trivial⟩)
  ·rw [List.drop_zero,List.take_of_length_le (by simp)];rfl
def htK (h:Option Nat) (k:Nat):Bool:=match h with | some i=>decide (i<k) | none=>false
def usK (h:Option Nat) (u:List Bool) (k:Nat):List Bool:=match h with | some i=>if i<k then u.set i true else u | none=>u
noncomputable def c3y (X:List Tm) (y:Tm):Bool:=X.any fun x=>decide (kb x y=1)
theorem b9d (l:Lt):0<wtL l:=by have:=l.a.size_pos;unfold wtL;omega
noncomputable def orD (l:Lt):List (Tm×Tm):=(if kb l.a l.b>0 then [(l.a,l.b)] else [])++(if kb l.a l.b = -1\/kb l.a l.b=2 then [(l.b,l.a)] else [])
noncomputable def prL (p:Tm×Tm):CV := .lst [p.1.cw,p.2.cw]
theorem b7q {x:List Int} {k:Nat} {z:Int} (h:x[k]?=some z):(x.map CV.i)[k]?=some (.i z):=by rw [List.getElem?_map,h];rfl
def al1:Lt:=⟨false,⟨1,[]⟩,⟨0,[]⟩⟩
def al2:Lt:=⟨true,⟨2,[]⟩,⟨0,[]⟩⟩
theorem a7b (c:List Lt):(I2 c).length<=c.length+1:=by
 unfold I2;split
 ·simp
 ·have:=a7m c c.length;omega
end Go.Proofs.YtglmoficcjphaaaGreat
