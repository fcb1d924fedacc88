/-
 RwLive RwSml RwAll0 RwAlV RwAllN RwCln RwCln2 RwOnc RwOncM SbQ AbBackB SbImg SbApM ClSides ClWith SrtGen ClNmM SbVnt2 ClNmN
-/
import Derived.Test.YtekboofbedakcaaGreatMg7
import Derived.Test.YtekboofbedakcaaGreatMg6
import Derived.Test.YtekboofbedakcaaGreatMg3
import Derived.Test.YtekboofbedakcaaGreatMg4
import Derived.Test.YtekboofbedakcaaGreatMg2
import Derived.Test.YtekboofbedakcaaGreatMg5
namespace Go.Proofs.YtekboofbedakcaaGreat
open Go.RowKit
set_option linter.unusedVariables false
set_option linter.unusedSimpArgs false
set_option maxRecDepth 100000
noncomputable abbrev b6x:List CV:=[.b false,.row [.i 0,.lst []],.row [.i 0,.lst []]]
abbrev lvX:Tm:=⟨-1,[]⟩
abbrev lvA:Tm:=⟨1,[]⟩
abbrev X6 (t:Tm):Tm:=⟨3,[t]⟩
theorem a2a {t:Tm} (h:t.rng):(X6 t).rng:=(Tm.rng_iff _).2 ⟨⟨by show (-9223372036854775808:Int)≤3;decide,by show (3:Int)≤_;decide⟩,fun s hs=>by
 have:s=t:=by simpa using hs
 rw [this];exact h⟩
theorem b6H {t:Tm} (h:t.ok):(X6 t).ok:=(Tm.ok_iff _).2 ⟨by show 1≤_;decide,fun s hs=>by
 have:s=t:=by simpa using hs
 rw [this];exact h⟩
theorem a0H (t:Tm):(X6 t).size=1+t.size:=by
 rw [Tm.size_sym (by show ¬ (3:Int)<0;decide)]
 simp only [List.map_cons,List.map_nil,List.sum_cons,List.sum_nil,Nat.add_zero]
theorem a0s {t:Tm} (h:t.strip=t):(X6 t).strip=X6 t:=by
 rw [N0 (by show ¬ (3:Int)<0;decide)]
 show Tm.mk 3 [t.strip]=_
 rw [h]
theorem b6G:(X6 lvX).vs=[0]:=by
 rw [Tm.vs_sym (t:=X6 lvX) (by decide)]
 show [lvX].flatMap Tm.vs=_
 rw [List.flatMap_cons,Tm.vs_var (t:=lvX) (by decide)]
 rfl
theorem a4I:lvX.strip=lvX:=by rw [Tm.strip_eq];rfl
theorem a4C:lvA.strip=lvA:=by rw [Tm.strip_eq];rfl
theorem a9j:kb (X6 lvX) lvX=1:=by
 refine b7c (fun v=>?_) (by rw [a0H];omega)
 rw [Tm.vs_sym (t:=X6 lvX) (by decide)]
 simp only [List.flatMap_cons,List.flatMap_nil,List.append_nil]
 omega
theorem b8i:ofR 7 [⟨false,lvX,X6 lvX⟩]=some ⟨7,X6 lvX,lvX⟩:=by
 rw [a0T,if_neg (by rw [b5B a9j];decide),if_pos a9j,a0s a4I,a4I]
theorem b4E:mt (X6 lvX) (X6 (X6 lvA)) []=(true,[⟨0,X6 lvA⟩]):=by
 rw [Q7 (p:=X6 lvX) (t:=X6 (X6 lvA)) [] (by decide) rfl rfl]
 show mts [lvX] [X6 lvA] []=_
 rw [A6,Q0 _ _ (by decide)]
 rfl
theorem b7y:trm [⟨7,X6 lvX,lvX⟩] (X6 (X6 lvA))=some (X6 lvA,7):=by
 have hh:l7 [⟨7,X6 lvX,lvX⟩] (X6 (X6 lvA))=true:=by unfold l7;simp [b4E]
 have h1:o6 (l7 [⟨7,X6 lvX,lvX⟩]) (X6 (X6 lvA))=some []:=by rw [D8,if_neg (by decide),if_pos hh]
 have h2:atN (X6 (X6 lvA)) []=some (X6 (X6 lvA)):=by unfold atN;rfl
 rw [a0w h1 h2 (r:=⟨7,X6 lvX,lvX⟩) (by simp [b4E]),b6n]
 have h3:usR ⟨7,X6 lvX,lvX⟩ (X6 (X6 lvA))=X6 lvA:=by
  unfold usR
  show o5 (t9 (mt (X6 lvX) (X6 (X6 lvA)) []).2) lvX=_
  rw [b4E,p8 (by decide)]
  show (X6 lvA).strip=_
  exact a0s a4C
 rw [h3]
theorem a5D (W:World) (t:CV) (f:Int) (l:List CV) (ht:t = .row [.i f,.lst l]):AFun Tryz.prog W 17 [t] (.val (.row [.i 3,.lst [t]])):=by
 subst ht
 refine a8 (rs:=[.row [.i 3,.lst [.row [.i f,.lst l]]]]) Tryz.func17 Tryz.ntmps17 rfl rfl rfl rfl ?_
 intro w U hW
 refine aS (aR ?_)
 refine nc zb (nc zw ?_)
 refine aS (aR ?_)
 refine nc zE (nc zI (nc zx (nc zy ?_)))
 exact aT (And.intro (.inr rfl) rfl)
theorem a6x (W:World):AFun Tryz.prog W 4 [] (.val (.b true)):=by
 refine a8 (rs:=[.b true]) Tryz.func4 Tryz.ntmps4 rfl rfl rfl rfl ?_
 intro w U hW
 have hA:lvA.rng∧lvA.ok∧lvA.size=1:=⟨a7O (by decide) (by decide),a9R _,a4x _⟩
 have hX:lvX.rng∧lvX.ok∧lvX.size=1:=⟨a7O (by decide) (by decide),a9R _,a4x _⟩
 have k1:∀ w,K7 Tryz.prog w (.sc (.func (.func 17) #[] #[])) [.row [.i (-1),.lst []]] (.val (.row [.i 3,.lst [.row [.i (-1),.lst []]]])):=fun w => .inr ⟨_,rfl,a5D w _ _ _ rfl⟩
 have k2:∀ w,K7 Tryz.prog w (.sc (.func (.func 17) #[] #[])) [.row [.i 1,.lst []]] (.val (.row [.i 3,.lst [.row [.i 1,.lst []]]])):=fun w => .inr ⟨_,rfl,a5D w _ _ _ rfl⟩
 have k3:∀ w,K7 Tryz.prog w (.sc (.func (.func 17) #[] #[])) [.row [.i 3,.lst [.row [.i 1,.lst []]]]] (.val (.row [.i 3,.lst [.row [.i 3,.lst [.row [.i 1,.lst []]]]]])):=fun w => .inr ⟨_,rfl,a5D w _ _ _ rfl⟩
 have hO:=b0l w 7 [⟨false,lvX,X6 lvX⟩] (fun l hl=>by
  have:l=⟨false,lvX,X6 lvX⟩:=by simpa using hl
  subst this
  exact ⟨⟨hX.1,hX.2.1,by show lvX.size≤_;omega⟩,a2a hX.1,b6H hX.2.1,by show (X6 lvX).size≤_;rw [a0H];omega⟩)
 rw [b8i] at hO
 have hT:=U1 w [⟨7,X6 lvX,lvX⟩] (fun r hr=>by
  have:r=⟨7,X6 lvX,lvX⟩:=by simpa using hr
  subst this
  exact ⟨a2a hX.1,b6H hX.2.1,by rw [b6G];decide,by show (X6 lvX).size≤_;rw [a0H];omega,hX.1,hX.2.1,by show lvX.size≤_;omega,by rw [b6G];rw [Tm.vs_var (t:=lvX) (by decide)];decide,a9j⟩) (by decide) (X6 (X6 lvA)) (a2a (a2a hA.1)) (by rw [a0H,a0H];omega)
 rw [a0s (a0s a4C),b7y] at hT
 have hS:=a7w w (a2a hA.1) (a2a hA.1)
 rw [(x7 _ _).2 rfl] at hS
 have eF:∀ t:Tm,(X6 t).cw = .row [.i 3,.lst [t.cw]]:=fun t=>by show CV.row [.i 3,.lst ([t].map Tm.cv)]=_;simp [Tm.cv_eq]
 have eX:lvX.cw = .row [.i (-1),.lst []]:=rfl
 have eA:lvA.cw = .row [.i 1,.lst []]:=rfl
 have eL:([⟨false,lvX,X6 lvX⟩]:List Lt).map Lt.cv=[.row [.b false,.row [.i (-1),.lst []],.row [.i 3,.lst [.row [.i (-1),.lst []]]]]]:=by simp [Lt.cv,Tm.cv_eq]
 have eR:([⟨7,X6 lvX,lvX⟩]:List RuT).map RuT.cv=[.row [.i 7,.row [.i 3,.lst [.row [.i (-1),.lst []]]],.row [.i (-1),.lst []]]]:=by simp [RuT.cv,Tm.cv_eq]
 rw [eL] at hO
 have hO:AFun Tryz.prog w 18 [.i 7,.lst [.row [.b false,.row [.i (-1),.lst []],.row [.i 3,.lst [.row [.i (-1),.lst []]]]]]] (.tup [.row [.i 7,.row [.i 3,.lst [.row [.i (-1),.lst []]]],.row [.i (-1),.lst []]],.b true]):=by
  have e:ruE (some ⟨7,X6 lvX,lvX⟩) = .tup [.row [.i 7,(X6 lvX).cw,lvX.cw],.b true]:=rfl
  rw [e,eF,eX] at hO
  exact hO
 have hT:AFun Tryz.prog w 10 [.lst ([⟨7,X6 lvX,lvX⟩].map RuT.cv),(X6 (X6 lvA)).cw] (.tup [(X6 lvA).cw,.i 7,.b true]):=hT
 rw [eR,eF (X6 lvA),eF lvA,eA] at hT
 rw [eF,eA] at hS
 refine aS (aR ?_)
 refine nc zd ?_
 refine aS (aR ?_)
 refine nc zd ?_
 refine aS (aR ?_)
 refine nc (zbw [.i 0,.lst []]) (nc zj (nc (zbw [.i 0,.lst []]) (nc (zX (E:=k1 w)) (nc (zbw b6x) (nc zI (nc (zn (z:=hO)) (nc zj (nc zD (nc zD (nc zw (nc zy (nc zd ?_))))))))))))
 refine aS (aD (by kernel_rfl) (by kernel_rfl) ?_)
 refine nc zE (nc zI (nc zj (nc zj (nc (zbw [.i 0,.lst []]) (nc (zX (E:=k2 w)) (nc (zX (E:=k3 w)) (nc (zn (z:=hT)) (nc zj (nc zD (nc zD (nc zD (nc zw (nc zy (nc zd (nc zd ?_)))))))))))))))
 refine ⟨by kernel_rfl,?_⟩
 refine aS (aD (by kernel_rfl) (by kernel_rfl) ?_)
 refine nc zj (nc zj (nc (zj (p:=gc)) (nc zO (nc zj (nc (zj (p:=gc)) (nc (zC (r:=gc)) (nc zO (nc zj (nc (zE (p:=gc)) (nc (zj (p:=gc)) (nc (zbw [.i 0,.lst []] (u:=gc)) (nc (zX (t:=gc) (E:=k2 w)) (nc (zn (p:=gc) (z:=hS)) (nc zO (nc zd ?_)))))))))))))))
 refine ⟨by kernel_rfl,?_⟩
 exact aT (And.intro (.inr rfl) rfl)
theorem b1H (p t:Tm):(mt p t.strip []).1=(mt p t []).1:=by
 rw [Bool.eq_iff_iff]
 constructor
 ·intro h
  have:=a9c h
  rw [Tm.strip_strip] at this
  exact a5G this
 ·intro h
  exact a5G (by rw [Tm.strip_strip];exact a9c h)
theorem a8R (R:List RuT) (t:Tm):l7 R t.strip=l7 R t:=by
 unfold l7
 congr 1
 funext r
 exact b1H r.a t
theorem P0 (R:List RuT) (t:Tm):o6 (l7 R) t.strip=o6 (l7 R) t:=by
 induction t using Tm.ind with
 | h f l ih =>
  rw [D8,D8,a8R]
  by_cases hf:(Tm.mk f l).f<0
  ·rw [if_pos hf,if_pos (by rw [Tm.strip_eq];exact hf)]
  ·rw [if_neg hf,if_neg (by rw [Tm.strip_eq];exact hf),N0 hf]
   by_cases hh:l7 R ⟨f,l⟩=true
   ·rw [if_pos hh,if_pos hh]
   ·rw [if_neg hh,if_neg hh]
    show a3b 0 ((l.map Tm.strip).map (o6 (l7 R)))=_
    rw [List.map_map]
    congr 1
    exact List.map_congr_left fun s hs=>ih s hs
theorem b1q (t:Tm):t.vs.length≤t.size:=by
 unfold Tm.vs Tm.size vsL
 rw [List.length_map]
 exact List.length_filter_le _ _
theorem b8h {L:List (List Lt)} {m:Nat} (h:N3 L m=true):L.length≤m∧(∀ c∈L,c.length≤1000∧∀ l∈c,l.ok17)∧∀ r∈rsK L L.length,b2i r∧r.a.size≤8∧1≤r.id∧r.id≤L.length:=by
 unfold N3 at h
 rw [Bool.and_eq_true,decide_eq_true_eq,List.all_eq_true] at h
 refine ⟨h.2,fun c hc=>?_,fun r hr=>?_⟩
 ·obtain ⟨h1,h2⟩:=a1H (by decide) (by decide) (h.1 c hc)
  refine ⟨by omega,fun l hl=>?_⟩
  obtain ⟨⟨⟨_,a1,a2⟩,_,a3⟩,⟨_,b1,b2⟩,_,b3⟩:=h2 l hl
  exact ⟨⟨a1,a2,by omega⟩,b1,b2,by omega⟩
 ·obtain ⟨i,hi,hr⟩:=List.mem_filterMap.1 hr
  have hi:=List.mem_range.1 hi
  have e:L[i]?=some L[i]:=List.getElem?_eq_getElem hi
  rw [e,Option.bind_some] at hr
  obtain ⟨h1,h2⟩:=a1H (by decide) (by decide) (h.1 _ (List.getElem_mem hi))
  rcases b0e ((i:Int)+1) L[i] with ⟨e1,_⟩ | ⟨r',s,e1,_,e3,e4,e5,e6,l,e7,e8⟩
  ·rw [e1] at hr;cases hr
  ·rw [e1] at hr
   cases hr
   obtain ⟨⟨⟨_,a1,a2⟩,_,a3⟩,⟨_,b1,b2⟩,_,b3⟩:=h2 l (by rw [e7];simp)
   have hs:(s.a.rng∧s.a.ok∧s.a.size≤8)∧s.b.rng∧s.b.ok∧s.b.size≤8:=by
    rcases e8 with ⟨q1,q2⟩ | ⟨q1,q2⟩<;>rw [q1,q2]
    ·exact ⟨⟨a1,a2,by omega⟩,b1,b2,by omega⟩
    ·exact ⟨⟨b1,b2,by omega⟩,a1,a2,by omega⟩
   have hk:kb r.a r.b=1:=by rw [e4,e5,b2L];exact e6
   have hz:r.a.size≤8:=by rw [e4,Tm.strip_size];exact hs.1.2.2
   have hv:=b1q r.a
   refine ⟨⟨by rw [e4];exact D4 _ hs.1.1,by rw [e4];exact F5 _ hs.1.2.1,by omega,by omega,by rw [e5];exact D4 _ hs.2.1,by rw [e5];exact F5 _ hs.2.2.1,by rw [e5,Tm.strip_size];have:=hs.2.2.2;omega,fun v hv=>?_,hk⟩,hz,by omega,by omega⟩
   have:=((a6e _ _).1 hk).1 v
   have h3:=List.count_pos_iff.2 hv
   exact List.count_pos_iff.1 (by omega)
theorem a7Y (W:World) (v:Value) (hv:v.oneCell'=true):AFun Tryz.prog W 39 [.sc v] (.val (.fn 70 0 [.ptr (.sc v)])):=by
 refine a8 (rs:=[.fn 70 0 [.ptr (.sc v)]]) Tryz.func39 Tryz.ntmps39 rfl rfl rfl rfl ?_
 intro w U hW
 refine aS (aR ?_)
 refine nc zb (nc zd ?_)
 refine AWp.wk (E0 1 rfl rfl rfl (s':=[]) trivial rfl rfl rfl) ?_
 refine aS (aR ?_)
 refine nc zG (nc zd ?_)
 exact aT ⟨.inr rfl,rfl⟩
def SQ (P:Program) (l g off n:Nat) (U:Nat→Nat→Prop) (w:World):Prop:=∀ i,i<n→YT P w l [v8 g (off+i*5+1)]∧YT P w l [v8 g (off+i*5+3)]
theorem b2K (l g off n cap:Nat) (ao:Option Addr) (ha:0<n→ao=some ⟨g,off,none⟩) (hn:n≤1000000):Y7 Tryz.prog (SQ Tryz.prog l g off n) 70 [L8 l,.ptr (.sc (.slice ao n cap))] (A4 []):=by
 refine N8 (rs:=[]) Tryz.func70 Tryz.ntmps70 rfl rfl rfl rfl ?_
 intro w U hW hq
 refine aS (aR ?_)
 refine nc zY (nc zbx (nc zj ?_))
 refine aB (b9 n (fun k=>[(0,.val (L8 l)),(1,.val (.ptr (.sc (.slice ao n cap)))),(5,.val (.i n)),(6,.val (.i k))]) (a7 ⟨rfl,rfl,rfl,rfl,trivial⟩) ?_)
 intro k hk
 refine aS (aR ?_)
 refine nc zh ?_
 refine aS (aC rfl (fun hlt=>aK ?_) (fun hlt=>aE ?_))
 ·have hkl:k<n:=by simpa using hlt
  obtain ⟨hA,hB⟩:=hq k hkl
  have ha2:=ha (by omega)
  refine aS (aB (aS (aR ?_)))
  refine nc zj (nc zd ?_)
  refine aS (K5 ?_)
  (refine J3 (AOp.y (aM (gN rfl) rfl rfl rfl rfl rfl)) rfl ?_)
  (refine J3 (AOp.y (s5 (gN rfl) rfl rfl rfl rfl rfl rfl rfl rfl rfl)) rfl ?_)
  (refine J3 (AOp.y (aM (gN rfl) rfl rfl rfl rfl rfl)) rfl ?_)
  (refine J3 (AOp.y (E7 (k) (gN rfl) rfl rfl rfl rfl rfl rfl rfl rfl (ha2) (by first | rfl | omega | (simp only [List.length_set,List.length_map,List.length_append,List.length_cons,List.length_nil]<;>omega) | (simp<;>omega)) (by first | rfl | omega | (simp only [List.length_set,List.length_map,List.length_append,List.length_cons,List.length_nil]<;>omega) | (simp<;>omega)))) rfl ?_)
  (refine J3 (AOp.y (E6 (gN rfl) rfl rfl rfl rfl rfl rfl rfl rfl rfl)) rfl ?_)
  (refine J3 (J8 hW (hA) (gN rfl) rfl rfl rfl rfl rfl rfl) rfl ?_)
  (refine J3 (AOp.y (Q5 (gN rfl) rfl rfl rfl rfl rfl)) rfl ?_)
  (refine J3 (AOp.y (aM (gN rfl) rfl rfl rfl rfl rfl)) rfl ?_)
  (refine J3 (AOp.y (aM gc rfl rfl rfl rfl rfl)) rfl ?_)
  (refine J3 (AOp.y (s5 gc rfl rfl rfl rfl rfl rfl rfl rfl rfl)) rfl ?_)
  (refine J3 (AOp.y (aM gc rfl rfl rfl rfl rfl)) rfl ?_)
  (refine J3 (AOp.y (E7 (k) gc rfl rfl rfl rfl rfl rfl rfl rfl (ha2) (by first | rfl | omega | (simp only [List.length_set,List.length_map,List.length_append,List.length_cons,List.length_nil]<;>omega) | (simp<;>omega)) (by first | rfl | omega | (simp only [List.length_set,List.length_map,List.length_append,List.length_cons,List.length_nil]<;>omega) | (simp<;>omega)))) rfl ?_)
  (refine J3 (AOp.y (E6 gc rfl rfl rfl rfl rfl rfl rfl rfl rfl)) rfl ?_)
  (refine J3 (J8 hW (hB) gc rfl rfl rfl rfl rfl rfl) rfl ?_)
  (refine J3 (AOp.y (Q5 gc rfl rfl rfl rfl rfl)) rfl ?_)
  (refine ⟨_,_,_,AOp.y (aPf (gN rfl) rfl rfl rfl rfl rfl ?hb rfl),rfl,?_⟩;case hb=>(first | rfl | assumption | (simp;done)))
  refine aC rfl (fun hc=>by cases hc) (fun _=>aK ?_)
  refine aR ?_
  refine nc zu (nc zj ?_)
  exact ⟨hkl,a7 ⟨rfl,rfl,rfl,rfl,trivial⟩⟩
 ·exact ⟨.inl rfl,rfl⟩
theorem b3s (R:List RuT) (hR:∀ r∈R,b2i r) (hRl:R.length≤1000000) (x:XT) (b off:Nat) (hsz:∀ p b' o' y,x.adr b off p=some (b',o',y)→0≤y.f→y.tm.rng∧y.tm.size≤90000000000) (hn:o6 (l7 R) x.tm=none):Y7 Tryz.prog (fun U w=>XAt U w b off x) 26 [a8L b off R] (.tup [.i 0,.b false]):=by
 refine ⟨r9 Tryz.func26 rfl rfl,.inr rfl,rfl,?_⟩
 rintro U w vs hx ⟨u,us,rfl,h1,h2⟩
 have h2:us=[]:=h2
 subst h2
 refine (a1n R hR hRl x b off (o6 (l7 R) x.tm).isNone U w hx hsz rfl (fun p hp=>by rw [hn] at hp;cases hp) u h1).mono ?_
 rintro e V ⟨k1,_⟩
 obtain ⟨rfl,hb⟩:=k1 (by rw [hn];rfl)
 exact ⟨_,rfl,⟨[_,_],rfl,_,_,rfl,b5.2 ⟨rfl,rfl⟩,_,_,rfl,b5.2 ⟨rfl,rfl⟩,rfl⟩,hb⟩
section
variable {P:Program} {w0:World} {U0:UX} {nt:Nat} {s:AS}
variable {ops:Array Oper} {o:Oper} {S:Nat→Option AV} {gs:List Nat} {d:Nat}
end
end Go.Proofs.YtekboofbedakcaaGreat
namespace Go.Proofs.YtekboofbedakcaaGreat
open Go.RowKit
set_option linter.unusedVariables false
set_option linter.unusedSimpArgs false
structure LX where
 neg:Bool
 a:XT
 b:XT
def LX.lt (l:LX):Lt:=⟨l.neg,l.a.tm,l.b.tm⟩
def LX.cs (l:LX):List Value:=[.bool l.neg,.int .i64 l.a.f,l.a.h,.int .i64 l.b.f,l.b.h]
def LX.bl (l:LX):List Nat:=l.a.bl++l.b.bl
theorem a2w:∀ l:List LX,(l.flatMap LX.cs).length=l.length*5
 | []=>rfl
 | x::l=>by rw [List.flatMap_cons,List.length_append,a2w l,List.length_cons];show 5+_=_;omega
theorem a9i:∀ {l:List LX} {i:Nat} {y:LX},l[i]?=some y→∀ k,k<5→(l.flatMap LX.cs)[i*5+k]?=y.cs[k]?
 | [],i,y,h,k,hk=>by simp at h
 | x::l,0,y,h,k,hk=>by
  simp only [List.getElem?_cons_zero,Option.some.injEq] at h
  subst h
  rw [List.flatMap_cons,Nat.zero_mul,Nat.zero_add,List.getElem?_append_left (by exact hk)]
 | x::l,i+1,y,h,k,hk=>by
  rw [List.flatMap_cons,List.getElem?_append_right (by show 5≤_;omega),show (i+1)*5+k-x.cs.length=i*5+k by show _-5=_;omega]
  exact a9i (by simpa using h) k hk
theorem b6e (l:List LX):∀ u∈l.flatMap LX.cs,u.oneCell'=true:=by
 intro u hu
 obtain ⟨x,_,hx⟩:=List.mem_flatMap.1 hu
 simp only [LX.cs,List.mem_cons,List.not_mem_nil,or_false] at hx
 rcases hx with rfl | rfl | rfl | rfl | rfl<;>rfl
def XRl (n:Nat) (w:World) (l:LX):Prop:=XR (fun b _=>n≤b) w l.a∧XR (fun b _=>n≤b) w l.b
def OwnL (e:TypeId) (w:World) (base:Nat) (v:Value) (xs:List LX):Prop:=w.ownsRow base e 5 v xs.length (xs.flatMap LX.cs)∧(∀ x∈xs,XRl base w x)∧(xs.flatMap LX.bl).Nodup∧∀ b∈xs.flatMap LX.bl,v.ownBlock≠some b∧Fz w b
theorem OwnL.nil (e:TypeId) (w:World) (base:Nat):OwnL e w base (.slice none 0 0) []:=⟨World.ownsRow_nil _ _ _ _,(fun x hx=>by cases hx),List.nodup_nil,(fun b hb=>by cases hb)⟩
theorem XRl.keepB {n:Nat} {w w':World} {l:LX} (h:XRl n w l) (hk:∀ b o u,b∈l.bl→n≤b→w.cell? ⟨b,o,none⟩=some u→n≤b∧w'.cell? ⟨b,o,none⟩=some u):XRl n w' l:=
 ⟨h.1.keepB fun b o u hb hu hc=>hk b o u (List.mem_append_left _ hb) hu hc,h.2.keepB fun b o u hb hu hc=>hk b o u (List.mem_append_right _ hb) hu hc⟩
theorem XRl.lt {n:Nat} {w:World} {l:LX} (h:XRl n w l) {b:Nat} (hb:b∈l.bl):n≤b∧b<w.heap.size:=by
 rcases List.mem_append.1 hb with hb | hb
 ·obtain ⟨h1,o,h2⟩:=h.1.lt b hb;exact ⟨h2,h1⟩
 ·obtain ⟨h1,o,h2⟩:=h.2.lt b hb;exact ⟨h2,h1⟩
theorem OwnL.bw {e:TypeId} {w w':World} {base:Nat} {v:Value} {xs:List LX} (h:OwnL e w base v xs) (hb:Below w.heap.size w w'):OwnL e w' base v xs:=
 ⟨C5 h.1 hb (Nat.le_refl _),fun x hx=>⟨(h.2.1 x hx).1.bw hb,(h.2.1 x hx).2.bw hb⟩,h.2.2.1,fun b hb2=>⟨(h.2.2.2 b hb2).1,(h.2.2.2 b hb2).2.bw hb⟩⟩
theorem OwnL.lt {e:TypeId} {w:World} {base:Nat} {v:Value} {xs:List LX} (h:OwnL e w base v xs) {g:Nat} (hg:v.ownBlock=some g):base≤g∧g<w.heap.size:=h.1.lt g hg
theorem a2b {n:Nat} {w:World} {xs:List LX} (h:∀ x∈xs,XRl n w x):∀ b∈xs.flatMap LX.bl,n≤b∧b<w.heap.size:=by
 intro b hb
 obtain ⟨x,hx,hbx⟩:=List.mem_flatMap.1 hb
 exact (h x hx).lt hbx
theorem b8C {P:Program} {w:World} {B:Nat} (hB:B≤w.heap.size) (t e:TypeId) (z:Value) (bytes:Nat) (ht:P.underlying t=some (.slice e)) (hi:(P.info? e).map (fun i=>(i.zero,i.size,i.bytes))=some (some z,5,bytes)) (hzs:z.cells.size=5) (hbt:bytes≤1000)
  {v:Value} {xs:List LX} {x:LX} (h:OwnL e w B v xs) (hx:XRl B w x) (hnd:x.bl.Nodup) (hfz:∀ b∈x.bl,Fz w b) (hdis:∀ b∈x.bl,b∉xs.flatMap LX.bl) (hvx:∀ b∈x.bl,v.ownBlock≠some b) (hn:xs.length≤100000000000) :
  ∃ a' c' w',Sem.run P (Builtin.append_ #[t,t] t #[v,.slice (some ⟨w.heap.size,0,none⟩) 1 1]) (w.alloc (.cells x.cs.toArray e)) = .ok (.slice a' (xs.length+1) c') w'∧OwnL e w' B (.slice a' (xs.length+1) c') (xs++[x])∧Below B w w'∧∀ b,b<w.heap.size→v.ownBlock≠some b→w'.heap[b]?=w.heap[b]?:=by
 obtain ⟨h1,h2,h3,h4⟩:=h
 obtain ⟨a',c',w',hr,ho,hb,hk,hv⟩:=a3h (P:=P) hB t e z 5 bytes ht hi hzs (by decide) v xs.length (xs.flatMap LX.cs) x.cs h1 rfl (by simpa using b6e [x]) hn hbt
 have hall:=a2b h2
 have hxl:=fun b (hb:b∈x.bl)=>hx.lt hb
 have hown:∀ b,b<w.heap.size→v.ownBlock≠some b→(Value.slice a' (xs.length+1) c').ownBlock≠some b:=fun b hb hne e=>by
  rcases hv b e with e' | e'
  ·exact hne e'
  ·omega
 refine ⟨a',c',w',hr,⟨?_,fun y hy=>?_,?_,fun b hb=>?_⟩,hb,hk⟩
 ·rw [List.length_append,List.flatMap_append]
  simpa using ho
 ·rw [List.mem_append,List.mem_singleton] at hy
  rcases hy with hy | rfl
  ·exact (h2 y hy).keepB fun b o u hb hu hc=>by
    have hm:b∈xs.flatMap LX.bl:=List.mem_flatMap.2 ⟨y,hy,hb⟩
    exact ⟨hu,by rw [j7 (hk b (hall b hm).2 (h4 b hm).1)];exact hc⟩
  ·exact hx.keepB fun b o u hb hu hc=>⟨hu,by rw [j7 (hk b (hxl b hb).2 (hvx b hb))];exact hc⟩
 ·rw [List.flatMap_append,List.nodup_append]
  refine ⟨h3,by simpa using hnd,?_⟩
  intro b hb b' hb' e
  subst e
  exact hdis b (by simpa using hb') hb
 ·rw [List.flatMap_append,List.mem_append] at hb
  rcases hb with hb | hb
  ·exact ⟨hown b (hall b hb).2 (h4 b hb).1,(h4 b hb).2.same (hk b (hall b hb).2 (h4 b hb).1)⟩
  ·have hb:b∈x.bl:=by simpa using hb
   exact ⟨hown b (hxl b hb).2 (hvx b hb),(hfz b hb).same (hk b (hxl b hb).2 (hvx b hb))⟩
theorem b7z {U:Nat→Nat→Prop} {w:World} {D:List Lt} {v:Value} (h:VRep U w (.lst (D.map Lt.cv)) v) (hr:∀ l∈D,l.a.rng∧l.b.rng):∃ ao cap,v = .slice ao D.length cap∧∃ g off,(0<D.length→ao=some ⟨g,off,none⟩)∧∀ i l,D[i]?=some l→∃ la na ca lb nb cb,Tat (fun _=>True) w l.a la na ca∧Tat (fun _=>True) w l.b lb nb cb ∧
  ∀ k u,[Value.bool l.neg,.int .i64 l.a.f,.slice la na ca,.int .i64 l.b.f,.slice lb nb cb][k]?=some u→w.cell? ⟨g,off+(i*5+k),none⟩=some u:=by
 obtain ⟨ao,n,cap,rfl,h1,h2,h3,h4,ys,h5,h6⟩:=d8.1 h
 rw [List.length_map] at h1
 subst h1
 have hkey:∀ i l,D[i]?=some l→∃ y1 u1 la na ca lb nb cb,Tat (fun _=>True) w l.a la na ca∧Tat (fun _=>True) w l.b lb nb cb∧ys=y1++[Value.bool l.neg,.int .i64 l.a.f,.slice la na ca,.int .i64 l.b.f,.slice lb nb cb]++u1∧y1.length=i*5:=by
  intro i l hl
  obtain ⟨y1,z1,u1,e1,e2,e3⟩:=b4H (Lt.size_all D) h6 (Lt.map_at hl)
  obtain ⟨p1,q1,f1,f2,p2,q2,f3,f4,p3,q3,f5,f6,f7⟩:=s8.1 e3
  have f7:q3=[]:=f7
  subst f7
  obtain ⟨rfl,_⟩:=t7.1 f2
  have hm:=hr l (List.mem_of_getElem? hl)
  obtain ⟨la,na,ca,k1,k2⟩:=k9 hm.1 (v := .agg p2.toArray) ⟨p2,rfl,f4⟩
  obtain ⟨lb,nb,cb,k3,k4⟩:=k9 hm.2 (v := .agg p3.toArray) ⟨p3,rfl,f6⟩
  have k1:p2=[.int .i64 l.a.f,.slice la na ca]:=by injection k1 with k1;simpa using congrArg Array.toList k1
  have k3:p3=[.int .i64 l.b.f,.slice lb nb cb]:=by injection k3 with k3;simpa using congrArg Array.toList k3
  exact ⟨y1,u1,la,na,ca,lb,nb,cb,k2,k4,by rw [e1,f1,f3,f5,k1,k3];simp,e2⟩
 rcases h5 with h5 | ⟨g,off,ha,hc⟩
 ·have hD:D=[]:=by
   cases D with
   | nil=>rfl
   | cons l D =>
    obtain ⟨y1,u1,la,na,ca,lb,nb,cb,_,_,e,_⟩:=hkey 0 l rfl
    rw [h5] at e
    have:=congrArg List.length e
    simp at this
  subst hD
  exact ⟨ao,cap,rfl,0,0,fun h=>by simp at h,fun i l h=>by simp at h⟩
 ·refine ⟨ao,cap,rfl,g,off,fun _=>ha,fun i l hl=>?_⟩
  obtain ⟨y1,u1,la,na,ca,lb,nb,cb,k1,k2,e,e2⟩:=hkey i l hl
  refine ⟨la,na,ca,lb,nb,cb,k1,k2,fun k u hk=>?_⟩
  have hk5:k<5:=by
   rcases Nat.lt_or_ge k 5 with h | h
   ·exact h
   ·rw [List.getElem?_eq_none (by simpa using h)] at hk;cases hk
  have hlt:i*5+k<ys.length:=by
   rw [e]
   simp only [List.length_append,List.length_cons,List.length_nil,e2]
   omega
  rw [(hc _ hlt).2,e,List.append_assoc,List.getElem?_append_right (by omega),e2,Nat.add_sub_cancel_left,List.getElem?_append_left (by simpa using hk5)]
  exact hk
set_option maxRecDepth 100000 in
set_option maxHeartbeats 1600000 in
theorem a8g (D:List Lt) (w:World) (a:Option Addr) (cap g off:Nat) (ha:0<D.length→a=some ⟨g,off,none⟩) (hlt:0<D.length→g<w.heap.size) (hn:D.length≤1000000) (hz:∀ l∈D,l.a.size≤90000000000∧l.b.size≤90000000000)
  (hat:∀ i l,D[i]?=some l→∃ la na ca lb nb cb,Tat (fun _=>True) w l.a la na ca∧Tat (fun _=>True) w l.b lb nb cb∧∀ k u,[Value.bool l.neg,.int .i64 l.a.f,.slice la na ca,.int .i64 l.b.f,.slice lb nb cb][k]?=some u→w.cell? ⟨g,off+(i*5+k),none⟩=some u) :
  Calls Tryz.prog 38 #[.slice a D.length cap] w fun e w'=>∃ ls a c,ls.map LX.lt=D.map Lt.strip∧e = .returned (.slice a ls.length c)∧OwnL 54 w' w.heap.size (.slice a ls.length c) ls∧Below w.heap.size w w':=by
 obtain ⟨n,hnD⟩:∃ n,n=D.length:=⟨_,rfl⟩
 rw [←hnD]
 have HA:Hid (∀ i l w',Below w.heap.size w w'→D[i]?=some l→∃ la na ca lb nb cb,Tat (fun _=>True) w' l.a la na ca∧Tat (fun _=>True) w' l.b lb nb cb∧(w'.cell? ⟨g,off+i*5,none⟩=some (.bool l.neg)∧w'.cell? ⟨g,off+i*5+1,none⟩=some (.int .i64 l.a.f)∧w'.cell? ⟨g,off+i*5+2,none⟩=some (.slice la na ca)∧w'.cell? ⟨g,off+i*5+3,none⟩=some (.int .i64 l.b.f)∧w'.cell? ⟨g,off+i*5+4,none⟩=some (.slice lb nb cb))):=fun i l w' hb hl=>by
  obtain ⟨la,na,ca,lb,nb,cb,h1,h2,h3⟩:=hat i l hl
  have hgl:g<w.heap.size:=hlt (by have:=(List.getElem?_eq_some_iff.1 hl).1;omega)
  have hc:∀ o,w'.cell? ⟨g,o,none⟩=w.cell? ⟨g,o,none⟩:=fun o=>j7 (hb.block g hgl)
  refine ⟨la,na,ca,lb,nb,cb,h1.bw hb,h2.bw hb,?_,?_,?_,?_,?_⟩
  ·rw [hc];exact h3 0 _ rfl
  ·rw [hc];exact h3 1 _ rfl
  ·rw [hc];exact h3 2 _ rfl
  ·rw [hc];exact h3 3 _ rfl
  ·rw [hc];exact h3 4 _ rfl
 have HD:=K3 hnD
 have HAd:=K3 ha
 clear hat ha hlt
 go_enter Tryz.func38,Tryz.ntmps38
 go_wp2
 go_loopw [3,8] (fun vv i wr=>∃ (k:Nat) (av:Option Addr) (cv:Nat) (xs:List LX),vv = .slice av k cv∧i = .int .i64 (k:Int)∧k≤n∧xs.map LX.lt=(D.take k).map Lt.strip∧OwnL 54 wr w.heap.size (.slice av k cv) xs∧Below w.heap.size w wr) (fun _ i _=>n-(intOf i).toNat)
 case atStart=>exact ⟨0,_,_,[],rfl,rfl,by omega,rfl,OwnL.nil _ _ _,bW _⟩
 case round =>
  obtain ⟨k,av,cv,xs,rfl,rfl,hk,hxs,ho,hbr⟩:=hrel
  by_cases hlt:k<n
  ·obtain ⟨l,hl⟩:∃ l,D[k]?=some l:=⟨D[k]'(by rw [←hnD];exact hlt),List.getElem?_eq_getElem _⟩
   have haa:a=some ⟨g,off,none⟩:=HAd.out (by rw [←HD.out];omega)
   subst haa
   obtain ⟨la,na,ca,lb,nb,cb,hTa,hTb,e0,e1,e2,e3,e4⟩:=HA.out k l wr hbr hl
   obtain ⟨w0,hw0⟩:∃ w0,w0=wr.alloc (.cells #[.bool l.neg,.int .i64 l.a.f,.slice la na ca,.int .i64 l.b.f,.slice lb nb cb] 54):=⟨_,rfl⟩
   have hX:w0.heap[wr.heap.size]?=some (.cells #[.bool l.neg,.int .i64 l.a.f,.slice la na ca,.int .i64 l.b.f,.slice lb nb cb] 54 (0,0)):=by rw [hw0];exact World.alloc_heap_new _ _
   have hw0s:w0.heap.size=wr.heap.size+1:=by rw [hw0];simp
   have hb0:Below wr.heap.size wr w0:=by rw [hw0];exact bA (bW _) _
   have HB:Hid (∀ w1:World,w1.heap[wr.heap.size]?=w0.heap[wr.heap.size]?→w1.cell? ⟨wr.heap.size,0,none⟩=some (.bool l.neg)∧w1.cell? ⟨wr.heap.size,1,none⟩=some (.int .i64 l.a.f)∧w1.cell? ⟨wr.heap.size,2,none⟩=some (.slice la na ca)∧w1.cell? ⟨wr.heap.size,3,none⟩=some (.int .i64 l.b.f)∧w1.cell? ⟨wr.heap.size,4,none⟩=some (.slice lb nb cb)):=fun w1 h=>by
    rw [hX] at h
    refine ⟨?_,?_,?_,?_,?_⟩<;>simp [World.cell?,h]
   have hzl:=hz l (List.mem_of_getElem? hl)
   have HCa:Hid (∀ w1,Below w0.heap.size w0 w1→Calls Tryz.prog 25 #[.agg #[.int .i64 l.a.f,.slice la na ca]] w1 (a2d w1 l.a)):=fun w1 hb=>P6 l.a la na ca w1 ((hTa.bw hb0).bw hb) hzl.1
   have HCb:Hid (∀ w1,Below w0.heap.size w0 w1→Calls Tryz.prog 25 #[.agg #[.int .i64 l.b.f,.slice lb nb cb]] w1 (a2d w1 l.b)):=fun w1 hb=>P6 l.b lb nb cb w1 ((hTb.bw hb0).bw hb) hzl.2
   have hoL:=K3 ho
   have HK:Hid (∀ w1,Below w0.heap.size w0 w1→w1.heap[wr.heap.size]?=w0.heap[wr.heap.size]?):=fun w1 hb=>hb.block _ (by omega)
   have HApp:Hid (∀ (w1 w2:World) (x y:XT) a1 n1 c1 a2 n2 c2,Below w0.heap.size w0 w1→x.tm=l.a.strip→x.f=l.a.f→x.h = .slice a1 n1 c1→XR (fun b _=>w0.heap.size≤b) w1 x→x.bl.Nodup→(∀ b∈x.bl,Fz w1 b)→Below w1.heap.size w1 w2→y.tm=l.b.strip→y.f=l.b.f→y.h = .slice a2 n2 c2→XR (fun b _=>w1.heap.size≤b) w2 y→y.bl.Nodup→(∀ b∈y.bl,Fz w2 b) →
     ∃ a' c' w',Sem.run Tryz.prog (Builtin.append_ #[51,51] 51 #[.slice av k cv,.slice (some ⟨w2.heap.size,0,none⟩) 1 1]) (w2.alloc (.cells #[.bool l.neg,.int .i64 l.a.f,.slice a1 n1 c1,.int .i64 l.b.f,.slice a2 n2 c2] 54)) = .ok (.slice a' (k+1) c') w' ∧
      (∃ xs',xs'.map LX.lt=(D.take (k+1)).map Lt.strip∧OwnL 54 w' w.heap.size (.slice a' (k+1) c') xs')∧Below w.heap.size w w'∧w'.heap[wr.heap.size]?=w0.heap[wr.heap.size]?):=by
    intro w1 w2 x y a1 n1 c1 a2 n2 c2 hb1 hxt hxf hxh hxr hxn hxz hb2 hyt hyf hyh hyr hyn hyz
    have hkl:xs.length=k:=by have:=congrArg List.length hxs;simp only [List.length_map,List.length_take] at this;have:=HD.out;omega
    have s1:=hb1.size
    have s2:=hb2.size
    have sr:=hbr.size
    have hb02:Below wr.heap.size wr w2:=(hb0.trans (hb1.mono (by omega))).trans (hb2.mono (by omega))
    have ho2:=ho.bw hb02
    have hall:=a2b ho.2.1
    have hbx:=fun b (hb:b∈x.bl)=>hxr.lt b hb
    have hby:=fun b (hb:b∈y.bl)=>hyr.lt b hb
    have hsplit:∀ b,b∈(LX.mk l.neg x y).bl→wr.heap.size<b:=fun b hb=>by
     rcases List.mem_append.1 hb with hb | hb
     ·obtain ⟨_,_,q⟩:=hbx b hb;omega
     ·obtain ⟨_,_,q⟩:=hby b hb;omega
    obtain ⟨a',c',w',hr,h1,h2,h3⟩:=b8C (P:=Tryz.prog) (B:=w.heap.size) (by omega) 51 54 (.agg #[.bool false,.int .i64 0,.slice none 0 0,.int .i64 0,.slice none 0 0]) 72 Tryz.underlying51 (by kernel_rfl) rfl (by decide) ho2 (x:=⟨l.neg,x,y⟩)
     ⟨hxr.keep fun b o u hu hc=>⟨by omega,by rw [j7 (hb2.block b (World.block_lt_of_cell? w1 _ hc))];exact hc⟩,hyr.keep fun b o u hu hc=>⟨by omega,hc⟩⟩
     (by
      show (x.bl++y.bl).Nodup
      rw [List.nodup_append]
      refine ⟨hxn,hyn,?_⟩
      intro b hb b' hb' e
      subst e
      obtain ⟨q1,_,_⟩:=hbx b hb
      obtain ⟨_,_,q2⟩:=hby b hb'
      omega)
     (fun b hb=>by
      rcases List.mem_append.1 hb with hb | hb
      ·exact (hxz b hb).bw hb2
      ·exact hyz b hb)
     (fun b hb hb2=>by
      have:=hsplit b hb
      have:=(hall b hb2).2
      omega)
     (fun b hb e=>by
      have:=hsplit b hb
      have:=(ho.lt e).2
      omega) (by omega)
    rw [hkl] at hr h1
    refine ⟨a',c',w',?_,⟨xs++[⟨l.neg,x,y⟩],?_,h1⟩,(hbr.trans (hb02.mono sr)).trans h2,?_⟩
    ·rw [←hr]
     unfold LX.cs
     rw [hxf,hxh,hyf,hyh]
    ·rw [List.take_add_one,hl,List.map_append,List.map_append,hxs]
     simp [LX.lt,Lt.strip,hxt,hyt]
    ·rw [h3 _ (by omega) (fun e=>by have:=(ho.lt e).2;omega)]
     exact (hb2.block _ (by omega)).trans (hb1.block _ (by omega))
   have HW:=K3 hw0
   clear ho hTa hTb hb0 hX hw0
   go_wp2
   rw [←HW.out]
   have hq:Below w0.heap.size w0 w0:=bW _
   have hk0:w0.heap[wr.heap.size]?=w0.heap[wr.heap.size]?:=rfl
   go_region_held3 (fun w'=>w'.cell? ⟨wr.heap.size,0,none⟩=some (.bool l.neg)∧w'.cell? ⟨wr.heap.size,1,none⟩=some (.int .i64 l.a.f)∧w'.cell? ⟨wr.heap.size,2,none⟩=some (.slice la na ca)∧w'.cell? ⟨wr.heap.size,3,none⟩=some (.int .i64 l.b.f)∧w'.cell? ⟨wr.heap.size,4,none⟩=some (.slice lb nb cb))
    (first | (refine HB.out _ (HK.out _ ?_);with_reducible exact hq) | (refine HB.out _ (HK.out _ ?_);with_reducible exact bD hq) | (refine HB.out _ (HK.out _ ?_);with_reducible exact bA hq _) | (refine HB.out _ ?_;with_reducible exact hk3))
    (first
     | (go_at_call 25;refine (HCa.out _ (by first | with_reducible exact hq | with_reducible exact bD hq)).mono ?_;rintro e w1 ⟨x1,a1,n1,c1,hxt,hxf,hxh,rfl,hxr,hxn,hxz,hb1⟩;have hq1:=hq;replace hq:=bN (by first | with_reducible exact hq | with_reducible exact bD hq) hb1;dsimp only)
     | (go_at_call 25;refine (HCb.out _ (by first | with_reducible exact hq | with_reducible exact bD hq)).mono ?_;rintro e w2 ⟨y1,a2,n2,c2,hyt,hyf,hyh,rfl,hyr,hyn,hyz,hb2⟩;have hq2:=hq;replace hq:=bN (by first | with_reducible exact hq | with_reducible exact bD hq) hb2;obtain ⟨a3,c3,w3,hr3,ho3,hb3,hk3⟩:=HApp.out w1 w2 x1 y1 a1 n1 c1 a2 n2 c2 hq2 hxt hxf hxh hxr hxn hxz hb2 hyt hyf hyh hyr hyn hyz;dsimp only)
     | (refine a6p _ rfl _ _ _ rfl _ _ rfl rfl _ _ hr3 ?_))
   go_wp2
   go_roundw
   case rel =>
    obtain ⟨xs2,hxs2,ho2⟩:=ho3
    exact ⟨k+1,_,_,xs2,rfl,by go_num,by omega,hxs2,ho2,hb3⟩
   case measure=>simp [intOf];omega
  ·have HE:Hid (D.take k=D):=List.take_of_length_le (by have:=HD.out;omega)
   rw [HE.out] at hxs
   have HK:Hid (k=xs.length):=by show _=_;have:=HD.out;have h2:=congrArg List.length hxs;simp only [List.length_map] at h2;omega
   go_wp2
   go_ret
   exact ⟨xs,av,cv,hxs,by rw [←HK.out];rfl,by rw [←HK.out];exact ho,hbr⟩
end Go.Proofs.YtekboofbedakcaaGreat
namespace Go.Proofs.YtekboofbedakcaaGreat
open Go.RowKit
set_option linter.unusedVariables false
set_option linter.unusedSimpArgs false
set_option maxRecDepth 100000
def SQF (P:Program) (F:World→World→Prop) (l g off m:Nat) (sec:Bool) (U:Nat→Nat→Prop) (w:World):Prop:=
 (∀ i,i<m→YT P w l [v8 g (off+i*5+1)]∧YT P w l [v8 g (off+i*5+3)])∧(sec=false→YF P w l [v8 g (off+m*5+1)] F)∧(sec=true→YT P w l [v8 g (off+m*5+1)]∧YF P w l [v8 g (off+m*5+3)] F)
set_option maxHeartbeats 1000000 in
theorem b3a {X:Nat→Prop} (F:World→World→Prop) (hFU:a8m X F) (l g off n cap:Nat) (ao:Option Addr) (ha:0<n→ao=some ⟨g,off,none⟩) (hn:n≤1000000) (m:Nat) (hm:m<n) (sec:Bool):a6g Tryz.prog (SQF Tryz.prog F l g off m sec) 70 [L8 l,.ptr (.sc (.slice ao n cap))] (A4 []) F:=by
 refine a3E (rs:=[]) Tryz.func70 Tryz.ntmps70 rfl rfl rfl rfl hFU (fun c hc=>by cases hc) ?_
 intro w U hW hq
 refine i9 (q9 (aR ?_))
 refine nc zY (nc zbx (nc zj ?_))
 show AWpZ _ _ _ _ _ _ _ _ _
 have ha2:=ha (by omega)
 refine D0 (R5 n (fun k=>k≤m) (fun k=>[(0,.val (L8 l)),(1,.val (.ptr (.sc (.slice ao n cap)))),(5,.val (.i n)),(6,.val (.i k))]) (a7 ⟨rfl,rfl,rfl,rfl,trivial⟩) (Nat.zero_le _) ?_)
 intro k hk hI
 refine i9 (q9 (aR ?_))
 refine nc zh ?_
 show AWpZ _ _ _ _ _ _ _ _ _
 have hkl:k<n:=by omega
 refine i9 (q9 (aC rfl (fun _=>?_) (fun hlt=>absurd hlt (by simp;omega))))
 refine aK ?_
 show AWpZ _ _ _ _ _ _ _ _ _
 refine i9 (D0 (i9 (q9 (aR ?_))))
 refine nc zj (nc zd ?_)
 show AWpZ _ _ _ _ _ _ _ _ _
 rcases Nat.lt_or_ge k m with hkm | hkm
 ·obtain ⟨hA,hB⟩:=hq.1 k hkm
  refine q9 ?_
  refine aS (K5 ?_)
  (refine J3 (AOp.y (aM (gN rfl) rfl rfl rfl rfl rfl)) rfl ?_)
  (refine J3 (AOp.y (s5 (gN rfl) rfl rfl rfl rfl rfl rfl rfl rfl rfl)) rfl ?_)
  (refine J3 (AOp.y (aM (gN rfl) rfl rfl rfl rfl rfl)) rfl ?_)
  (refine J3 (AOp.y (E7 (k) (gN rfl) rfl rfl rfl rfl rfl rfl rfl rfl (ha2) (by first | rfl | omega | (simp only [List.length_set,List.length_map,List.length_append,List.length_cons,List.length_nil]<;>omega) | (simp<;>omega)) (by first | rfl | omega | (simp only [List.length_set,List.length_map,List.length_append,List.length_cons,List.length_nil]<;>omega) | (simp<;>omega)))) rfl ?_)
  (refine J3 (AOp.y (E6 (gN rfl) rfl rfl rfl rfl rfl rfl rfl rfl rfl)) rfl ?_)
  (refine J3 (J8 hW (hA) (gN rfl) rfl rfl rfl rfl rfl rfl) rfl ?_)
  (refine J3 (AOp.y (Q5 (gN rfl) rfl rfl rfl rfl rfl)) rfl ?_)
  (refine J3 (AOp.y (aM (gN rfl) rfl rfl rfl rfl rfl)) rfl ?_)
  (refine J3 (AOp.y (aM gc rfl rfl rfl rfl rfl)) rfl ?_)
  (refine J3 (AOp.y (s5 gc rfl rfl rfl rfl rfl rfl rfl rfl rfl)) rfl ?_)
  (refine J3 (AOp.y (aM gc rfl rfl rfl rfl rfl)) rfl ?_)
  (refine J3 (AOp.y (E7 (k) gc rfl rfl rfl rfl rfl rfl rfl rfl (ha2) (by first | rfl | omega | (simp only [List.length_set,List.length_map,List.length_append,List.length_cons,List.length_nil]<;>omega) | (simp<;>omega)) (by first | rfl | omega | (simp only [List.length_set,List.length_map,List.length_append,List.length_cons,List.length_nil]<;>omega) | (simp<;>omega)))) rfl ?_)
  (refine J3 (AOp.y (E6 gc rfl rfl rfl rfl rfl rfl rfl rfl rfl)) rfl ?_)
  (refine J3 (J8 hW (hB) gc rfl rfl rfl rfl rfl rfl) rfl ?_)
  (refine J3 (AOp.y (Q5 gc rfl rfl rfl rfl rfl)) rfl ?_)
  (refine ⟨_,_,_,AOp.y (aPf (gN rfl) rfl rfl rfl rfl rfl ?hb rfl),rfl,?_⟩;case hb=>(first | rfl | assumption | (simp;done)))
  refine aC rfl (fun hc=>by cases hc) (fun _=>aK ?_)
  show AWpZ _ _ _ _ _ _ _ _ _
  refine q9 (aR ?_)
  refine nc zu (nc zj ?_)
  exact ⟨hkl,hkm,a7 ⟨rfl,rfl,rfl,rfl,trivial⟩⟩
 ·have hkm:k=m:=by omega
  subst hkm
  cases sec with
  | false =>
   have hY:=hq.2.1 rfl
   refine i9 (A0 (r := .val (.b false)) 5 [] rfl rfl rfl rfl rfl ?_ (fun w1 hw1=>?_))
   ·skip
    (refine J3 (AOp.y (aM (gN rfl) rfl rfl rfl rfl rfl)) rfl ?_)
    (refine J3 (AOp.y (s5 (gN rfl) rfl rfl rfl rfl rfl rfl rfl rfl rfl)) rfl ?_)
    (refine J3 (AOp.y (aM (gN rfl) rfl rfl rfl rfl rfl)) rfl ?_)
    (refine J3 (AOp.y (E7 (k) (gN rfl) rfl rfl rfl rfl rfl rfl rfl rfl (ha2) (by first | rfl | omega | (simp only [List.length_set,List.length_map,List.length_append,List.length_cons,List.length_nil]<;>omega) | (simp<;>omega)) (by first | rfl | omega | (simp only [List.length_set,List.length_map,List.length_append,List.length_cons,List.length_nil]<;>omega) | (simp<;>omega)))) rfl ?_)
    (refine J3 (AOp.y (E6 (gN rfl) rfl rfl rfl rfl rfl rfl rfl rfl rfl)) rfl ?_)
    exact ⟨trivial,O8 hW hFU hY (gN rfl) rfl rfl rfl⟩
   ·skip
    (refine J3 (AOp.y (Q5 (gN rfl) rfl rfl rfl rfl rfl)) rfl ?_)
    (refine J3 (AOp.y (aM (gN rfl) rfl rfl rfl rfl rfl)) rfl ?_)
    (refine ⟨_,_,_,AOp.y (a2G gd rfl rfl rfl),rfl,?_⟩)
    (refine ⟨_,_,_,AOp.y (a2G gd rfl rfl rfl),rfl,?_⟩)
    (refine ⟨_,_,_,AOp.y (a2G gd rfl rfl rfl),rfl,?_⟩)
    (refine ⟨_,_,_,AOp.y (a2G gd rfl rfl rfl),rfl,?_⟩)
    (refine ⟨_,_,_,AOp.y (a2G gd rfl rfl rfl),rfl,?_⟩)
    (refine ⟨_,_,_,AOp.y (a2G gd rfl rfl rfl),rfl,?_⟩)
    (refine ⟨_,_,_,AOp.y (a2G gd rfl rfl rfl),rfl,?_⟩)
    (refine ⟨_,_,_,AOp.y (aPt (gN rfl) rfl rfl rfl rfl rfl ?hb rfl),rfl,?_⟩;case hb=>(first | rfl | assumption | (simp;done)))
    intro w1 hw1
    refine aC rfl (fun _=>?_) (fun hc=>by cases hc)
    exact aT ⟨.inr rfl,rfl⟩
  | true =>
   obtain ⟨hA,hY⟩:=hq.2.2 rfl
   refine i9 (A0 (r := .val (.b false)) 13 [(16,.bool false)] rfl rfl rfl rfl rfl ?_ (fun w1 hw1=>?_))
   ·skip
    (refine J3 (AOp.y (aM (gN rfl) rfl rfl rfl rfl rfl)) rfl ?_)
    (refine J3 (AOp.y (s5 (gN rfl) rfl rfl rfl rfl rfl rfl rfl rfl rfl)) rfl ?_)
    (refine J3 (AOp.y (aM (gN rfl) rfl rfl rfl rfl rfl)) rfl ?_)
    (refine J3 (AOp.y (E7 (k) (gN rfl) rfl rfl rfl rfl rfl rfl rfl rfl (ha2) (by first | rfl | omega | (simp only [List.length_set,List.length_map,List.length_append,List.length_cons,List.length_nil]<;>omega) | (simp<;>omega)) (by first | rfl | omega | (simp only [List.length_set,List.length_map,List.length_append,List.length_cons,List.length_nil]<;>omega) | (simp<;>omega)))) rfl ?_)
    (refine J3 (AOp.y (E6 (gN rfl) rfl rfl rfl rfl rfl rfl rfl rfl rfl)) rfl ?_)
    (refine J3 (J8 hW (hA) (gN rfl) rfl rfl rfl rfl rfl rfl) rfl ?_)
    (refine J3 (AOp.y (Q5 (gN rfl) rfl rfl rfl rfl rfl)) rfl ?_)
    (refine J3 (AOp.y (aM (gN rfl) rfl rfl rfl rfl rfl)) rfl ?_)
    (refine J3 (AOp.y (aM gc rfl rfl rfl rfl rfl)) rfl ?_)
    (refine J3 (AOp.y (s5 gc rfl rfl rfl rfl rfl rfl rfl rfl rfl)) rfl ?_)
    (refine J3 (AOp.y (aM gc rfl rfl rfl rfl rfl)) rfl ?_)
    (refine J3 (AOp.y (E7 (k) gc rfl rfl rfl rfl rfl rfl rfl rfl (ha2) (by first | rfl | omega | (simp only [List.length_set,List.length_map,List.length_append,List.length_cons,List.length_nil]<;>omega) | (simp<;>omega)) (by first | rfl | omega | (simp only [List.length_set,List.length_map,List.length_append,List.length_cons,List.length_nil]<;>omega) | (simp<;>omega)))) rfl ?_)
    (refine J3 (AOp.y (E6 gc rfl rfl rfl rfl rfl rfl rfl rfl rfl)) rfl ?_)
    exact ⟨⟨rfl,trivial⟩,O8 hW hFU hY (b4D rfl rfl rfl rfl rfl) rfl rfl rfl⟩
   ·skip
    (refine J3 (AOp.y (Q5 gc rfl rfl rfl rfl rfl)) rfl ?_)
    (refine ⟨_,_,_,AOp.y (aPf (gN rfl) rfl rfl rfl rfl rfl ?hb rfl),rfl,?_⟩;case hb=>(first | rfl | assumption | (simp;done)))
    intro w1 hw1
    refine aC rfl (fun _=>?_) (fun hc=>by cases hc)
    exact aT ⟨.inr rfl,rfl⟩
noncomputable def onc (R:List RuT):List Lt→Option (List Lt×Int)
 | []=>none
 | l::D=>match trm R l.a with
  | some (s,id)=>some (⟨l.neg,s,l.b⟩::D,id)
  | none=>match trm R l.b with
   | some (s,id)=>some (⟨l.neg,l.a,s⟩::D,id)
   | none=>match onc R D with
    | some (d,id)=>some (l::d,id)
    | none=>none
def a5V (R:List RuT) (l:Lt):Prop:=o6 (l7 R) l.a=none∧o6 (l7 R) l.b=none
theorem a1q {R:List RuT} {t:Tm} {p:List Nat} (h:o6 (l7 R) t=some p):∃ s id,trm R t=some (s,id):=by
 cases e:trm R t with
 | none=>have:=b1c e;rw [this] at h;cases h
 | some q=>exact ⟨q.1,q.2,rfl⟩
theorem a0D (R:List RuT):∀ D:List Lt,(onc R D=none∧∀ l∈D,a5V R l)∨∃ m l,D[m]?=some l∧(∀ j x,j<m→D[j]?=some x→a5V R x) ∧
  ((∃ p s id,o6 (l7 R) l.a=some p∧trm R l.a=some (s,id)∧onc R D=some (D.set m ⟨l.neg,s,l.b⟩,id))∨(o6 (l7 R) l.a=none∧∃ p s id,o6 (l7 R) l.b=some p∧trm R l.b=some (s,id)∧onc R D=some (D.set m ⟨l.neg,l.a,s⟩,id)))
 | [] => .inl ⟨rfl,fun l h=>by cases h⟩
 | l::D=>by
  cases ea:o6 (l7 R) l.a with
  | some p =>
   obtain ⟨s,id,e⟩:=a1q ea
   exact .inr ⟨0,l,rfl,fun j x h=>by omega,.inl ⟨p,s,id,ea,e,by rw [onc,e];rfl⟩⟩
  | none =>
   have ea2:=a0C ea
   cases eb:o6 (l7 R) l.b with
   | some p =>
    obtain ⟨s,id,e⟩:=a1q eb
    exact .inr ⟨0,l,rfl,fun j x h=>by omega,.inr ⟨ea,p,s,id,eb,e,by rw [onc,ea2,e];rfl⟩⟩
   | none =>
    have eb2:=a0C eb
    rcases a0D R D with ⟨h1,h2⟩ | ⟨m,x,h1,h2,h3⟩
    ·refine .inl ⟨by rw [onc,ea2,eb2,h1],fun y hy=>?_⟩
     rcases List.mem_cons.1 hy with rfl | hy
     ·exact ⟨ea,eb⟩
     ·exact h2 y hy
    ·refine .inr ⟨m+1,x,by simpa using h1,fun j y hj hy=>?_,?_⟩
     ·cases j with
      | zero =>
       have:l=y:=by simpa using hy
       subst this
       exact ⟨ea,eb⟩
      | succ j=>exact h2 j y (by omega) (by simpa using hy)
     ·rcases h3 with ⟨p,s,id,k1,k2,k3⟩ | ⟨k0,p,s,id,k1,k2,k3⟩
      ·exact .inl ⟨p,s,id,k1,k2,by rw [onc,ea2,eb2,k3];rfl⟩
      ·exact .inr ⟨k0,p,s,id,k1,k2,by rw [onc,ea2,eb2,k3];rfl⟩
theorem U5 {n g cap:Nat} {V:World} {ls:List LX} (hg:n≤g) (hcap:ls.length≤cap) (hm:cap≤maxLen) (hpos:0<ls.length) (hc:∀ i l,ls[i]?=some l→∀ k u,l.cs[k]?=some u→V.cell? ⟨g,i*5+k,none⟩=some u) (hx:∀ l∈ls,XRl n V l):VRep (fun b _=>n≤b) V (.lst ((ls.map LX.lt).map Lt.cv)) (.slice (some ⟨g,0,none⟩) ls.length cap):=by
 refine d8.2 ⟨_,_,_,rfl,by rw [List.length_map,List.length_map],hcap,hm,(fun h=>by cases h),ls.flatMap LX.cs,.inr ⟨g,0,rfl,fun i hi=>?_⟩,?_⟩
 ·rw [a2w] at hi
  obtain ⟨l,hl⟩:∃ l,ls[i / 5]?=some l:=⟨ls[i / 5]'(by omega),List.getElem?_eq_getElem _⟩
  have h1:=a9i hl (i % 5) (by omega)
  have e:i / 5*5+i % 5=i:=by omega
  rw [e] at h1
  obtain ⟨u,hu⟩:∃ u,l.cs[i % 5]?=some u:=⟨l.cs[i % 5]'(by show i % 5<5;omega),List.getElem?_eq_getElem _⟩
  have h2:=hc _ l hl _ u hu
  rw [e] at h2
  rw [h1,hu,Nat.zero_add]
  exact ⟨hg,h2⟩
 ·clear hc hcap hpos
  induction ls with
  | nil=>rfl
  | cons l ls ih =>
   rw [List.flatMap_cons,List.map_cons,List.map_cons,List.map_cons]
   refine ⟨l.cs,ls.flatMap LX.cs,rfl,?_,ih fun x hx2=>hx x (List.mem_cons_of_mem _ hx2)⟩
   obtain ⟨ha,hb⟩:=hx l List.mem_cons_self
   refine s8.2 ⟨[.bool l.neg],[.int .i64 l.a.f,l.a.h,.int .i64 l.b.f,l.b.h],rfl,t7.2 ⟨rfl,rfl⟩,[.int .i64 l.a.f,l.a.h],[.int .i64 l.b.f,l.b.h],rfl,?_,[.int .i64 l.b.f,l.b.h],[],rfl,?_,rfl⟩
   ·refine s8.2 ⟨[.int .i64 l.a.f],[l.a.h],rfl,by show Rep _ _ (.i l.a.tm.f) _;rw [XT.tm_f];exact F3 _ _,[l.a.h],[],rfl,?_,rfl⟩
    show Rep _ _ (.lst (l.a.tm.l.map Tm.cv)) _
    rw [XT.tm_l,←a0i]
    exact H4 ha
   ·refine s8.2 ⟨[.int .i64 l.b.f],[l.b.h],rfl,by show Rep _ _ (.i l.b.tm.f) _;rw [XT.tm_f];exact F3 _ _,[l.b.h],[],rfl,?_,rfl⟩
    show Rep _ _ (.lst (l.b.tm.l.map Tm.cv)) _
    rw [XT.tm_l,←a0i]
    exact H4 hb
noncomputable def imR (b:Bd):CV := .row [.sc (.int .i64 b.v),b.t.cw]
theorem a3u (L:List Bd):C4 .i64 (L.map imR):=fun r hr=>by
 obtain ⟨b,_,rfl⟩:=List.mem_map.1 hr
 exact ⟨_,_,rfl⟩
theorem a7m (v:Int):∀ L:List Bd,K6 .i64 v (L.map imR)=(b7 L v).map Tm.cw
 | []=>rfl
 | b::L=>by
  rw [List.map_cons]
  unfold imR
  rw [M3,b7]
  by_cases h:b.v=v
  ·rw [if_pos h,if_pos h];rfl
  ·rw [if_neg h,if_neg h];exact a7m v L
theorem b3I (b g:Nat) (L:List Bd) (v:Int) (h1:0≤v) (h2:v≤9223372036854775807):Y7 Tryz.prog (a7N b g (L.map imR)) 53 [.i v,.sc (.pointer (some ⟨b,0,none⟩))] (.val (t9 L v).cw):=by
 refine N8 (rs:=[(t9 L v).cw]) Tryz.func53 Tryz.ntmps53 rfl rfl rfl rfl ?_
 intro w U hW hq
 have hQ:=a2t b g (L.map imR)
 have hlk:=a7m v L
 refine aS (aR ?_)
 refine nc zw ?_
 unfold t9
 cases hf:b7 L v with
 | none =>
  rw [hf] at hlk
  refine aS (aS (aR ?_))
  refine nc (zby hW hq) (nc zj (nc (zbz hW hq (hik:=a3u _) (hlr:=hlk)) (nc zj (nc zD (nc zD (nc zw (nc zy (nc zd ?_))))))))
  refine aS (aR ?_)
  refine nc zj ?_
  refine aC rfl (fun hc=>?_) (fun hc=>?_)
  ·cases hc
  ·refine aK ?_
   refine aS (aR ?_)
   refine nc zj (nc (zn (z:=V2 w v h1 h2)) (nc zy ?_))
   exact aT (And.intro (.inr rfl) rfl)
 | some t =>
  rw [hf] at hlk
  refine aS (aS (aR ?_))
  refine nc (zby hW hq) (nc zj (nc (zbz hW hq (hik:=a3u _) (hlr:=hlk)) (nc zj (nc zD (nc zD (nc zw (nc zy (nc zd ?_))))))))
  refine aS (aR ?_)
  refine nc zj ?_
  refine aC rfl (fun hc=>?_) (fun hc=>?_)
  ·refine aS (aR ?_)
   refine nc zE (nc zy ?_)
   exact aT (And.intro (.inr rfl) rfl)
  ·cases hc
theorem a5b {q:(Nat→Nat→Prop)→World→Prop} (hQ:QUp q) (fc:CV) (img:Int→Tm) (hI:∀ v,0≤v→v≤9223372036854775807→a6c Tryz.prog q fc [.i v] (.val (img v).cw)∧(img v).rng∧(img v).size≤90000000000):∀ t:Tm,t.rng→t.ok→Y7 Tryz.prog q 32 [t.cw,fc] (.val (o5 img t).cw):=by
 intro t
 induction t using Tm.ind with
 | h f l ih =>
 intro hr hok
 have hok:=(Tm.ok_iff _).1 hok
 have hr:=(Tm.rng_iff _).1 hr
 simp only at hok hr
 have hsz:=Tm.size_all l
 refine N8 (rs:=[(o5 img ⟨f,l⟩).cw]) Tryz.func32 Tryz.ntmps32 rfl rfl rfl rfl ?_
 intro w U hW hq
 refine aS (aR ?_)
 refine nc zb (nc zw ?_)
 refine aS (aS (aR ?_))
 refine nc zE ?_
 refine nc (zn (z:=a2Q w ⟨f,l⟩)) ?_
 refine aC rfl (fun hc=>?_) (fun hc=>?_)
 ·have hf:f<0:=by simpa using hc
  rw [p8 hf]
  obtain ⟨i1,i2,i3⟩:=hI (-1-f) (by omega) (by omega)
  refine aS (aR ?_)
  refine nc zj (nc zE ?_)
  refine nc (zn (z:=a1K w ⟨f,l⟩ hr.1.1 hf)) ?_
  refine nc (zbA hQ hW hq (E:=i1)) (nc (zn (z:=D7 w i2 i3)) (nc zy ?_))
  exact aT (And.intro (.inr rfl) rfl)
 ·have hf:¬ f<0:=by simpa using hc
  rw [k8 hf]
  refine aK ?_
  refine aS (aR ?_)
  refine nc zd ?_
  refine aS (aS (aR ?_))
  refine nc ze (nc zg (nc zp (nc zj ?_)))
  refine aB (b9 l.length (fun k=>[(1,.val fc),(2,.bp 2 0 []),(100002,.bx (Tm.cw ⟨f,l⟩)),(4,.bp 4 0 []),(100004,⟨5,.row [.i 0,.lst []],1,0,[1]⟩),(5,.own (.lst ((l.take k).map fun t=>(o5 img t).cv)) 200027),(200027,.tok 37 2),(16,.val (.lst (l.map Tm.cv))),(17,.val (.i (l.map Tm.cv).length)),(18,.val (.i k))])
   ((E4 5 200027 37 2 rfl rfl rfl rfl rfl rfl rfl).trans (a7 ⟨rfl,rfl,rfl,rfl,rfl,rfl,rfl,rfl,rfl,rfl,trivial⟩)) ?_)
  intro k hk
  refine aS (aR ?_)
  refine nc zh ?_
  refine aS (aC rfl (fun hc=>?_) (fun hc=>?_))
  ·have hkl:k<l.length:=by
    simp only [List.length_map,decide_eq_true_eq] at hc
    omega
   obtain ⟨t,ht⟩:∃ t,l[k]?=some t:=⟨l[k],List.getElem?_eq_getElem hkl⟩
   have ht':=Tm.map_at ht
   have htm:=List.mem_of_getElem? ht
   have hsz2:∀ c∈(l.take k).map fun t=>(o5 img t).cv,c.size=2:=by
    intro c hc
    obtain ⟨t,_,rfl⟩:=List.mem_map.1 hc
    exact Tm.size_cv _
   refine aK ?_
   refine aS (aB (aS (aR ?_)))
   refine nc (zz (H:=by assumption) (hz:=by first | assumption | exact sZ rfl | exact Tm.size_all _ | exact Bd.size_all _ | exact b8 _ | exact bys_size _ | exact Lt.size_all _)) (nc zA (nc zw (nc zy ?_)))
   refine aR ?_
   refine nc zj (nc zE (nc zj (nc (zr hQ hW hq (A:=ih t htm (hr.2 t htm) (hok.2 t htm))) (nc zI (nc zJ (nc zd ?_))))))
   refine aR ?_
   refine nc zu (nc zj ?_)
   refine ⟨hkl,Wk.trans (a7 (s':=[(1,.val fc),(2,.bp 2 0 []),(100002,.bx (Tm.cw ⟨f,l⟩)),(4,.bp 4 0 []),(100004,⟨5,.row [.i 0,.lst []],1,0,[1]⟩),(5,.own (.lst ((l.take (k+1)).map fun t=>(o5 img t).cv)) 300027),(300027,.tok 37 2),(16,.val (.lst (l.map Tm.cv))),(17,.val (.i (l.map Tm.cv).length)),(18,.val (.i ((k+1:Nat):Int)))]) ⟨rfl,rfl,rfl,rfl,rfl,?_,rfl,rfl,rfl,rfl,trivial⟩) (v9 300027 200027 rfl rfl rfl rfl)⟩
   rw [List.take_add_one,ht,List.map_append]
   simp only [Option.toList_some,List.map_cons,List.map_nil,Tm.cv_eq]
   rfl
  ·have hkl:k=l.length:=by
    simp only [List.length_map,decide_eq_false_iff_not] at hc
    omega
   subst hkl
   rw [List.take_length]
   refine aE ?_
   refine aS (aR ?_)
   refine nc ze (nc zg (nc zj (nc zx (nc zy ?_))))
   refine aT (And.intro (.inr rfl) ?_)
   unfold Tm.cw
   rw [List.map_map]
   rfl
end Go.Proofs.YtekboofbedakcaaGreat
namespace Go.Proofs.YtekboofbedakcaaGreat
open Go.RowKit Go.MapKept Go.Shelf
set_option linter.unusedVariables false
set_option linter.unusedSimpArgs false
attribute [local go_sem] Oper.semAt_some
set_option maxRecDepth 100000 in
set_option maxHeartbeats 2000000 in
theorem b3S (l Bb ob n:Nat) (c0 c1 c2:Nat→Value) (R:Nat→Nat→Prop) (w:World) (ao:Option Addr) (cap:Nat) (hbox:w.cell? ⟨Bb,ob,none⟩=some (.slice ao n cap)) (hRb:R Bb ob) (hat:∀ i,i<n→∃ b off,ao=some ⟨b,off,none⟩∧(R b (off+i*3)∧w.cell? ⟨b,off+i*3,none⟩=some (c0 i))∧(R b (off+i*3+1)∧w.cell? ⟨b,off+i*3+1,none⟩=some (c1 i))∧(R b (off+i*3+2)∧w.cell? ⟨b,off+i*3+2,none⟩=some (c2 i))) (hl:n≤1000000000)
  (J:List Nat→World→Prop) (hJ:∀ pre A B,J pre A→Below A.heap.size A B→J pre B)
  (hY:∀ pre (x:Nat) V,J pre V→x=pre.length∧x<n→YieldAt Fence.wide 1 Tryz.prog l #[.int .i64 ((n:Int)-1-x),.agg #[c0 (n-1-x),c1 (n-1-x),c2 (n-1-x)]] V fun e V'=>e = .returned (.bool true)∧J (pre++[x]) V'∧KpX w.heap.size (fun b=>¬ ∃ o,R b o) V V')
  (W:World) (hW:Below w.heap.size w W) (h0:J [] W) :
  CallsIn Fence.wide 2 Tryz.prog 85 #[.func (.yield l) #[] #[],.pointer (some ⟨Bb,ob,none⟩)] W fun e W'=>(∃ v,e = .returned v)∧∃ ys,ys=List.range n∧J ys W':=by
 have hcs:∀ {V:World},KpX w.heap.size (fun b=>¬ ∃ o,R b o) w V→V.cell? ⟨Bb,ob,none⟩=some (.slice ao n cap)∧∀ i,i<n→∃ b off,ao=some ⟨b,off,none⟩∧V.cell? ⟨b,off+i*3,none⟩=some (c0 i)∧V.cell? ⟨b,off+i*3+1,none⟩=some (c1 i)∧V.cell? ⟨b,off+i*3+2,none⟩=some (c2 i):=fun {V} hV=>by
  have hkeep:∀ b o u,R b o→w.cell? ⟨b,o,none⟩=some u→V.cell? ⟨b,o,none⟩=some u:=fun b o u hr hc=>by
   have hb:b<w.heap.size:=World.block_lt_of_cell? w _ hc
   rw [World.cell?_of_block (w:=w) (hV b hb (fun hn=>hn ⟨o,hr⟩))]
   exact hc
  refine ⟨hkeep _ _ _ hRb hbox,fun i hi=>?_⟩
  obtain ⟨b,off,h1,⟨g1,g2⟩,⟨g3,g4⟩,g5,g6⟩:=hat i hi
  exact ⟨b,off,h1,hkeep _ _ _ g1 g2,hkeep _ _ _ g3 g4,hkeep _ _ _ g5 g6⟩
 have hW0:KpX w.heap.size (fun b=>¬ ∃ o,R b o) w W:=fun b hb _=>hW.block b hb
 have HC:Hid (∀ {V:World},KpX w.heap.size (fun b=>¬ ∃ o,R b o) w V→V.cell? ⟨Bb,ob,none⟩=some (.slice ao n cap)∧∀ i,i<n→∃ b off,ao=some ⟨b,off,none⟩∧V.cell? ⟨b,off+i*3,none⟩=some (c0 i)∧V.cell? ⟨b,off+i*3+1,none⟩=some (c1 i)∧V.cell? ⟨b,off+i*3+2,none⟩=some (c2 i)):=fun {V} h=>hcs h
 clear hcs hbox hat hRb
 obtain ⟨hb0,_⟩:=HC.out hW0
 refine callsIn_of_wp Tryz.func85 rfl trivial ?_ rfl
 simp only [Tryz.ntmps85,List.size_toArray,List.length_cons,List.length_nil,Nat.reduceAdd,Nat.reduceSub,Array.replicate_succ,Array.replicate_zero,List.push_toArray,List.append_toArray,List.nil_append,List.cons_append]
 gi_wp2
 gi_loopw [3] (fun iv wr=>∃ (z:Int) (k:Nat),iv = .int .i64 z∧z=(n:Int)-1-k∧k≤n∧J (List.range k) wr∧KpX w.heap.size (fun b=>¬ ∃ o,R b o) w wr) (fun iv wr=>(intOf iv+1).toNat)
 case atStart=>exact ⟨_,0,rfl,by omega,by omega,by simpa using h0,hW0⟩
 case round =>
  obtain ⟨z,k,rfl,hz,hk,hJr,hKr⟩:=hrel
  clear hb0 h0 hW0
  obtain ⟨hb1,hc1⟩:=HC.out hKr
  by_cases hkn:k=n
  ·have hz1:z = -1:=by omega
   subst hz1
   gi_wp2
   go_end0
   refine ⟨⟨_,rfl⟩,_,rfl,?_⟩
   rw [hkn] at hJr
   exact hJr
  ·obtain ⟨j,hj⟩:∃ j:Nat,j=n-1-k:=⟨_,rfl⟩
   have hzj:z=(j:Int):=by omega
   have hjn:j<n:=by omega
   subst hzj
   obtain ⟨b,off,rfl,hc2,hc3,hc4⟩:=hc1 j hjn
   obtain ⟨fn,tmps,assign,body,hy,hR⟩:=hY (List.range k) k _ hJr ⟨by simp,by omega⟩
   rw [show (n:Int)-1-k=(j:Int) by omega,show n-1-k=j from hj.symm] at hy
   obtain ⟨v0,hv0⟩:∃ v,v=c0 j:=⟨_,rfl⟩
   obtain ⟨v1,hv1⟩:∃ v,v=c1 j:=⟨_,rfl⟩
   obtain ⟨v2,hv2⟩:∃ v,v=c2 j:=⟨_,rfl⟩
   rw [←hv0] at hc2 hy
   rw [←hv1] at hc3 hy
   rw [←hv2] at hc4 hy
   clear hc1 hv0 hv1 hv2
   have hy:Sem.run Tryz.prog (Instr.yield l #[.int .i64 (j:Int),.agg #[v0,v1,v2]]) wr = .ok (.round l fn tmps assign body) wr:=hy
   have HJ:Hid (j=n-1-k∧k<n):=⟨hj,by omega⟩
   clear hj hz hkn hk
   gi_wp2
   refine hR.mono ?_
   rintro e V3 ⟨rfl,hJ3,hk3⟩
   gi_wp2
   go_roundw
   case rel=>exact ⟨_,k+1,rfl,by have:=HJ.out;omega,by have:=HJ.out;omega,by rw [List.range_succ];exact hJ3,fun b' hb' hx'=>(hk3 b' hb' hx').trans (hKr b' hb' hx')⟩
   case measure=>simp [intOf]
theorem sq3 {R:Nat→Nat→Prop} {w:World}:∀ {L:List Bd} {ys:List Value},Sq ((L.map Bd.cv).map fun c=>Rep R w c) ys→ys.length=3*L.length∧∀ i b,L[i]?=some b→Rep R w b.cw [ys.getD (i*3) undef,ys.getD (i*3+1) undef,ys.getD (i*3+2) undef]
 | [],ys,h=>by
  have h:ys=[]:=h
  subst h
  exact ⟨rfl,fun i b h=>by simp at h⟩
 | x::L,ys,⟨us,bs,e,h1,h2⟩=>by
  obtain ⟨ih1,ih2⟩:=sq3 (L:=L) h2
  have hlen:us.length=3:=h1.len
  obtain ⟨u0,u1,u2,rfl⟩:∃ u0 u1 u2,us=[u0,u1,u2]:=by
   match us,hlen with
   | [u0,u1,u2],_=>exact ⟨u0,u1,u2,rfl⟩
  subst e
  refine ⟨by simp;omega,fun i b hi=>?_⟩
  cases i with
  | zero =>
   simp at hi
   subst hi
   exact h1
  | succ i =>
   have:=ih2 i b (by simpa using hi)
   have hg:∀ k,([u0,u1,u2]++bs).getD (k+3) undef=bs.getD k undef:=fun k=>by simp [List.getD_eq_getElem?_getD]
   rw [show (i+1)*3=i*3+3 by omega,show i*3+3+1=i*3+1+3 by omega,show i*3+3+2=i*3+2+3 by omega,hg,hg,hg]
   exact this
theorem a6B {R:Nat→Nat→Prop} {w:World} {L:List Bd} {Bb ob:Nat} {ao:Option Addr} {cap:Nat} (hl:L.length≤1000000000) (hbox:w.cell? ⟨Bb,ob,none⟩=some (.slice ao L.length cap)) (hRb:R Bb ob) (hv:VRep R w (.lst (L.map Bd.cv)) (.slice ao L.length cap)) :
  ∃ c0 c1 c2:Nat→Value,(∀ i b,L[i]?=some b→VRep R w b.cw (.agg #[c0 i,c1 i,c2 i])) ∧
   a5X Tryz.prog 85 #[.pointer (some ⟨Bb,ob,none⟩)] (fun x:Nat => #[.int .i64 ((L.length:Int)-1-x),.agg #[c0 (L.length-1-x),c1 (L.length-1-x),c2 (L.length-1-x)]]) (fun pre x _=>x=pre.length∧x<L.length) (KpX w.heap.size fun b=>¬ ∃ o,R b o) (fun ys=>ys=List.range L.length) w:=by
 obtain ⟨a',n',c',e0,e1,e2,e3,e4,ys,e5,e6⟩:=d8.1 hv
 injection e0 with e0 _ _
 subst e0
 obtain ⟨s1,s2⟩:=sq3 e6
 refine ⟨fun i=>ys.getD (i*3) undef,fun i=>ys.getD (i*3+1) undef,fun i=>ys.getD (i*3+2) undef,fun i b hb=>⟨_,rfl,s2 i b hb⟩,?_⟩
 intro l J W hW hJ hY h0
 refine b3S l Bb ob L.length (fun i=>ys.getD (i*3) undef) (fun i=>ys.getD (i*3+1) undef) (fun i=>ys.getD (i*3+2) undef) R w ao cap hbox hRb (fun i hi=>?_) hl J hJ hY W hW h0
 rcases e5 with h1 | ⟨b,off,h1,h2⟩
 ·rw [h1] at s1;simp at s1;omega
 ·have hk:∀ k,k<ys.length→R b (off+k)∧w.cell? ⟨b,off+k,none⟩=some (ys.getD k undef):=fun k hk=>by
   obtain ⟨g1,g2⟩:=h2 k hk
   exact ⟨g1,by rw [g2,List.getD_eq_getElem?_getD,List.getElem?_eq_getElem hk];rfl⟩
  exact ⟨b,off,h1,hk (i*3) (by omega),hk (i*3+1) (by omega),hk (i*3+2) (by omega)⟩
def a1V (b:Bd):List Bd→List Bd
 | []=>[b]
 | x::M=>if x.v=b.v then b::M else x::a1V b M
theorem a7a (b:Bd):∀ M:List Bd,a0O .i64 b.v b.t.cw (M.map imR)=(a1V b M).map imR
 | []=>rfl
 | x::M=>by
  rw [List.map_cons,a1V]
  have h1:=a0q (k := .i64) (i:=b.v) (j:=x.v) (c:=b.t.cw) (c':=x.t.cw) (l:=M.map imR)
  by_cases h:x.v=b.v
  ·rw [if_pos h] at h1 ⊢;exact h1
  ·rw [if_neg h] at h1 ⊢
   rw [a7a b M] at h1
   exact h1
theorem a4A (b:Bd) (v:Int):∀ M:List Bd,b7 (a1V b M) v=if b.v=v then some b.t else b7 M v
 | []=>rfl
 | x::M=>by
  rw [a1V]
  by_cases h:x.v=b.v
  ·rw [if_pos h,b7,b7]
   by_cases h2:b.v=v
   ·rw [if_pos h2,if_pos h2]
   ·rw [if_neg h2,if_neg h2,if_neg (by omega)]
  ·rw [if_neg h,b7,b7,a4A b v M]
   by_cases h2:b.v=v
   ·rw [if_pos h2,if_pos h2,if_neg (by omega)]
   ·rw [if_neg h2,if_neg h2]
def a2y (L:List Bd) (k:Nat):List Bd:=(L.reverse.take k).foldl (fun M b=>a1V b M) []
theorem b0Q {L:List Bd} {k:Nat} {b:Bd} (h:L[L.length-1-k]?=some b) (hk:k<L.length):a2y L (k+1)=a1V b (a2y L k):=by
 unfold a2y
 rw [List.take_add_one,List.getElem?_reverse hk,h,List.foldl_append]
 rfl
theorem b1D:∀ (L:List Bd) (v:Int),b7 (a2y L L.length) v=b7 L v:=by
 intro L v
 have:∀ L:List Bd,b7 (L.reverse.foldl (fun M b=>a1V b M) []) v=b7 L v:=by
  intro L
  induction L with
  | nil=>rfl
  | cons b L ih =>
   rw [List.reverse_cons,List.foldl_append]
   show b7 (a1V b _) v=_
   rw [a4A,ih,b7]
 unfold a2y
 rw [←List.length_reverse,List.take_length]
 exact this L
attribute [local go_sem] Oper.semAt_some
theorem b5K {P:Program} {w:World} {U:Nat→Nat→Prop} {t kt et:TypeId} {k:IntKind} {i:Int} {l:List CV} {g clock:Nat} {es:Array MapEntry} {val:Value} {c:CV} (hu:P.underlying t=some (.map kt et)) (huk:P.underlying kt=some (.int k)) (g2:w.heap[g]?=some (.map es clock)) (g3:Ents U w l es.toList) (hik:C4 k l) (e3:VRep U w c val) :
  ∃ es' clock',(Instr.mapUpdate t (.map (some g)) (.int k i) val).run P w = .ok () { w with heap:=w.heap.setIfInBounds g (.map es' clock') }∧Ents U w (a0O k i c l) es'.toList:=by
 have hck:=run_checkKey (P:=P) (w:=w) huk (k := .int k i) rfl false 9999
 have hge:=Go.MapKept.run_getObj_map (P:=P) g2
 obtain ⟨p1,p2'⟩:=a1b (i:=i) c hik
 rcases H5 0 g3 hik (i:=i) with ⟨f1,f2⟩ | ⟨j,e,c',f1,f2,f3,f4,f5,f6⟩
 ·have hfk:=run_findKey (P:=P) (w:=w) huk f1
  refine ⟨es.push { key := .int k i,val:=val,born:=clock },clock+1,?_,?_⟩
  ·have hso:=run_setObj_map (P:=P) (Obj.map (es.push { key := .int k i,val:=val,born:=clock }) (clock+1)) g2
   simp [Instr.mapUpdate,run_underlying hu,hge,hck,hfk,hso]
  ·rw [p1 f2,Array.toList_push]
   exact a1g g3 ⟨.sc (.int k i),c,rfl,rfl,rfl,e3⟩
 ·have hfk:=run_findKey (P:=P) (w:=w) huk f1
  rw [Nat.zero_add] at hfk
  have hjl:j<es.size:=by
   have:=(List.getElem?_eq_some_iff.1 f2).1
   simpa using this
  have hej:es[j]?=some e:=by rw [←Array.getElem?_toList];exact f2
  have hmod:(es.modify j fun e=>{ e with key := .int k i,val:=val }).toList=es.toList.set j { e with key := .int k i,val:=val }:=by
   rw [Array.toList_modify]
   apply List.ext_getElem?
   intro q
   rw [List.getElem?_modify,List.getElem?_set]
   by_cases hq:j=q
   ·subst hq
    have:es[j]=e:=(Array.getElem?_eq_some_iff.1 hej).2
    simp [hjl,this]
   ·simp [hq]
  refine ⟨es.modify j fun e=>{ e with key := .int k i,val:=val },clock,?_,?_⟩
  ·have hso:=run_setObj_map (P:=P) (Obj.map (es.modify j fun e=>{ e with key := .int k i,val:=val }) clock) g2
   have hst:(Instr.keyThatStays (.int k i) (.int k i)).run P w = .ok (.int k i) w:=by simp [Instr.keyThatStays,Instr.sameBits]
   simp [Instr.mapUpdate,run_underlying hu,hge,hck,hfk,hso,hej,f5,hst]
  ·rw [hmod,p2' j c' f3 (X8 0 (j:=j) g3 hik f1)]
   exact a3q g3 ⟨.sc (.int k i),c,rfl,rfl,rfl,e3⟩
theorem a1P {F:Fence} {nF:Nat} {P:Program} (w:World) {ops:Array Oper} {rest:List Oper} {o:Oper} {a:Act} {Q:Exit→Act→World→Prop}
  (hg:o.guard=none) (m x v:Operand) (t:TypeId) (hop:o.op=Op.mapUpdate t m x v) {mv key val:Value} (hm:a.eval m=mv) (hx:a.eval x=key) (hv:a.eval v=val) {w':World} (hrun:(Instr.mapUpdate t mv key val).run P w = .ok () w')
  (hK:wpListIn F nF P ops Q rest (a.put o.dst undef) w'):wpListIn F nF P ops Q (o::rest) a w:=by
 refine wpListIn_plain hg fun K' hK'=>?_
 unfold Oper.wpIn
 refine ⟨by simp [Oper.about,hop],?_⟩
 rw [Oper.semAt_plain F _ _ (by rw [hop];intro c hc';cases hc')]
 simp [execOp,hop,hm,hx,hv,hrun,Result.andThen]
 exact hK' _ _ hK
theorem a8I (ao:Option Addr) (n c:Nat) (w:World) :
  CallsIn Fence.wide 2 Tryz.prog 52 #[.slice ao n c] w fun e w'=>e = .returned (.func (.func 85) #[] #[.pointer (some ⟨w.heap.size,0,none⟩)])∧w'=w.alloc (.cells #[.slice ao n c] 47):=by
 refine callsIn_of_wp Tryz.func52 rfl trivial ?_ rfl
 simp only [Tryz.ntmps52,List.size_toArray,List.length_cons,List.length_nil,Nat.reduceAdd,Nat.reduceSub,Array.replicate_succ,Array.replicate_zero,List.push_toArray,List.append_toArray,List.nil_append,List.cons_append]
 gi_wp2
 go_ret
 exact ⟨rfl,rfl⟩
theorem b0w {R:Nat→Nat→Prop} {w:World} {b:Bd} {u0 u1 u2:Value} (h:VRep R w b.cw (.agg #[u0,u1,u2])):u0 = .int .i64 b.v∧VRep R w b.t.cw (.agg #[u1,u2]):=by
 obtain ⟨xs,e,h1⟩:=A5.1 h
 have hxs:xs=[u0,u1,u2]:=by
  injection e with e
  have:=congrArg Array.toList e
  simpa using this.symm
 subst hxs
 obtain ⟨us,bs,e1,k1,us',bs',e2,k3,k4⟩:=h1
 have hus:us=[.int .i64 b.v]:=(t7.1 k1).1
 have hbs:bs'=[]:=k4
 subst hus;subst hbs;subst e2
 simp at e1
 obtain ⟨e3,e4⟩:=e1
 subst e4
 exact ⟨e3,_,rfl,k3⟩
theorem a3B {R:Nat→Nat→Prop} {w:World} {t:Tm} {u1 u2:Value} (h:VRep R w t.cw (.agg #[u1,u2])):u1 = .int .i64 t.f∧∃ a m c,u2 = .slice a m c:=by
 obtain ⟨xs,e,h1⟩:=A5.1 h
 have hxs:xs=[u1,u2]:=by
  injection e with e
  have:=congrArg Array.toList e
  simpa using this.symm
 subst hxs
 obtain ⟨us,bs,e1,k1,us',bs',e2,k3,k4⟩:=h1
 have hus:us=[.int .i64 t.f]:=(t7.1 k1).1
 have hbs:bs'=[]:=k4
 subst hus;subst hbs;subst e2
 simp at e1
 obtain ⟨e3,e4⟩:=e1
 subst e4
 obtain ⟨a,m,c,e5,_⟩:=I0.1 k3
 simp at e5
 exact ⟨e3,a,m,c,e5⟩
theorem a6v {α:Type} {P:Program} {gf:Nat} {lb:Array Value} {encs encs':α→Array Value} {Ok:List α→α→World→Prop} {Kp:World→World→Prop} {S:List α→Prop} {w:World} (he:∀ pre x V,Ok pre x V→encs x=encs' x) (h:a5X P gf lb encs Ok Kp S w):a5X P gf lb encs' Ok Kp S w:=
 fun l J W hW hJ hY h0=>h l J W hW hJ (fun pre x V hj hok=>by rw [he pre x V hok];exact hY pre x V hj hok) h0
theorem a6j {R:Nat→Nat→Prop} {w:World} {L:List Bd} {Bb ob n:Nat} {ao:Option Addr} {cap:Nat} (hn:n=L.length) (hl:L.length≤1000000000) (hbox:w.cell? ⟨Bb,ob,none⟩=some (.slice ao n cap)) (hRb:R Bb ob) (hv:VRep R w (.lst (L.map Bd.cv)) (.slice ao L.length cap)) :
  ∃ (v f:Nat→Int) (a:Nat→Option Addr) (m c:Nat→Nat),(∀ x b,x<n→L[n-1-x]?=some b→VRep R w b.cw (.agg #[.int .i64 (v x),.int .i64 (f x),.slice (a x) (m x) (c x)])) ∧
   a5X Tryz.prog 85 #[.pointer (some ⟨Bb,ob,none⟩)] (fun x:Nat => #[.int .i64 ((n:Int)-1-x),.agg #[.int .i64 (v x),.int .i64 (f x),.slice (a x) (m x) (c x)]]) (fun pre x _=>x=pre.length∧x<n) (KpX w.heap.size fun b=>¬ ∃ o,R b o) (fun ys=>ys=List.range n) w:=by
 subst hn
 obtain ⟨c0,c1,c2,hc,hG⟩:=a6B hl hbox hRb hv
 have hx:∀ x:Nat,∃ (q:Int×Int×Option Addr×Nat×Nat),x<L.length→c0 (L.length-1-x) = .int .i64 q.1∧c1 (L.length-1-x) = .int .i64 q.2.1∧c2 (L.length-1-x) = .slice q.2.2.1 q.2.2.2.1 q.2.2.2.2:=fun x=>by
  by_cases h:x<L.length
  ·obtain ⟨bd,hbd⟩:∃ bd,L[L.length-1-x]?=some bd:=⟨L[L.length-1-x]'(by omega),List.getElem?_eq_getElem _⟩
   obtain ⟨g0,g1⟩:=b0w (hc _ _ hbd)
   obtain ⟨g2,a,m,c,g3⟩:=a3B g1
   exact ⟨⟨bd.v,bd.t.f,a,m,c⟩,fun _=>⟨g0,g2,g3⟩⟩
  ·exact ⟨⟨0,0,none,0,0⟩,fun h2=>absurd h2 h⟩
 obtain ⟨q,hq⟩:∃ q:Nat→Int×Int×Option Addr×Nat×Nat,∀ x:Nat,x<L.length→c0 (L.length-1-x) = .int .i64 (q x).1∧c1 (L.length-1-x) = .int .i64 (q x).2.1∧c2 (L.length-1-x) = .slice (q x).2.2.1 (q x).2.2.2.1 (q x).2.2.2.2:=⟨fun x=>(hx x).choose,fun x=>(hx x).choose_spec⟩
 clear hx
 refine ⟨fun x=>(q x).1,fun x=>(q x).2.1,fun x=>(q x).2.2.1,fun x=>(q x).2.2.2.1,fun x=>(q x).2.2.2.2,fun x b hxl hb=>?_,a6v (fun pre x V hok=>?_) hG⟩
 ·obtain ⟨g1,g2,g3⟩:=hq x hxl
  have:=hc _ _ hb
  rw [g1,g2,g3] at this
  exact this
 ·obtain ⟨g1,g2,g3⟩:=hq x hok.2
  rw [g1,g2,g3]
def ImR (w:World) (R:Nat→Nat→Prop) (b o:Nat):Prop:=(R b o∧b<w.heap.size)∨b=w.heap.size+1+1
def ImI (w wl:World) (R:Nat→Nat→Prop) (L:List Bd) (k:Nat) (W:World):Prop:=
 W.heap[w.heap.size+1]?=some (.cells #[.map (some w.heap.size)] 108 (0,0))∧(∃ es clock,W.heap[w.heap.size]?=some (.map es clock)∧Ents (ImR w R) W ((a2y L k).map imR) es.toList)∧Below w.heap.size w W∧w.heap.size+3≤W.heap.size∧KpX (w.heap.size+3) (fun b=>¬ ∃ o,ImR w R b o) wl W
theorem a3T {w:World} {R:Nat→Nat→Prop} {b o:Nat} (h:ImR w R b o):b<w.heap.size+3∧b≠w.heap.size:=by
 rcases h with h | h
 ·have:=h.2;omega
 ·omega
theorem ImI.up {w wl:World} {R:Nat→Nat→Prop} {L:List Bd} {k:Nat} {W W':World} (h:ImI w wl R L k W) (hb:∀ b,b<w.heap.size+3→W'.heap[b]?=W.heap[b]?) (hB:Below w.heap.size W W'):ImI w wl R L k W':=by
 obtain ⟨h1,⟨es,clock,h2,h3⟩,h4,h5,h6⟩:=h
 refine ⟨by rw [hb _ (by omega)];exact h1,⟨es,clock,by rw [hb _ (by omega)];exact h2,h3.keep fun b o u hu hc=>⟨hu,?_⟩⟩,h4.trans hB,Nat.le_trans h5 hB.size,fun b hb' hx=>(hb b hb').trans (h6 b hb' hx)⟩
 rw [World.cell?_of_block (w:=W) (hb b (a3T hu).1)]
 exact hc
theorem ImI.put {w wl:World} {R:Nat→Nat→Prop} {L:List Bd} {k:Nat} {W:World} (h:ImI w wl R L k W) {bd:Bd} (hbd:L[L.length-1-k]?=some bd) (hk:k<L.length) {es:Array MapEntry} {clock:Nat} (hE:Ents (ImR w R) W (a0O .i64 bd.v bd.t.cw ((a2y L k).map imR)) es.toList):ImI w wl R L (k+1) { W with heap:=W.heap.setIfInBounds w.heap.size (.map es clock) }:=by
 obtain ⟨h1,⟨es0,clock0,h2,h3⟩,h4,h5,h6⟩:=h
 obtain ⟨q1,q2⟩:=heap_set (o':=Obj.map es clock) h2
 have hE:Ents (ImR w R) W ((a2y L (k+1)).map imR) es.toList:=by rw [b0Q hbd hk,←a7a];exact hE
 refine ⟨by rw [q2 _ (by omega)];exact h1,⟨es,clock,q1,hE.keep fun b o u hu hc=>⟨hu,?_⟩⟩,⟨h4.os,h4.tape,h4.output,by simpa using h4.size,fun b hb=>(q2 b (by omega)).trans (h4.block b hb)⟩,by simpa using h5,fun b hb' hx=>?_⟩
 ·rw [World.cell?_of_block (w:=W) (q2 b (a3T hu).2)]
  exact hc
 ·obtain ⟨o,ho⟩:=Classical.not_not.1 hx
  exact (q2 b (a3T ho).2).trans (h6 b hb' hx)
set_option maxRecDepth 100000 in
set_option maxHeartbeats 4000000 in
theorem b1i (L:List Bd) {R:Nat→Nat→Prop} {w:World} {ao:Option Addr} {n cap:Nat} (hn:n=L.length) (hv:VRep R w (.lst (L.map Bd.cv)) (.slice ao L.length cap)) (h64:64<n) (hl:n≤1000000000) :
  CallsIn Fence.wide 3 Tryz.prog 33 #[.slice ao n cap] w fun e W'=>∃ b g,e = .returned (.func (.func 53) #[] #[.pointer (some ⟨b,0,none⟩)])∧a7N b g ((a2y L L.length).map imR) (fun b o=>R b o∨w.heap.size≤b) W'∧Below w.heap.size w W':=by
 have hmm:∀ w:World,Sem.run Tryz.prog (Instr.makeMap 108 (some (.int .i64 (n:Int)))) w = .ok (.map (some w.heap.size)) (w.alloc (.map #[] 0)):=fun w=>by
  simp [Instr.makeMap,run_underlying Tryz.underlying108,asInt,asIntOf,run_newObj_alloc]
 have HL:=K3 hn
 have HV:=K3 hv
 clear hn hv
 refine callsIn_of_wp_marks Tryz.func33 rfl trivial ?_ rfl
 simp only [Tryz.ntmps33,List.size_toArray,List.length_cons,List.length_nil,Nat.reduceAdd,Nat.reduceSub,Array.replicate_succ,Array.replicate_zero,List.push_toArray,List.append_toArray,List.nil_append,List.cons_append]
 gi_wp2_with (refine ⟨trivial,?_⟩;gi_at_call 52;refine (a8I _ _ _ _).mono ?_;rintro e w' ⟨rfl,rfl⟩)
 obtain ⟨w1,hw1⟩:∃ w1,w1=w.alloc (.map #[] 0):=⟨_,rfl⟩
 obtain ⟨w2,hw2⟩:∃ w2,w2=w1.alloc (.cells #[.map (some w.heap.size)] 108):=⟨_,rfl⟩
 obtain ⟨wl,hwl⟩:∃ wl,wl=w2.alloc (.cells #[.slice ao n cap] 47):=⟨_,rfl⟩
 have s1:w1.heap.size=w.heap.size+1:=by rw [hw1];simp
 have s2:w2.heap.size=w.heap.size+1+1:=by rw [hw2];simp;omega
 have hsz:wl.heap.size=w.heap.size+3:=by rw [hwl];simp;omega
 have k1:Below w.heap.size w w1:=by rw [hw1];exact bA (bW _) _
 have k2:Below w1.heap.size w1 w2:=by rw [hw2];exact bA (bW _) _
 have k3:Below w2.heap.size w2 wl:=by rw [hwl];exact bA (bW _) _
 have hb0:Below w.heap.size w wl:=bN (bN k1 k2) k3
 have hbx:wl.cell? ⟨w.heap.size+1+1,0,none⟩=some (.slice ao n cap):=by
  have:wl.heap[w.heap.size+1+1]?=some (.cells #[.slice ao n cap] 47 (0,0)):=by rw [hwl,←s2];exact World.alloc_heap_new _ _
  simp [World.cell?,this]
 have hI0:ImI w wl R L 0 wl:=by
  refine ⟨?_,⟨#[],0,?_,rfl⟩,hb0,by omega,fun b hb hx=>rfl⟩
  ·rw [k3.block _ (by omega),hw2,←s1];exact World.alloc_heap_new _ _
  ·rw [k3.block _ (by omega),k2.block _ (by omega),hw1];exact World.alloc_heap_new _ _
 have hv':VRep (ImR w R) wl (.lst (L.map Bd.cv)) (.slice ao L.length cap):=HV.out.keep fun b o u hu hc=>by
  have hlt:=World.block_lt_of_cell? w _ hc
  refine ⟨.inl ⟨hu,hlt⟩,?_⟩
  rw [World.cell?_of_block (w:=w) (hb0.block b hlt)]
  exact hc
 obtain ⟨zv,zf,za,zm,zc,hc,hG⟩:=a6j (R:=ImR w R) (w:=wl) (L:=L) (Bb:=w.heap.size+1+1) (ob:=0) HL.out (by have:=HL.out;omega) hbx (.inr rfl) hv'
 rw [←hw1,←hw2,←hwl]
 clear hwl hw1 hw2 s1 s2 k1 k2 k3 hv' hbx hmm
 refine a1E (gf:=85) (lb := #[.pointer (some ⟨w.heap.size+1+1,0,none⟩)]) rfl (enters_of Tryz.func85 (by kernel_rfl) rfl)
  hG (fun {A B C} h1 h2 b hb hx=>(h2 b hb hx).trans (h1 b hb hx)) (fun W l o o' hl h ho b hb hx=>World.putObj_heap_other (by omega)) (fun pre x W l o o' hl hx h ho=>hx) (fun x=>rfl)
  (fun pre W=>ImI w wl R L pre.length W) (fun pre A B h hb=>h.up (fun b hb'=>hb.block b (by have:=h.2.2.2.1;omega)) ⟨hb.os,hb.tape,hb.output,hb.size,fun b hb'=>hb.block b (by have:=h.2.2.2.1;omega)⟩) (fun pre A l o o' h hl h1 h2=>h.up (fun b hb'=>World.putObj_heap_other (by omega)) (V7 o' (by omega) h1 h2).1) hI0
  (fun x b=>{ tmps := #[.slice ao n cap,undef,.nilFunc,.pointer (some ⟨w.heap.size+1,0,none⟩),undef,.pointer (some ⟨b,0,none⟩),.slice ao n cap,.int .i64 n,.bool (decide ((n:Int)≤64)),undef,undef,.slice ao n cap,.int .i64 n,.map (some w.heap.size),.slice ao n cap,.func (.func 85) #[] #[.pointer (some ⟨w.heap.size+1+1,0,none⟩)],.int .i64 ((n:Int)-1-x),.agg #[.int .i64 (zv x),.int .i64 (zf x),.slice (za x) (zm x) (zc x)],undef,undef,undef,undef,undef,undef],defers:=[] })
  (fun x => .cells #[.int .i64 (zv x),.int .i64 (zf x),.slice (za x) (zm x) (zc x)] 85 (0,0)) (fun V x hV b hb hx=>(bA (bW V) _).block b (by omega)) (fun pre x V hx=>hx) ?assign ?body ?done
 case assign =>
  intro l x W K hK
  gi_wp2
  exact hK
 case body =>
  rintro l pre x W b hb hbx' hI ⟨hx,hxl⟩
  obtain ⟨bd,hbd⟩:∃ bd,L[n-1-x]?=some bd:=⟨L[n-1-x]'(by have:=HL.out;omega),List.getElem?_eq_getElem _⟩
  obtain ⟨g0,g1⟩:=b0w (hc _ _ hxl hbd)
  have hvW:VRep (ImR w R) W bd.t.cw (.agg #[.int .i64 (zf x),.slice (za x) (zm x) (zc x)]):=by
   refine g1.keep fun b o u hu hcc=>⟨hu,?_⟩
   rw [World.cell?_of_block (w:=wl) (hI.2.2.2.2 b (a3T hu).1 fun hn=>hn ⟨o,hu⟩)]
   exact hcc
  rw [g0] at hbx'
  rw [g0]
  have HI:=K3 hI
  obtain ⟨i1,⟨es,clock,i2,i3⟩,i4,i5,i6⟩:=hI
  obtain ⟨es',clock',hrun,hE⟩:=b5K (P:=Tryz.prog) (t:=108) (k := .i64) (i:=bd.v) Tryz.underlying108 Tryz.underlying3 i2 i3 (a3u _) hvW
  have e0:W.cell? ⟨b,0,none⟩=some (.int .i64 bd.v):=by simp [World.cell?,hbx']
  have e1:W.cell? ⟨b,1,none⟩=some (.int .i64 (zf x)):=by simp [World.cell?,hbx']
  have e2:W.cell? ⟨b,2,none⟩=some (.slice (za x) (zm x) (zc x)):=by simp [World.cell?,hbx']
  have em:W.cell? ⟨w.heap.size+1,0,none⟩=some (.map (some w.heap.size)):=by simp [World.cell?,i1]
  have HX:Hid (x=pre.length∧x<n):=⟨hx,hxl⟩
  have HB:=K3 hbd
  have HE:=K3 hE
  have H2:=K3 i2
  clear hx hxl hbd hE i1 i2 i3 i4 i6 hc hG hI0 g0 g1 hvW hbx'
  gi_wp2_with (gi_at_mapUpdate;refine a1P _ rfl _ _ _ 108 rfl rfl rfl rfl hrun ?_)
  obtain ⟨hx,hxl⟩:=HX.out
  obtain ⟨q1,q2⟩:=heap_set (o':=Obj.map es' clock') H2.out
  refine ⟨⟨by simp,fun g o hg1 hg2 ho=>by rw [q2 g (by omega)];exact hg2⟩,fun b hb hx=>?_,?_⟩
  ·obtain ⟨o,ho⟩:=Classical.not_not.1 hx
   exact q2 b (a3T ho).2
  ·rw [List.length_append]
   have hB2:=HB.out
   rw [HL.out,hx] at hB2
   exact ImI.put HI.out hB2 (by have:=HL.out;omega) HE.out
 case done =>
  rintro D xs W hD hS hI hK
  gi_wp2
  refine ⟨by simp,.inl ⟨_,_,rfl,run_takeDeferred hK,?_⟩⟩
  have hI2:=hI.up (W':=W.putObj D (.deferred none)) (fun b hb'=>World.putObj_heap_other (by omega)) (V7 _ (by omega) hK rfl).1
  rw [hS,List.length_range,HL.out] at hI2
  obtain ⟨j1,⟨es,clock,j2,j3⟩,j4,_,_⟩:=hI2
  refine ⟨_,results_tmp rfl _ _ _,w.heap.size+1,w.heap.size,rfl,⟨by simp [World.cell?,j1],es,clock,j2,j3.keep fun b o u hu hc=>⟨?_,hc⟩⟩,j4⟩
  rcases hu with h | h
  ·exact .inl h.1
  ·exact .inr (by omega)
theorem a8b {P:Program} (w:World) {ops:Array Oper} {o:Oper} {a:Act} {K:Act→World→Prop} {Q:Exit→Act→World→Prop} {E:Prop} (hgd:Region.wanted o (yielded ops a.tmps)=true) (f:Nat) (x y:Operand) (ts:Array TypeId)
  (ho:o.op = .call { callee := .value (.func f),args := #[x,y],argTypes:=ts }) (eg:∀ args w,(callFunc f args).run P w = .ok (.enter f args) w) (v u:Value) (hx:a.eval x=v) (hy:a.eval y=u) {R:Ending→World→Prop} (hc:Calls P f #[v,u] w R) (h:∀ e w',R e w'→∃ u,e = .returned u∧K (a.put o.dst u) w') :
  if Region.wanted o (yielded ops a.tmps)=true then Oper.wp P o a w K Q else E:=by
 rw [if_pos hgd]
 unfold Oper.wp
 have he:(execOp a.eval o).run P w = .ok (.enter f #[v,u]) w:=by
  have hf:a.eval (.func f) = .func (.func f) #[] #[]:=rfl
  generalize a.eval=ρ at hf hx hy ⊢
  simp [execOp,ho,resolve,invoke,Deferred.ofValue,hf,hx,hy,eg]
 rw [he,Oper.upon_enter]
 refine hc.mono ?_
 rintro e w' hr
 obtain ⟨u,rfl,hk⟩:=h e w' hr
 exact hk
theorem a6t {tmps:Array Value} {w:World} {g:Nat} {x y:Value} (hp:tmps.getD 4 undef = .pointer (some ⟨g,0,none⟩)) (hg:w.heap[g]?=some (.cells #[x,y] 37 (0,0))) :
  (results Tryz.f14 tmps).run Tryz.prog w = .ok (.agg #[x,y]) w:=by
 have hp':tmps[4]?.getD undef = .pointer (some ⟨g,0,none⟩):=by simpa using hp
 simp [results,hp',asAddr,run_loadVar_row w g _ 37 #[x,y] (0,0) _ hg Tryz.underlying37 rfl G9]
set_option maxRecDepth 100000 in
set_option maxHeartbeats 4000000 in
theorem a8d (W:World) (L:List Bd) (t:Tm) (hl:64<L.length) (hl2:L.length≤1000000000) (hb:a2B L) (hr:t.rng) (hok:t.ok):AFun Tryz.prog W 14 [.lst (L.map Bd.cv),t.cw] (.val (o5 (t9 L) t).cw):=by
 refine ⟨r9 Tryz.func14 rfl rfl,.inl rfl,rfl,fun U w vs _ hv=>?_⟩
 obtain ⟨sv,vs1,rfl,hv1,tv,vs2,rfl,hv2,hv3⟩:=hv
 have hv3:vs2=[]:=hv3
 subst hv3
 obtain ⟨ao,n,cap,e1,e2,_⟩:=d8.1 hv1
 subst e1
 rw [List.length_map] at e2
 obtain ⟨xs,e3,hx3⟩:=A5.1 hv2
 obtain ⟨u1,u2,rfl⟩:∃ u1 u2,xs=[u1,u2]:=by
  have h3:xs.length=2:=(s8.2 hx3).len
  match xs,h3 with
  | [u1,u2],_=>exact ⟨u1,u2,rfl⟩
 subst e3
 obtain ⟨g1,ta,tm,tc,g2⟩:=a3B hv2
 subst g1;subst g2
 have hv1':VRep U w (.lst (L.map Bd.cv)) (.slice ao L.length cap):=by rw [←e2];exact hv1
 have HImg:Hid (∀ V:World,Below w.heap.size w V→w.heap.size+2≤V.heap.size→Calls Tryz.prog 33 #[.slice ao n cap] V fun e W'=>∃ b g,e = .returned (.func (.func 53) #[] #[.pointer (some ⟨b,0,none⟩)])∧a7N b g ((a2y L L.length).map imR) (fun b o=>(U b o∧b<w.heap.size)∨w.heap.size+2≤b) W'∧Below V.heap.size V W'):=fun V hV hV2 =>
  Calls.mono (callsIn_wide.1 (b1i (R:=fun b o=>U b o∧b<w.heap.size) L e2 (hv1'.keep fun b o u hu hc=>⟨⟨hu,World.block_lt_of_cell? w _ hc⟩,by
   rw [World.cell?_of_block (w:=w) (hV.block b (World.block_lt_of_cell? w _ hc))];exact hc⟩) (by omega) (by omega))) fun e W' ⟨b,g,k1,⟨k2,es,ck,k3,k4⟩,k5⟩=>⟨b,g,k1,⟨k2,es,ck,k3,k4.keep fun b o u hu hc=>⟨hu.imp id fun h=>by omega,hc⟩⟩,k5⟩
 have HRep:Hid (∀ (V:World) (b g:Nat),Below w.heap.size w V→w.heap.size+2≤V.heap.size→a7N b g ((a2y L L.length).map imR) (fun b o=>(U b o∧b<w.heap.size)∨w.heap.size+2≤b) V→Calls Tryz.prog 32 #[.agg #[.int .i64 t.f,.slice ta tm tc],.func (.func 53) #[] #[.pointer (some ⟨b,0,none⟩)]] V fun e W'=>∃ a m c,e = .returned (.agg #[.int .i64 (o5 (t9 L) t).f,.slice a m c])∧VRep (fun b o=>(U b o∧b<w.heap.size)∨w.heap.size+2≤b) W' (o5 (t9 L) t).cw (.agg #[.int .i64 (o5 (t9 L) t).f,.slice a m c])∧Below V.heap.size V W'):=fun V b g hV hV2 hq=>by
  have hI:∀ v,0≤v→v≤9223372036854775807→a6c Tryz.prog (a7N b g ((a2y L L.length).map imR)) (.fn 53 0 [.sc (.pointer (some ⟨b,0,none⟩))]) [.i v] (.val (t9 L v).cw)∧(t9 L v).rng∧(t9 L v).size≤90000000000:=fun v h1 h2=>by
   refine ⟨⟨_,_,_,rfl,?_⟩,a2Y hb h1 h2⟩
   have h3:=b3I b g (a2y L L.length) v h1 h2
   rw [show t9 (a2y L L.length) v=t9 L v by unfold t9;rw [b1D]] at h3
   exact h3
  have h4:=(a5b (a2t b g _) _ (t9 L) hI t hr hok).2.2.2 (fun b o=>(U b o∧b<w.heap.size)∨w.heap.size+2≤b) V [.agg #[.int .i64 t.f,.slice ta tm tc],.func (.func 53) #[] #[.pointer (some ⟨b,0,none⟩)]] hq ⟨_,_,rfl,hv2.keep fun b o u hu hc=>⟨.inl ⟨hu,World.block_lt_of_cell? w _ hc⟩,by
   rw [World.cell?_of_block (w:=w) (hV.block b (World.block_lt_of_cell? w _ hc))];exact hc⟩,_,_,rfl,P9.2 ⟨[],[.pointer (some ⟨b,0,none⟩)],rfl,rfl,⟨[_],[],rfl,t7.2 ⟨rfl,rfl⟩,rfl⟩,fun c hc=>by simp at hc;subst hc;simp [CV.sc]⟩,rfl⟩
  refine Calls.mono h4 ?_
  rintro e W' ⟨v,rfl,hR,hB⟩
  have hR:VRep (fun b o=>((U b o∧b<w.heap.size)∨w.heap.size+2≤b)∨V.heap.size≤b) W' (o5 (t9 L) t).cw v:=hR
  have hR:=hR.keep (V:=fun b o=>(U b o∧b<w.heap.size)∨w.heap.size+2≤b) (w':=W') fun b o u hu hc=>⟨hu.elim id fun h => .inr (by omega),hc⟩
  obtain ⟨xs,e3,hx3⟩:=A5.1 hR
  obtain ⟨u1,u2,rfl⟩:∃ u1 u2,xs=[u1,u2]:=by
   have h3:xs.length=2:=(s8.2 hx3).len
   match xs,h3 with
   | [u1,u2],_=>exact ⟨u1,u2,rfl⟩
  subst e3
  obtain ⟨g1,a,m,c,g2⟩:=a3B hR
  subst g1;subst g2
  exact ⟨a,m,c,rfl,hR,hB⟩
 clear hv1 hv1' hv2 hx3 hb hr hok hl hl2 e2
 show Calls Tryz.prog 14 #[.slice ao n cap,.agg #[.int .i64 t.f,.slice ta tm tc]] w _
 refine calls_of_wp Tryz.func14 rfl ?_
 simp only [Tryz.ntmps14,List.size_toArray,List.length_cons,List.length_nil,Nat.reduceAdd,Nat.reduceSub,Array.replicate_succ,Array.replicate_zero,List.push_toArray,List.append_toArray,List.nil_append,List.cons_append]
 go_wp2_with fail
 obtain ⟨w2,hw2⟩:∃ w2,w2=(w.alloc (.cells #[.int .i64 t.f,.slice ta tm tc] 37)).alloc (.cells #[.int .i64 0,.slice none 0 0] 37):=⟨_,rfl⟩
 have hsz:w2.heap.size=w.heap.size+2:=by rw [hw2];simp
 have hb2:Below w.heap.size w w2:=by rw [hw2];exact bA (bA (bW _) _) _
 have y1:w2.heap[w.heap.size]?=some (.cells #[.int .i64 t.f,.slice ta tm tc] 37 (0,0)):=by
  rw [hw2,Below.heap_alloc _ _ _ (by simp)];exact World.alloc_heap_new _ _
 have y2:w2.heap[w.heap.size+1]?=some (.cells #[.int .i64 0,.slice none 0 0] 37 (0,0)):=by
  rw [hw2,show w.heap.size+1=(w.alloc (.cells #[.int .i64 t.f,.slice ta tm tc] 37)).heap.size by simp];exact World.alloc_heap_new _ _
 have hs3:w2.drew.heap.size=w.heap.size+2:=hsz
 have hb3:Below w.heap.size w w2.drew:=hb2.drew
 have HB3:=K3 hb3
 have HY1:=K3 (show w2.drew.heap[w.heap.size]?=_ from y1)
 have HY2:=K3 (show w2.drew.heap[w.heap.size+1]?=_ from y2)
 obtain ⟨d1,d2⟩:=b2c (show w2.drew.heap[w.heap.size]?=_ from y1)
 rw [←hw2]
 clear hw2 hb2 hb3 y1 y2
 go_region_law (first
  | (refine b1M _ rfl 33 _ _ rfl (enters_of Tryz.func33 (by kernel_rfl) rfl) (.slice ao n cap) rfl (HImg.out _ HB3.out (by omega)) ?_;rintro e w5 ⟨b,g,rfl,hq5,hb5⟩;refine ⟨_,rfl,?_⟩;have hB5:Below w.heap.size w w5:=HB3.out.trans (hb5.mono (by omega));have hs5:=hb5.size;have x2:=(hb5.block _ (by omega)).trans HY2.out;obtain ⟨f1,f2⟩:=b2c ((hb5.block _ (by omega)).trans HY1.out))
  | (refine a8b _ rfl 32 _ _ _ rfl (enters_of Tryz.func32 (by kernel_rfl) rfl) (.agg #[.int .i64 t.f,.slice ta tm tc]) (.func (.func 53) #[] #[.pointer (some ⟨b,0,none⟩)]) rfl rfl (HRep.out _ b g hB5 (by omega) hq5) ?_;rintro e w6 ⟨a6,m6,c6,rfl,hR6,hb6⟩;refine ⟨_,rfl,?_⟩;have hB6:Below w.heap.size w w6:=hB5.trans (hb6.mono (by omega));have z6:=(hb6.block _ (by omega)).trans x2;obtain ⟨f3,f4⟩:=b2c z6;obtain ⟨f5,f6⟩:=I4 z6))
 all_goals go_wp2_with fail
 all_goals refine bodyPost_ret (a6t (g:=w.heap.size+1) rfl (E1 z6 _ _)) rfl ?_
 all_goals refine ⟨_,rfl,?_,(hB6.setCell (p:=⟨w.heap.size+1,0,none⟩) (by show w.heap.size≤w.heap.size+1;omega) _).setCell (p:=⟨w.heap.size+1,1,none⟩) (by show w.heap.size≤w.heap.size+1;omega) _⟩
 all_goals refine VRep.keep (fun b' o u hu hc=>⟨hu.elim (fun h => .inl h.1) (fun h => .inr (by omega)),?_⟩) hR6
 all_goals have hne:b'≠w.heap.size+1:=by rcases hu with h | h<;>omega
 all_goals rw [World.cell?_of_block (w:=w6) (by rw [Below.heap_setCell _ _ _ _ hne,Below.heap_setCell _ _ _ _ hne])]
 all_goals exact hc
theorem a8w (W:World) (L:List Bd) (t:Tm) (hl:L.length≤1000000000) (hb:a2B L) (hr:t.rng) (hok:t.ok):AFun Tryz.prog W 14 [.lst (L.map Bd.cv),t.cw] (.val (o5 (t9 L) t).cw):=by
 by_cases h:L.length≤64
 ·exact a4F W L t h hb hr hok
 ·exact a8d W L t (by omega) hl hb hr hok
end Go.Proofs.YtekboofbedakcaaGreat
namespace Go.Proofs.YtekboofbedakcaaGreat
open Go.RowKit
set_option linter.unusedVariables false
set_option linter.unusedSimpArgs false
set_option maxRecDepth 100000
def D5 (c:List Lt):List Tm:=c.flatMap fun l=>[l.a,l.b]
theorem b1P (c:List Lt) (l:Lt):D5 (c++[l])=D5 c++[l.a,l.b]:=by simp [D5]
theorem a7v (c:List Lt):(D5 c).length=2*c.length:=by
 induction c with
 | nil=>rfl
 | cons l c ih =>
  have:D5 (l::c)=l.a::l.b::D5 c:=rfl
  rw [this]
  simp only [List.length_cons,ih]
  omega
theorem b0R (c:List Lt) (k:Nat):(D5 (c.take k)).length≤2*c.length:=by
 rw [a7v,List.length_take];omega
theorem a3i (W:World) (c:List Lt) (hn:c.length≤1000000):AFun Tryz.prog W 67 [.lst (c.map Lt.cv)] (.val (Tm.cw ⟨0,D5 c⟩)):=by
 have hsz:=Lt.size_all c
 refine a8 (rs:=[Tm.cw ⟨0,D5 c⟩]) Tryz.func67 Tryz.ntmps67 rfl rfl rfl rfl ?_
 intro w U hW
 refine aS (aR ?_)
 refine nc zw ?_
 refine aS (aR ?_)
 refine nc zd ?_
 refine aS (aS (aR ?_))
 refine nc zj (nc zp (nc zj ?_))
 refine aB (b9 c.length (fun k=>[(2,.bp 2 0 []),(100002,⟨5,.row [.i 0,.lst []],1,0,[1]⟩),(3,.own (.lst ((D5 (c.take k)).map Tm.cv)) 200018),(200018,.tok 37 2),(6,.val (.lst (c.map Lt.cv))),(7,.val (.i (c.map Lt.cv).length)),(8,.val (.i k))])
  ((E4 3 200018 37 2 rfl rfl rfl rfl rfl rfl rfl).trans (a7 ⟨rfl,rfl,rfl,rfl,rfl,rfl,rfl,trivial⟩)) ?_)
 intro k hk
 refine aS (aR ?_)
 refine nc zh ?_
 refine aS (aC rfl (fun hlt=>?_) (fun hlt=>?_))
 ·have hkl:k<c.length:=by simpa using hlt
  obtain ⟨x,hx⟩:∃ x,c[k]?=some x:=⟨c[k],List.getElem?_eq_getElem hkl⟩
  have hx':=Lt.map_at hx
  have hlen:=b0R c k
  have hsz2:∀ y∈(D5 (c.take k)).map Tm.cv,y.size=2:=Tm.size_all _
  have hl3:((D5 (c.take k)).map Tm.cv).length≤2*c.length:=by rw [List.length_map];exact hlen
  refine aK ?_
  refine aS (aB (aS (aR ?_)))
  refine nc (zz (j:=k) (H:=hx') (hz:=hsz)) (nc zA (nc zw (nc zy ?_)))
  refine aR ?_
  refine nc zj (nc ze (nc zg (nc ze (nc zg (nc zI (nc zJ (nc zd ?_)))))))
  refine aR ?_
  refine nc zu (nc zj ?_)
  refine ⟨hkl,Wk.trans (a7 (s':=[(2,.bp 2 0 []),(100002,⟨5,.row [.i 0,.lst []],1,0,[1]⟩),(3,.own (.lst ((D5 (c.take (k+1))).map Tm.cv)) 300018),(300018,.tok 37 2),(6,.val (.lst (c.map Lt.cv))),(7,.val (.i (c.map Lt.cv).length)),(8,.val (.i ((k+1:Nat):Int)))]) ⟨rfl,rfl,?_,rfl,rfl,rfl,rfl,trivial⟩) (v9 300018 200018 rfl rfl rfl rfl)⟩
  rw [List.take_add_one,hx]
  simp only [Option.toList_some,b1P,List.map_append,List.map_cons,List.map_nil,Tm.cv_eq]
  rfl
 ·have hkl:k=c.length:=by
   have:¬ k<c.length:=by simpa using hlt
   omega
  subst hkl
  rw [List.take_length]
  refine aE ?_
  refine aS (aR ?_)
  refine nc zj (nc zx (nc zy ?_))
  exact aT (And.intro (.inr rfl) rfl)
theorem a9P:∀ {c:List Lt} {k:Nat} {l:Lt},c[k]?=some l→(D5 c)[2*k]?=some l.a∧(D5 c)[2*k+1]?=some l.b
 | [],k,l,h=>by simp at h
 | x::c,0,l,h=>by
  simp at h
  subst h
  exact ⟨rfl,rfl⟩
 | x::c,k+1,l,h=>by
  have:=a9P (c:=c) (k:=k) (l:=l) (by simpa using h)
  have e:D5 (x::c)=x.a::x.b::D5 c:=rfl
  rw [e,show 2*(k+1)=2*k+1+1 by omega]
  simpa using this
theorem b0J (W:World) (c d:List Lt) (f:Int) (hn:c.length≤1000000) (hcd:d.map Lt.neg=c.map Lt.neg):AFun Tryz.prog W 66 [.lst (c.map Lt.cv),Tm.cw ⟨f,D5 d⟩] (.val (.lst (d.map Lt.cv))):=by
 have hsz:=Lt.size_all c
 have hszT:=Tm.size_all (D5 d)
 have hlen:d.length=c.length:=by have:=congrArg List.length hcd;simpa using this
 refine a8 (rs:=[.lst (d.map Lt.cv)]) Tryz.func66 Tryz.ntmps66 rfl rfl rfl rfl ?_
 intro w U hW
 refine aS (aR ?_)
 refine nc zb (nc zd ?_)
 refine aS (aR ?_)
 refine nc zd ?_
 refine aS (aS (aR ?_))
 refine nc zj (nc zp (nc zj ?_))
 refine aB (b9 c.length (fun k=>[(3,.bp 3 0 []),(100003,.bx (Tm.cw ⟨f,D5 d⟩)),(5,.own (.lst ((d.take k).map Lt.cv)) 200033),(200033,.tok 54 5),(8,.val (.lst (c.map Lt.cv))),(9,.val (.i (c.map Lt.cv).length)),(10,.val (.i k))])
  ((E4 5 200033 54 5 rfl rfl rfl rfl rfl rfl rfl).trans (a7 ⟨rfl,rfl,rfl,rfl,rfl,rfl,rfl,trivial⟩)) ?_)
 intro k hk
 refine aS (aR ?_)
 refine nc zh ?_
 refine aS (aC rfl (fun hlt=>?_) (fun hlt=>?_))
 ·have hkl:k<c.length:=by simpa using hlt
  obtain ⟨x,hx⟩:∃ x,c[k]?=some x:=⟨c[k],List.getElem?_eq_getElem hkl⟩
  obtain ⟨y,hy⟩:∃ y,d[k]?=some y:=⟨d[k],List.getElem?_eq_getElem (by omega)⟩
  have hneg:x.neg=y.neg:=by
   have:=congrArg (fun l=>l[k]?) hcd
   simp only [List.getElem?_map,hx,hy,Option.map_some] at this
   injection this with this
   exact this.symm
  obtain ⟨n1,a1,b1⟩:=x
  simp only at hneg
  subst hneg
  have hx':=Lt.map_at hx
  obtain ⟨ha,hb⟩:=a9P hy
  have ha':=Tm.map_at ha
  have hb':=Tm.map_at hb
  have hsz2:∀ z∈(d.take k).map Lt.cv,z.size=5:=Lt.size_all _
  have hl3:((d.take k).map Lt.cv).length≤1000000:=by rw [List.length_map,List.length_take];omega
  refine aK ?_
  refine aS (aB (aS (aR ?_)))
  refine nc zj (nc (zz (j:=k) (H:=hx') (hz:=hsz)) (nc zA (nc zw (nc zd (nc zy ?_)))))
  refine aD (by kernel_rfl) (by kernel_rfl) ?_
  refine nc zj (nc ze (nc zg (nc ze (nc zg (nc zj (nc zbB (nc (zz (j:=(2*k)) (H:=ha') (hz:=hszT)) (nc zA (nc ze (nc zg (nc zj (nc zbB (nc zu (nc (zz (j:=(2*k+1)) (H:=hb') (hz:=hszT)) (nc zA (nc zx (nc zI (nc zJ (nc zd ?_)))))))))))))))))))
  refine ⟨by kernel_rfl,?_⟩
  refine aR ?_
  refine nc zu (nc zj ?_)
  refine ⟨hkl,Wk.trans (a7 (s':=[(3,.bp 3 0 []),(100003,.bx (Tm.cw ⟨f,D5 d⟩)),(5,.own (.lst ((d.take (k+1)).map Lt.cv)) 300033),(300033,.tok 54 5),(8,.val (.lst (c.map Lt.cv))),(9,.val (.i (c.map Lt.cv).length)),(10,.val (.i ((k+1:Nat):Int)))]) ⟨rfl,rfl,?_,rfl,rfl,rfl,rfl,trivial⟩) (v9 300033 200033 rfl rfl rfl rfl)⟩
  rw [List.take_add_one,hy]
  simp only [Option.toList_some,List.map_append,List.map_cons,List.map_nil]
  rfl
 ·have hkl:k=d.length:=by
   have:¬ k<c.length:=by simpa using hlt
   omega
  subst hkl
  rw [List.take_length]
  refine aE ?_
  refine aS (aR ?_)
  refine nc zj (nc zd ?_)
  exact aT (And.intro (.inr rfl) rfl)
def Lt.rep (img:Int→Tm) (l:Lt):Lt:=⟨l.neg,o5 img l.a,o5 img l.b⟩
theorem a7A (img:Int→Tm):∀ c:List Lt,(D5 c).map (o5 img)=D5 (c.map (Lt.rep img))
 | []=>rfl
 | l::c=>by
  show o5 img l.a::o5 img l.b::(D5 c).map (o5 img)=_
  rw [a7A img c]
  rfl
theorem b1T (img:Int→Tm) (c:List Lt):o5 img ⟨0,D5 c⟩=⟨0,D5 (c.map (Lt.rep img))⟩:=by
 rw [k8 (show ¬ (0:Int)<0 by decide),a7A]
theorem b5U (img:Int→Tm) (c:List Lt):(c.map (Lt.rep img)).map Lt.neg=c.map Lt.neg:=by
 rw [List.map_map];rfl
theorem a2x (W:World) (L:List Bd) (c:List Lt) (hn:c.length≤1000000) (hl:L.length≤1000000000) (hb:a2B L) (hr:(⟨0,D5 c⟩:Tm).rng) (hok:(⟨0,D5 c⟩:Tm).ok):AFun Tryz.prog W 36 [.lst (L.map Bd.cv),.lst (c.map Lt.cv)] (.val (.lst ((c.map (Lt.rep (t9 L))).map Lt.cv))):=by
 have h2:=fun w=>a8w w L ⟨0,D5 c⟩ hl hb hr hok
 rw [b1T] at h2
 refine a8 (rs:=[.lst ((c.map (Lt.rep (t9 L))).map Lt.cv)]) Tryz.func36 Tryz.ntmps36 rfl rfl rfl rfl ?_
 intro w U hW
 refine aS (aR ?_)
 refine nc zd ?_
 refine aS (aR ?_)
 refine nc zj (nc zj (nc zj (nc (zn (z:=a3i w c hn)) (nc (zn (z:=h2 w)) (nc (zn (z:=b0J w c _ 0 hn (b5U _ c))) (nc zd ?_))))))
 exact aT (And.intro (.inr rfl) rfl)
end Go.Proofs.YtekboofbedakcaaGreat
namespace Go.Proofs.YtekboofbedakcaaGreat
open Go.RowKit
set_option linter.unusedVariables false
set_option linter.unusedSimpArgs false
section
variable {α β:Type}
def kDn (p:α→Bool) (l:List α):Nat→Nat
 | 0=>0
 | k+1=>match l[k]? with
  | some y=>if p y=true then kDn p l k else k+1
  | none=>k+1
def a4b (lt:α→α→Bool) (l:List α) (x:α):List α:=l.take (kDn (lt x) l l.length)++x::l.drop (kDn (lt x) l l.length)
def L3 (lt:α→α→Bool) (c:List α):List α:=c.foldl (a4b lt) []
theorem a1Z (p:α→Bool) (l:List α):∀ k,kDn p l k≤k
 | 0=>Nat.le_refl _
 | k+1=>by
  unfold kDn
  split
  ·split
   ·have:=a1Z p l k;omega
   ·exact Nat.le_refl _
  ·exact Nat.le_refl _
theorem b0v (p:α→Bool) (l m:List α):∀ k,k≤l.length→kDn p (l++m) k=kDn p l k
 | 0,_=>rfl
 | k+1,h=>by
  unfold kDn
  rw [List.getElem?_append_left (by omega),b0v p l m k (by omega)]
theorem a9Q {p:α→Bool} {l:List α} {y:α} (h:p y=true):kDn p (l++[y]) (l++[y]).length=kDn p l l.length:=by
 rw [List.length_append,List.length_singleton]
 show kDn p (l++[y]) (l.length+1)=_
 unfold kDn
 rw [List.getElem?_append_right (Nat.le_refl _),Nat.sub_self]
 simp only [List.getElem?_cons_zero,h,if_true]
 rw [b0v p l [y] l.length (Nat.le_refl _)]
 cases l.length<;>rfl
theorem b4j {p:α→Bool} {l:List α} {y:α} (h:p y=false):kDn p (l++[y]) (l++[y]).length=(l++[y]).length:=by
 rw [List.length_append,List.length_singleton]
 show kDn p (l++[y]) (l.length+1)=_
 unfold kDn
 rw [List.getElem?_append_right (Nat.le_refl _),Nat.sub_self]
 simp [h]
theorem J9 {Q:List α→Prop} (h0:Q []) (h1:∀ l x,Q l→Q (l++[x])):∀ l,Q l:=by
 intro l
 have:∀ m:List α,Q m.reverse:=fun m=>by
  induction m with
  | nil=>exact h0
  | cons x m ih=>rw [List.reverse_cons];exact h1 _ _ ih
 have:=this l.reverse
 rwa [List.reverse_reverse] at this
theorem b3G (lt:α→α→Bool) (x:α):∀ (A R:List α),Q8 lt 0 A.length (A++x::R)=a4b lt A x++R:=by
 intro A
 induction A using J9 with
 | h0=>intro R;rfl
 | h1 A y ih =>
  intro R
  rw [List.length_append,List.length_singleton]
  have hx:(A++[y]++x::R)[A.length+1]?=some x:=by
   rw [List.getElem?_append_right (by simp)];simp
  have hy:(A++[y]++x::R)[A.length]?=some y:=by
   rw [List.append_assoc,List.getElem?_append_right (Nat.le_refl _)];simp
  cases h:lt x y with
  | true =>
   rw [a0l lt 0 hx hy (by omega) h]
   have e:((A++[y]++x::R).set (A.length+1) y).set A.length x=A++x::(y::R):=by
    rw [List.append_assoc,List.set_append_right _ _ (by omega),List.set_append_right _ _ (Nat.le_refl _)]
    rw [show A.length+1-A.length=1 by omega,Nat.sub_self]
    rfl
   rw [e,ih]
   unfold a4b
   rw [a9Q h,List.take_append_of_le_length (a1Z _ _ _),List.drop_append_of_le_length (a1Z _ _ _)]
   simp
  | false =>
   rw [a2z lt 0 hx hy h]
   unfold a4b
   rw [b4j h,List.take_length,List.drop_length]
   simp
theorem b2y (lt:α→α→Bool) (l:List α) (x:α):(a4b lt l x).length=l.length+1:=by
 unfold a4b
 have:=a1Z (lt x) l l.length
 rw [List.length_append,List.length_cons,List.length_take,List.length_drop]
 omega
theorem a1c (lt:α→α→Bool):∀ (n:Nat) (A B:List α),n≤B.length→p9 lt 0 n A.length (A++B)=(B.take n).foldl (a4b lt) A++B.drop n
 | 0,A,B,_=>by simp [p9]
 | n+1,A,x::B,h=>by
  rw [p9,b3G]
  have:=a1c lt n (a4b lt A x) B (by simpa using h)
  rw [b2y] at this
  rw [this]
  simp
 | n+1,A,[],h=>by simp at h
theorem a2U (lt:α→α→Bool) (L:List α):p9 lt 0 (L.length-1) 1 L=L3 lt L:=by
 cases L with
 | nil=>rfl
 | cons x L =>
  have:=a1c lt L.length [x] L (Nat.le_refl _)
  simp only [List.length_singleton,List.singleton_append,List.take_length,List.drop_length,List.append_nil] at this
  rw [List.length_cons,Nat.add_sub_cancel,this]
  rfl
theorem b1R (lt:α→α→Bool) (l:List α) (x:α):(a4b lt l x).Perm (x::l):=by
 unfold a4b
 refine List.perm_middle.trans ?_
 rw [List.take_append_drop]
theorem T4 (lt:α→α→Bool) (c:List α) (x:α):L3 lt (c++[x])=a4b lt (L3 lt c) x:=by
 unfold L3
 rw [List.foldl_append]
 rfl
theorem A7 (lt:α→α→Bool) (c:List α):(L3 lt c).Perm c:=by
 induction c using J9 with
 | h0=>exact List.Perm.refl _
 | h1 c x ih =>
  rw [T4]
  refine (b1R lt _ x).trans ?_
  exact ((List.Perm.cons x ih).trans (List.perm_append_comm (l₁:=[x]) (l₂:=c)))
theorem a9C {lt1:α→Bool} {lt2:β→Bool} (g:α→β) (l:List α) (h:∀ y∈l,lt1 y=lt2 (g y)):∀ k,kDn lt1 l k=kDn lt2 (l.map g) k
 | 0=>rfl
 | k+1=>by
  unfold kDn
  rw [List.getElem?_map]
  cases hk:l[k]? with
  | none=>rfl
  | some y =>
   simp only [Option.map_some]
   rw [h y (List.mem_of_getElem? hk),a9C g l h k]
theorem b3h {lt1:α→α→Bool} {lt2:β→β→Bool} (g:α→β) (c:List α) (h:∀ x∈c,∀ y∈c,lt1 x y=lt2 (g x) (g y)):(L3 lt1 c).map g=L3 lt2 (c.map g):=by
 induction c using J9 with
 | h0=>rfl
 | h1 c x ih =>
  have ih:=ih fun x hx y hy=>h x (List.mem_append_left _ hx) y (List.mem_append_left _ hy)
  rw [T4,List.map_append,List.map_singleton,T4,←ih]
  unfold a4b
  have hk:=a9C (lt1:=lt1 x) (lt2:=lt2 (g x)) g (L3 lt1 c) (fun y hy=>h x (by simp) y (List.mem_append_left _ ((A7 lt1 c).mem_iff.1 hy))) (L3 lt1 c).length
  rw [List.length_map,←hk,List.map_append,List.map_cons,List.map_take,List.map_drop]
theorem b0U (p:α→Bool) (l:List α):(∀ y∈l.drop (kDn p l l.length),p y=true)∧∀ y,(l.take (kDn p l l.length)).getLast?=some y→p y=false:=by
 induction l using J9 with
 | h0=>exact ⟨by simp [kDn],by simp [kDn]⟩
 | h1 l y ih =>
  cases h:p y with
  | true =>
   rw [a9Q h,List.drop_append_of_le_length (a1Z _ _ _),List.take_append_of_le_length (a1Z _ _ _)]
   refine ⟨fun z hz=>?_,ih.2⟩
   rcases List.mem_append.1 hz with hz | hz
   ·exact ih.1 z hz
   ·rw [List.mem_singleton.1 hz];exact h
  | false =>
   rw [b4j h,List.take_length,List.drop_length]
   refine ⟨by simp,fun z hz=>?_⟩
   rw [List.getLast?_concat] at hz
   injection hz with hz
   rw [←hz];exact h
theorem X1 {lt:α→α→Bool} {R:α→α→Prop} (c:List α) (hlt:∀ x y,lt x y=true→R x y) (htr:∀ x y z,R x y→R y z→R x z) (hin:c.Pairwise fun x y=>lt y x=false→R x y):(L3 lt c).Pairwise R:=by
 induction c using J9 with
 | h0=>exact List.Pairwise.nil
 | h1 c x ih =>
  rw [List.pairwise_append] at hin
  have ih:=ih hin.1
  have hx:∀ y∈L3 lt c,lt x y=false→R y x:=fun y hy=>hin.2.2 y ((A7 lt c).mem_iff.1 hy) x (by simp)
  rw [T4]
  obtain ⟨k1,k2⟩:=b0U (lt x) (L3 lt c)
  unfold a4b
  generalize kDn (lt x) (L3 lt c) (L3 lt c).length=k at k1 k2
  have hall:=ih
  rw [←List.take_append_drop k (L3 lt c),List.pairwise_append] at hall
  obtain ⟨p1,p2,p3⟩:=hall
  have hbe:∀ y∈(L3 lt c).take k,R y x:=by
   intro y hy
   cases hl:((L3 lt c).take k).getLast? with
   | none =>
    rw [List.getLast?_eq_none_iff] at hl
    rw [hl] at hy;cases hy
   | some z =>
    have hz:R z x:=hx z (List.mem_of_mem_take (List.mem_of_getLast? hl)) (k2 z hl)
    obtain ⟨ys,e⟩:=List.getLast?_eq_some_iff.1 hl
    rw [e] at hy p1
    rw [List.pairwise_append] at p1
    rcases List.mem_append.1 hy with hy | hy
    ·exact htr y z x (p1.2.2 y hy z (by simp)) hz
    ·rw [List.mem_singleton.1 hy];exact hz
  rw [List.pairwise_append]
  refine ⟨p1,?_,?_⟩
  ·rw [List.pairwise_cons]
   exact ⟨fun y hy=>hlt x y (k1 y hy),p2⟩
  ·intro a ha b hb
   rcases List.mem_cons.1 hb with rfl | hb
   ·exact hbe a ha
   ·exact p3 a ha b hb
def G8 (q:α→α→Bool) (L:List α):Nat→List α
 | 0=>[]
 | 1=>L.take 1
 | m+2=>match L[m+1]?,L[m]? with
  | some x,some y=>if q x y=true then G8 q L (m+1) else G8 q L (m+1)++[x]
  | _,_=>G8 q L (m+1)
theorem a3L {q:α→α→Bool} {L:List α} {m:Nat} {x y:α} (hx:L[m+1]?=some x) (hy:L[m]?=some y) (h:q x y=true):G8 q L (m+2)=G8 q L (m+1):=by
 rw [G8,hx,hy];simp [h]
theorem a5M {q:α→α→Bool} {L:List α} {m:Nat} {x y:α} (hx:L[m+1]?=some x) (hy:L[m]?=some y) (h:q x y=false):G8 q L (m+2)=G8 q L (m+1)++[x]:=by
 rw [G8,hx,hy];simp [h]
theorem b2l {q:α→α→Bool} {L:List α}:G8 q L 1=L.take 1:=by rw [G8]
theorem a3x {q:α→α→Bool} {L:List α}:∀ m,(G8 q L m).Sublist (L.take m)
 | 0=>by simp [G8]
 | 1=>by rw [G8];exact List.Sublist.refl _
 | m+2=>by
  have ih:=a3x (q:=q) (L:=L) (m+1)
  have h2:(L.take (m+1)).Sublist (L.take (m+2)):=List.take_sublist_take_left (by omega)
  rw [G8]
  split
  ·rename_i x y hx hy
   split
   ·exact ih.trans h2
   ·rw [List.take_add_one (i:=m+1),hx]
    exact ih.append (List.Sublist.refl _)
  ·exact ih.trans h2
theorem a7r {q:α→α→Bool} {L:List α} {x:α}:∀ m,m≤L.length→(x∈G8 q L m↔∃ i,i<m∧L[i]?=some x∧(i=0∨∃ y,L[i-1]?=some y∧q x y=false))
 | 0,_=>by simp [G8]
 | 1,h=>by
  rw [G8]
  cases L with
  | nil=>simp at h
  | cons z L =>
   simp only [List.take_succ_cons,List.take_zero,List.mem_singleton]
   constructor
   ·rintro rfl
    exact ⟨0,by omega,rfl,.inl rfl⟩
   ·rintro ⟨i,hi,h1,_⟩
    rw [show i=0 by omega] at h1
    simpa using h1.symm
 | m+2,h=>by
  have ih:=a7r (q:=q) (L:=L) (x:=x) (m+1) (by omega)
  obtain ⟨a,ha⟩:∃ a,L[m+1]?=some a:=⟨_,List.getElem?_eq_getElem (by omega)⟩
  obtain ⟨b,hb⟩:∃ b,L[m]?=some b:=⟨_,List.getElem?_eq_getElem (by omega)⟩
  cases hq:q a b with
  | true =>
   rw [a3L ha hb hq,ih]
   constructor
   ·rintro ⟨i,hi,r⟩
    exact ⟨i,by omega,r⟩
   ·rintro ⟨i,hi,h1,h2⟩
    rcases Nat.lt_or_ge i (m+1) with hlt | hge
    ·exact ⟨i,hlt,h1,h2⟩
    ·have hi:i=m+1:=by omega
     subst hi
     rw [ha] at h1
     injection h1 with h1
     rcases h2 with h2 | ⟨y,hy,h2⟩
     ·omega
     ·rw [show m+1-1=m by omega,hb] at hy
      injection hy with hy
      rw [←h1,←hy,hq] at h2
      cases h2
  | false =>
   rw [a5M ha hb hq,List.mem_append,ih,List.mem_singleton]
   constructor
   ·rintro (⟨i,hi,r⟩ | rfl)
    ·exact ⟨i,by omega,r⟩
    ·exact ⟨m+1,by omega,ha,.inr ⟨b,hb,hq⟩⟩
   ·rintro ⟨i,hi,h1,h2⟩
    rcases Nat.lt_or_ge i (m+1) with hlt | hge
    ·exact .inl ⟨i,hlt,h1,h2⟩
    ·have hi:i=m+1:=by omega
     subst hi
     rw [ha] at h1
     injection h1 with h1
     exact .inr h1.symm
def a5K (q:α→α→Bool) (c:List α):List α:=c.foldl (fun out x=>if out.any (fun y=>q y x) then out else out++[x]) []
theorem a1d (q:α→α→Bool) (c:List α) (x:α):a5K q (c++[x])=if (a5K q c).any (fun y=>q y x) then a5K q c else a5K q c++[x]:=by
 unfold a5K
 rw [List.foldl_append]
 rfl
theorem b4t:∀ {A B:List Int},A.Pairwise (·< ·)→B.Pairwise (·< ·)→(∀ x,x∈A↔x∈B)→A=B
 | [],[],_,_,_=>rfl
 | [],y::B,_,_,h=>by have:=(h y).2 (by simp);cases this
 | x::A,[],_,_,h=>by have:=(h x).1 (by simp);cases this
 | x::A,y::B,hA,hB,h=>by
  rw [List.pairwise_cons] at hA hB
  have hxy:x=y:=by
   rcases List.mem_cons.1 ((h x).1 (by simp)) with e | e
   ·exact e
   ·rcases List.mem_cons.1 ((h y).2 (by simp)) with e2 | e2
    ·exact e2.symm
    ·have:=hA.1 y e2;have:=hB.1 x e;omega
  subst hxy
  congr 1
  refine b4t hA.2 hB.2 fun z=>⟨fun hz=>?_,fun hz=>?_⟩
  ·rcases List.mem_cons.1 ((h z).1 (List.mem_cons_of_mem _ hz)) with e | e
   ·have:=hA.1 z hz;omega
   ·exact e
  ·rcases List.mem_cons.1 ((h z).2 (List.mem_cons_of_mem _ hz)) with e | e
   ·have:=hB.1 z hz;omega
   ·exact e
end
def sgZ (b:Bool):Int:=if b then 1 else 0
def w7 (x y:Lt):Int:=if B3 (sgZ x.neg) (sgZ y.neg)≠0 then B3 (sgZ x.neg) (sgZ y.neg) else a0I x y
theorem b0I (x y:Lt):a0I x y=0↔x.a.strip=y.a.strip∧x.b.strip=y.b.strip:=by
 unfold a0I
 by_cases h:t6 x.a y.a=0
 ·rw [if_neg (by simpa using h),H7]
  exact ⟨fun e=>⟨(H7 _ _).1 h,e⟩,fun e=>e.2⟩
 ·rw [if_pos h]
  exact ⟨fun e=>absurd e h,fun e=>absurd ((H7 _ _).2 e.1) h⟩
theorem b1l (x y:Lt):a0I y x = - a0I x y:=by
 unfold a0I
 rw [a4B x.a y.a,a4B x.b y.b]
 by_cases h:t6 x.a y.a=0
 ·rw [if_neg (by omega),if_neg (by omega)]
 ·rw [if_pos (by omega),if_pos (by omega)]
theorem a8o (x y z:Lt):a3c (a0I x y) (a0I y z) (a0I x z):=by
 unfold a0I
 exact a0X (a2O _ _ _) (a2O _ _ _) (fun e=>a3e ((H7 _ _).1 e) _)
theorem b2J (a b c:Bool):a3c (B3 (sgZ a) (sgZ b)) (B3 (sgZ b) (sgZ c)) (B3 (sgZ a) (sgZ c)):=by
 unfold a3c
 cases a<;>cases b<;>cases c<;>decide
theorem b5E (a b:Bool):B3 (sgZ b) (sgZ a) = - B3 (sgZ a) (sgZ b):=by cases a<;>cases b<;>decide
theorem a2k (a b:Bool):B3 (sgZ a) (sgZ b)=0↔a=b:=by cases a<;>cases b<;>decide
theorem B2 (x y:Lt):w7 x y=0↔x.strip=y.strip:=by
 obtain ⟨n,a,b⟩:=x
 obtain ⟨m,c,d⟩:=y
 unfold w7 Lt.strip
 by_cases h:n=m
 ·subst h
  rw [if_neg (by simp [a2k]),b0I]
  simp
 ·rw [if_pos (by simp only [ne_eq,a2k];exact h)]
  simp only [a2k,Lt.mk.injEq]
  exact ⟨fun e=>absurd e h,fun e=>e.1⟩
theorem O6 (x y:Lt):w7 y x = - w7 x y:=by
 unfold w7
 rw [b5E x.neg y.neg,b1l x y]
 by_cases h:B3 (sgZ x.neg) (sgZ y.neg)=0
 ·rw [if_neg (by omega),if_neg (by omega)]
 ·rw [if_pos (by omega),if_pos (by omega)]
theorem a1z (x y z:Lt):a3c (w7 x y) (w7 y z) (w7 x z):=by
 unfold w7
 exact a0X (b2J _ _ _) (a8o _ _ _) (fun e=>by rw [(a2k _ _).1 e])
def j5 (c:List Lt) (m:Int):Lt:=(c[m.toNat]?).getD ⟨false,⟨0,[]⟩,⟨0,[]⟩⟩
theorem N9 {c:List Lt} {k:Nat} {x:Lt} (h:c[k]?=some x):j5 c k=x:=by
 unfold j5
 rw [Int.toNat_natCast,h];rfl
def ltI (c:List Lt) (m n:Int):Bool:=decide (w7 (j5 c m) (j5 c n)<0)
def a1T (c:List Lt) (m n:Int):Bool:=decide (w7 (j5 c m) (j5 c n)=0)
def S0 (c:List Lt):List Int:=L3 (ltI c) (a0P c.length)
def a3O (c:List Lt):List Int:=G8 (a1T c) (S0 c) (S0 c).length
def a8r (c:List Lt):List Int:=L3 (fun m n:Int=>decide (m<n)) (a3O c)
def wdL (c:List Lt):List Lt:=(a8r c).map (j5 c)
def RI (c:List Lt) (m n:Int):Prop:=w7 (j5 c m) (j5 c n)<0∨(w7 (j5 c m) (j5 c n)=0∧m<n)
theorem b3p (c:List Lt) (x y z:Int) (h1:RI c x y) (h2:RI c y z):RI c x z:=by
 have g:=a1z (j5 c x) (j5 c y) (j5 c z)
 unfold RI at *
 unfold a3c at g
 have g:=g (by omega) (by omega)
 by_cases e:w7 (j5 c x) (j5 c z)=0
 ·have:=g.2 e
  right
  omega
 ·left;omega
theorem a7t (n:Nat):(a0P n).Pairwise (·< ·):=by
 unfold a0P
 rw [List.pairwise_map]
 exact List.pairwise_lt_range.imp fun h=>by omega
theorem N1 {n:Nat} {m:Int}:m∈a0P n↔0≤m∧m<n:=by
 unfold a0P
 rw [List.mem_map]
 constructor
 ·rintro ⟨i,hi,rfl⟩
  have:=List.mem_range.1 hi
  omega
 ·intro h
  exact ⟨m.toNat,List.mem_range.2 (by omega),by omega⟩
theorem a9N (c:List Lt):(S0 c).Pairwise (RI c):=by
 refine X1 _ (fun x y h => .inl (by simpa [ltI] using h)) (b3p c) ?_
 refine (a7t c.length).imp fun {x y} hxy h=>?_
 have h:¬ w7 (j5 c y) (j5 c x)<0:=by simpa [ltI] using h
 rw [O6 (j5 c x) (j5 c y)] at h
 unfold RI
 omega
theorem S7 (c:List Lt) (m:Int):m∈S0 c↔0≤m∧m<c.length:=by
 unfold S0
 rw [(A7 _ _).mem_iff,N1]
def a5u (c:List Lt) (m:Int):Prop:=∀ k:Int,0≤k→k<m→w7 (j5 c k) (j5 c m)≠0
theorem b1X {α:Type} {R:α→α→Prop} {l:List α} (h:l.Pairwise R) {i j:Nat} {x y:α} (hx:l[i]?=some x) (hy:l[j]?=some y) (hij:i<j):R x y:=by
 obtain ⟨h1,rfl⟩:=List.getElem?_eq_some_iff.1 hx
 obtain ⟨h2,rfl⟩:=List.getElem?_eq_some_iff.1 hy
 exact List.pairwise_iff_getElem.1 h i j h1 h2 hij
theorem b2x (c:List Lt) (m:Int):m∈a3O c↔(0≤m∧m<c.length)∧a5u c m:=by
 have hpw:=a9N c
 unfold a3O
 rw [a7r _ (Nat.le_refl _)]
 constructor
 ·rintro ⟨i,hi,h1,h2⟩
  have hm:=(S7 c m).1 (List.mem_of_getElem? h1)
  refine ⟨hm,fun k hk0 hkm e=>?_⟩
  obtain ⟨j,hj,ej⟩:=List.mem_iff_getElem.1 ((S7 c k).2 ⟨hk0,by omega⟩)
  have hj':(S0 c)[j]?=some k:=by rw [List.getElem?_eq_getElem hj,ej]
  have e2:=O6 (j5 c k) (j5 c m)
  rcases Nat.lt_trichotomy j i with hlt | heq | hgt
  ·rcases h2 with h2 | ⟨y,hy,h2⟩
   ·omega
   ·have h2:¬ w7 (j5 c m) (j5 c y)=0:=by simpa [a1T] using h2
    have e3:=O6 (j5 c m) (j5 c y)
    have r1:=b1X hpw hy h1 (by omega)
    rcases Nat.lt_or_ge j (i-1) with h3 | h3
    ·have r2:=b1X hpw hj' hy h3
     have g:=a1z (j5 c k) (j5 c y) (j5 c m)
     unfold a3c at g
     unfold RI at r1 r2
     have g:=(g (by omega) (by omega)).2 e
     omega
    ·have:j=i-1:=by omega
     subst this
     rw [hy] at hj'
     injection hj' with hj'
     rw [hj'] at h2
     omega
  ·rw [heq,h1] at hj'
   injection hj' with hj'
   omega
  ·have r:=b1X hpw h1 hj' hgt
   unfold RI at r
   omega
 ·rintro ⟨hm,hf⟩
  obtain ⟨i,hi,ei⟩:=List.mem_iff_getElem.1 ((S7 c m).2 hm)
  have hi':(S0 c)[i]?=some m:=by rw [List.getElem?_eq_getElem hi,ei]
  refine ⟨i,hi,hi',?_⟩
  by_cases h0:i=0
  ·exact .inl h0
  ·obtain ⟨y,hy⟩:∃ y,(S0 c)[i-1]?=some y:=⟨_,List.getElem?_eq_getElem (by omega)⟩
   refine .inr ⟨y,hy,?_⟩
   have r:=b1X hpw hy hi' (by omega)
   have hym:=(S7 c y).1 (List.mem_of_getElem? hy)
   have e3:=O6 (j5 c m) (j5 c y)
   unfold a1T
   rw [decide_eq_false_iff_not]
   intro e
   unfold RI at r
   exact hf y hym.1 (by omega) (by omega)
theorem a8x (c:List Lt):(a3O c).Pairwise (·≠ ·):=by
 have h1:(S0 c).Pairwise (·≠ ·):=(a9N c).imp fun {x y} h e=>by
  subst e
  unfold RI at h
  have:=(B2 (j5 c x) (j5 c x)).2 rfl
  omega
 unfold a3O
 refine List.Pairwise.sublist (a3x _) ?_
 rw [List.take_length]
 exact h1
theorem b3i (c:List Lt):(a8r c).Pairwise (·< ·):=by
 refine X1 _ (fun x y h=>by simpa using h) (fun x y z h1 h2=>by omega) ?_
 exact (a8x c).imp fun {x y} hne h=>by
  have h:¬ y<x:=by simpa using h
  omega
theorem a7E (c:List Lt) (m:Int):m∈a8r c↔(0≤m∧m<c.length)∧a5u c m:=by
 unfold a8r
 rw [(A7 _ _).mem_iff,b2x]
open Classical in
noncomputable def a5z (c:List Lt) (k:Nat):List Int:=(a0P k).filter fun m=>decide (a5u c m)
open Classical in
theorem b5x (c:List Lt):a8r c=a5z c c.length:=by
 refine b4t (b3i c) ?_ fun m=>?_
 ·unfold a5z
  exact (a7t _).filter _
 ·unfold a5z
  rw [a7E,List.mem_filter,N1,decide_eq_true_iff]
theorem b7k (c:List Lt):∀ (n:Nat),∃ i:Nat,i≤n∧a5u c i∧w7 (j5 c i) (j5 c n)=0:=by
 intro n
 induction n using Nat.strongRecOn with
 | ind n ih =>
  by_cases h:a5u c n
  ·exact ⟨n,Nat.le_refl _,h,(B2 _ _).2 rfl⟩
  ·unfold a5u at h
   simp only [Classical.not_forall,ne_eq,Decidable.not_not] at h
   obtain ⟨k,hk0,hkn,e⟩:=h
   obtain ⟨i,hi,hf,e2⟩:=ih k.toNat (by omega)
   rw [Int.toNat_of_nonneg hk0] at e2
   exact ⟨i,by omega,hf,(B2 _ _).2 (((B2 _ _).1 e2).trans ((B2 _ _).1 e))⟩
def smL (x y:Lt):Bool:=decide (w7 x y=0)
theorem b1N (k:Nat):a0P (k+1)=a0P k++[(k:Int)]:=by
 unfold a0P
 rw [List.range_succ,List.map_append];rfl
open Classical in
theorem a6R (c:List Lt):∀ k,k≤c.length→a5K smL (c.take k)=(a5z c k).map (j5 c)
 | 0,_=>by
  unfold a5z a0P
  simp [a5K]
 | k+1,h=>by
  obtain ⟨x,hx⟩:∃ x,c[k]?=some x:=⟨_,List.getElem?_eq_getElem (by omega)⟩
  have hl:=N9 hx
  rw [List.take_add_one,hx,Option.toList_some,a1d,a6R c k (by omega)]
  have hs:a5z c (k+1)=a5z c k++(if a5u c k then [(k:Int)] else []):=by
   unfold a5z
   rw [b1N,List.filter_append]
   congr 1
   by_cases hf:a5u c k<;>simp [List.filter,hf]
  have hany:((a5z c k).map (j5 c)).any (fun y=>smL y x)=true↔¬ a5u c k:=by
   rw [List.any_eq_true]
   constructor
   ·rintro ⟨y,hy,hq⟩ hf
    obtain ⟨m,hm,rfl⟩:=List.mem_map.1 hy
    unfold a5z at hm
    rw [List.mem_filter,N1] at hm
    refine hf m hm.1.1 hm.1.2 ?_
    rw [hl]
    simpa [smL] using hq
   ·intro hf
    unfold a5u at hf
    simp only [Classical.not_forall,ne_eq,Decidable.not_not] at hf
    obtain ⟨j,hj0,hjk,e⟩:=hf
    obtain ⟨i,hi,hfi,e2⟩:=b7k c j.toNat
    rw [Int.toNat_of_nonneg hj0] at e2
    refine ⟨j5 c i,List.mem_map.2 ⟨i,?_,rfl⟩,?_⟩
    ·unfold a5z
     rw [List.mem_filter,N1,decide_eq_true_iff]
     exact ⟨by omega,hfi⟩
    ·unfold smL
     rw [decide_eq_true_iff,←hl]
     exact (B2 _ _).2 (((B2 _ _).1 e2).trans ((B2 _ _).1 e))
  rw [hs,List.map_append]
  by_cases hf:a5u c k
  ·rw [if_pos hf,if_neg (by rw [hany];exact fun g=>g hf)]
   simp [hl]
  ·rw [if_neg hf,if_pos (hany.2 hf)]
   simp
theorem b6W (c:List Lt):wdL c=a5K smL c:=by
 have:=a6R c c.length (Nat.le_refl _)
 rw [List.take_length] at this
 rw [this]
 unfold wdL
 rw [b5x]
end Go.Proofs.YtekboofbedakcaaGreat
namespace Go.Proofs.YtekboofbedakcaaGreat
open Go.RowKit
set_option linter.unusedVariables false
set_option linter.unusedSimpArgs false
set_option maxRecDepth 100000
theorem b7q (t:Tm):t.nv.length≤t.size:=by
 have h:∀ l:List Int,(nub l).length≤l.length:=by
  intro l
  induction l using a3m with
  | h0=>exact Nat.le_refl _
  | h1 l x ih=>rw [a3s];split<;>simp<;>omega
 refine Nat.le_trans (h t.vs) ?_
 unfold Tm.vs vsL Tm.size
 rw [List.length_map]
 exact List.length_filter_le _ _
theorem b6N {a b:List Int} {k:Nat} {v u:Int} (h1:a[k]?=some v) (h2:b[k]?=some u):(a6V a b)[k]?=some ⟨v,K2 u⟩:=by
 unfold a6V
 rw [List.getElem?_zipWith,h1,h2]
theorem b5p {a b:List Int} (h:a.length=b.length):(a6V a b).length=a.length:=by
 unfold a6V
 rw [List.length_zipWith];omega
theorem b5n {a b:List Int} {x:Bd} (h:x∈a6V a b):∃ u∈b,x.t=K2 u:=by
 unfold a6V at h
 obtain ⟨i,hi,e⟩:=List.mem_iff_getElem.1 h
 rw [List.getElem_zipWith] at e
 exact ⟨_,List.getElem_mem _,by rw [←e]⟩
end Go.Proofs.YtekboofbedakcaaGreat
namespace Go.Proofs.YtekboofbedakcaaGreat
open Go.RowKit
set_option linter.unusedVariables false
set_option linter.unusedSimpArgs false
def lkT (t:Tm):Tm:=o5 (fun _=>K2 0) t
def lkL (l:Lt):Lt:=Lt.rep (fun _=>K2 0) l
structure Sn where
 lit:Lt
 look:Lt
def a0R (l k:Lt):Sn:=if 0≤t6 k.a k.b then ⟨l,k⟩ else ⟨a7P l,a7P k⟩
def a6a (x y:Sn):Int:=w7 x.look y.look
def b8Y (x y:Sn):Bool:=decide (a6a x y<0)
def inL (c:List Lt):List Lt:=(L3 b8Y (c.map fun l=>a0R l (lkL l))).map Sn.lit
def Z9 (c:List Lt):Tm:=⟨0,D5 c⟩
def b6D (c:List Lt):List Bd:=a6V (Z9 c).nv (a0P (Z9 c).nv.length)
def nmP (c:List Lt):List Lt:=wdL ((inL c).map (Lt.rep (t9 (b6D (inL c)))))
def rtL (l:Lt):Lt:=if t6 (lkT l.a) (lkT l.b)<0 then a7P l else l
def b7Y (x y:Lt):Bool:=decide (w7 (lkL x) (lkL y)<0)
def inD (c:List Lt):List Lt:=L3 b7Y (c.map rtL)
theorem a7g (l:Lt):(a0R l (lkL l)).lit=rtL l:=by
 unfold a0R rtL
 show (if 0≤t6 (lkT l.a) (lkT l.b) then (⟨l,lkL l⟩:Sn) else ⟨a7P l,a7P (lkL l)⟩).lit=_
 by_cases h:t6 (lkT l.a) (lkT l.b)<0
 ·rw [if_neg (by omega),if_pos h]
 ·rw [if_pos (by omega),if_neg h]
theorem a4V (l:Lt):(a0R l (lkL l)).look=lkL (a0R l (lkL l)).lit:=by
 unfold a0R
 split<;>rfl
theorem b4g (c:List Lt):inL c=inD c:=by
 unfold inL inD
 rw [b3h (lt2:=b7Y) Sn.lit,List.map_map]
 ·congr 1
  exact List.map_congr_left fun l _=>a7g l
 ·intro x hx y hy
  obtain ⟨l,_,rfl⟩:=List.mem_map.1 hx
  obtain ⟨m,_,rfl⟩:=List.mem_map.1 hy
  unfold b8Y b7Y a6a
  rw [a4V,a4V]
theorem b5a (c:List Lt):(inD c).length=c.length:=by
 unfold inD
 rw [(A7 _ _).length_eq,List.length_map]
theorem b5r {c:List Lt} {x:Lt}:x∈inD c↔∃ l∈c,rtL l=x:=by
 unfold inD
 rw [(A7 _ _).mem_iff,List.mem_map]
theorem b7B (l:Lt):rtL l=l∨rtL l=a7P l:=by
 unfold rtL
 split
 ·exact .inr rfl
 ·exact .inl rfl
theorem b6Z (c:List Lt):(Z9 c).vs=c.flatMap fun l=>l.a.vs++l.b.vs:=by
 unfold Z9
 rw [Tm.vs_sym (show ¬ (0:Int)<0 by decide)]
 show (D5 c).flatMap Tm.vs=_
 induction c with
 | nil=>rfl
 | cons l c ih =>
  show (l.a::l.b::D5 c).flatMap Tm.vs=_
  rw [List.flatMap_cons,List.flatMap_cons,List.flatMap_cons,ih,List.append_assoc]
theorem a2W {c:List Lt} {l:Lt} (h:l∈c) {v:Int} (hv:v∈l.a.vs∨v∈l.b.vs):v∈(Z9 c).nv:=by
 unfold Tm.nv
 rw [a5R,b6Z,List.mem_flatMap]
 exact ⟨l,h,List.mem_append.2 hv⟩
theorem b3P {α:Type} {q:α→α→Bool} {c:List α} {x:α} (h:x∈a5K q c):x∈c:=by
 induction c using J9 with
 | h0=>cases h
 | h1 c y ih =>
  rw [a1d] at h
  split at h
  ·exact List.mem_append_left _ (ih h)
  ·rcases List.mem_append.1 h with h | h
   ·exact List.mem_append_left _ (ih h)
   ·exact List.mem_append_right _ h
theorem b2Q {α:Type} {q:α→α→Bool} (c:List α):(a5K q c).length≤c.length:=by
 induction c using J9 with
 | h0=>exact Nat.le_refl _
 | h1 c y ih =>
  rw [a1d]
  split
  ·rw [List.length_append];omega
  ·rw [List.length_append,List.length_append];omega
end Go.Proofs.YtekboofbedakcaaGreat
