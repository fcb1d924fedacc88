/-
 A term that can be rewritten can be so inside another one,and with anything put into it.
-/
import Derived.Test.YtekboofbedakcaaGreatMg8
import Derived.Test.YtekboofbedakcaaGreatMg9
import Derived.Test.YtekboofbedakcaaGreatMg10
import Derived.Test.YtekboofbedakcaaGreatMg4
import Derived.Test.YtekboofbedakcaaGreatMg6
import Derived.Test.YtekboofbedakcaaGreatMg5
import Derived.Test.YtekboofbedakcaaGreatMg2
import Derived.Test.YtekboofbedakcaaGreatAbShp
namespace Go.Proofs.YtekboofbedakcaaGreat
open Go.RowKit
set_option linter.unusedVariables false
set_option linter.unusedSimpArgs false
set_option maxRecDepth 100000
theorem a4c {l:List Bd} (h:N4 l=true):l.length≤8∧∀ b∈l,b.t.ok∧b.t.rng∧b.t.size≤20:=by
 unfold N4 at h
 rw [Bool.and_eq_true,List.all_eq_true,decide_eq_true_eq] at h
 obtain ⟨h1,h2⟩:=h
 have hf:∀ b∈l,b.t.rng∧b.t.ok∧(b.t.size:Int)≤20:=fun b hb=>by
  have:=h1 b hb
  unfold Q4 at this
  simp only [Bool.and_eq_true,decide_eq_true_eq] at this
  exact (O2 (by decide) (by decide) this.2.2).2
 exact ⟨h2,fun b hb=>⟨(hf b hb).2.1,(hf b hb).1,by have:=(hf b hb).2.2;omega⟩⟩
set_option maxHeartbeats 8000000 in
theorem a4Y (W:World) (L:List (List Lt)) (hr:∀ c∈L,okC c) (hL:L.length≤9223372036854775807) (t u:Tm) (ht:t.rng) (hu:u.rng) (s:List Bd) (hs:∀ b∈s,b.t.rng) (hsl:s.length≤9223372036854775807) (n:Nat) (hn:n≤255):AFun Tryz.prog W 3 [.lst (L.map cl7),t.cw,u.cw,.lst (s.map Bd.cv),.sc (.int .u8 n)] (.val (.b true)):=by
 refine a8 (rs:=[.b true]) Tryz.func3 Tryz.ntmps3 rfl rfl rfl rfl ?_
 intro w U hW
 have F1:=a8t w L 4 (by decide) hr hL
 have s1:=M9 w t 10 6 ht (by decide) (by decide) (by decide) (by decide)
 have s2:=M9 w u 10 6 hu (by decide) (by decide) (by decide) (by decide)
 have f1:=b1f w s hsl hs
 refine aS (aR ?_)
 refine nc zb (nc zb (nc zd ?_))
 refine aS (aS (aR ?_))
 refine nc (zn (z:=a6x w)) (nc zt ?_)
 refine aC rfl (fun hc=>by cases hc) (fun _=>aK ?_)
 by_cases h1:N3 L 4=false
 ·rw [h1] at F1
  refine aS (aS (aR ?_))
  refine nc zj (nc (zn (z:=F1)) (nc zt (nc zj (nc zM (nc zM (nc zM (nc zO (nc zj (nc zM (nc zM (nc zM (nc zO (nc zj (nc zM (nc zM (nc zM (nc zO ?_)))))))))))))))))
  refine aC rfl (fun hc=>?_) (fun hc=>by cases hc)
  refine aS (aR ?_)
  refine nc zd ?_
  exact aT (And.intro (.inr rfl) rfl)
 have h1:N3 L 4=true:=by simpa using h1
 rw [h1] at F1
 by_cases h2:f0 t 10 6<0
 ·have g1:decide (f0 t 10 6<0)=true:=by simpa using h2
  refine aS (aS (aR ?_))
  refine nc zj (nc (zn (z:=F1)) (nc zt (nc zj (nc (zE (p:=gc)) (nc (zn (p:=gc) (z:=s1)) (nc (zh (r:=gc)) (nc zN (nc zj (nc zM (nc zM (nc zM (nc zO (nc zj (nc zM (nc zM (nc zM (nc zO ?_)))))))))))))))))
  refine aC rfl (fun hc=>?_) (fun hc=>by cases hc)
  refine aS (aR ?_)
  refine nc zd ?_
  exact aT (And.intro (.inr rfl) rfl)
 have g1:decide (f0 t 10 6<0)=false:=by simpa using h2
 by_cases h3:f0 u 10 6<0
 ·have g2:decide (f0 u 10 6<0)=true:=by simpa using h3
  refine aS (aS (aR ?_))
  refine nc zj (nc (zn (z:=F1)) (nc zt (nc zj (nc (zE (p:=gc)) (nc (zn (p:=gc) (z:=s1)) (nc (zh (r:=gc)) (nc zN (nc zj (nc (zE (p:=gc)) (nc (zn (p:=gc) (z:=s2)) (nc (zh (r:=gc)) (nc zN (nc zj (nc zM (nc zM (nc zM (nc zO ?_)))))))))))))))))
  refine aC rfl (fun hc=>?_) (fun hc=>by cases hc)
  refine aS (aR ?_)
  refine nc zd ?_
  exact aT (And.intro (.inr rfl) rfl)
 have g2:decide (f0 u 10 6<0)=false:=by simpa using h3
 by_cases h4:N4 s=false
 ·rw [h4] at f1
  refine aS (aS (aR ?_))
  refine nc zj (nc (zn (z:=F1)) (nc zt (nc zj (nc (zE (p:=gc)) (nc (zn (p:=gc) (z:=s1)) (nc (zh (r:=gc)) (nc zN (nc zj (nc (zE (p:=gc)) (nc (zn (p:=gc) (z:=s2)) (nc (zh (r:=gc)) (nc zN (nc zj (nc (zj (p:=gc)) (nc (zn (p:=gc) (z:=f1)) (nc (zt (r:=gc)) (nc zN ?_)))))))))))))))))
  refine aC rfl (fun hc=>?_) (fun hc=>by cases hc)
  refine aS (aR ?_)
  refine nc zd ?_
  exact aT (And.intro (.inr rfl) rfl)
 have h4:N4 s=true:=by simpa using h4
 rw [h4] at f1
 refine aS (aS (aR ?_))
 refine nc zj (nc (zn (z:=F1)) (nc zt (nc zj (nc (zE (p:=gc)) (nc (zn (p:=gc) (z:=s1)) (nc (zh (r:=gc)) (nc zN (nc zj (nc (zE (p:=gc)) (nc (zn (p:=gc) (z:=s2)) (nc (zh (r:=gc)) (nc zN (nc zj (nc (zj (p:=gc)) (nc (zn (p:=gc) (z:=f1)) (nc (zt (r:=gc)) (nc zN ?_)))))))))))))))))
 refine aC rfl (fun hc=>by cases hc) (fun hc=>aK ?_)
 clear hc s1 s2 F1 f1 g1 g2 hs hsl
 obtain ⟨_,_,hto,hts⟩:=O2 (by decide) (by decide) (Int.not_lt.1 h2)
 obtain ⟨_,_,huo,hus⟩:=O2 (by decide) (by decide) (Int.not_lt.1 h3)
 obtain ⟨hsl,hsk⟩:=a4c h4
 obtain ⟨hL4,hcs,hRs⟩:=b8h h1
 have hRl:=a9Z L L.length
 have hru:=a6s w L (by omega) hcs
 obtain ⟨R,hRd⟩:∃ R,R=rsK L L.length:=⟨_,rfl⟩
 obtain ⟨R2,hR2⟩:∃ R2,R2=(dsK L L.length).map RuT.cv:=⟨_,rfl⟩
 rw [←hRd] at hRs hRl hru
 rw [←hR2] at hru
 have hR:∀ r∈R,b2i r:=fun r hr=>(hRs r hr).1
 clear hRd hR2 hRs
 refine aS (aR ?_)
 refine nc zj (nc (zn (z:=hru)) (nc zj (nc zD (nc zD (nc zD (nc zd (nc zd (nc zd ?_))))))))
 refine AWp.wk (a7 (s':=[(3,AV.val (.lst (s.map Bd.cv))),(4,.val (.sc (.int .u8 n))),(6,.bp 6 0 []),(100006,.bx t.cw),(7,.bp 7 0 []),(100007,.bx u.cw),(11,.val (.lst (R.map RuT.cv))),(13,.val (.b true))]) ⟨rfl,rfl,rfl,rfl,rfl,rfl,rfl,rfl,trivial⟩) ?_
 refine aS (aD (by kernel_rfl) (by kernel_rfl) ?_)
 refine nc zE (nc (zn (z:=a3Q w t hto)) (nc zE (nc (zn (z:=a3Q w u huo)) (nc zw (nc zw (nc zy (nc zy ?_)))))))
 refine ⟨by kernel_rfl,?_⟩
 refine AWp.wk (a7 (s':=[(3,AV.val (.lst (s.map Bd.cv))),(4,.val (.sc (.int .u8 n))),(11,.val (.lst (R.map RuT.cv))),(13,.val (.b true)),(14,.bp 14 0 []),(100014,.bx t.cw),(15,.bp 15 0 []),(100015,.bx u.cw)]) ⟨rfl,rfl,rfl,rfl,rfl,rfl,rfl,rfl,trivial⟩) ?_
 have hT:=U1 w R hR (by omega) t ht (by omega)
 cases e:trm R t.strip with
 | none =>
  rw [e] at hT
  have hT:AFun Tryz.prog w 10 [.lst (R.map RuT.cv),t.cw] (.tup [t.strip.cw,.i 0,.b false]):=hT
  refine aS (aS (aR ?_))
  refine nc zj (nc zE (nc (zn (z:=hT)) (nc zj (nc zD (nc zD (nc zD (nc zw (nc zy (nc zd (nc zd ?_))))))))))
  refine aS (aR ?_)
  refine nc zj (nc zt ?_)
  refine aC rfl (fun hc=>?_) (fun hc=>by cases hc)
  refine aS (aR ?_)
  refine nc zj (nc zd ?_)
  exact aT (And.intro (.inr rfl) rfl)
 | some q0 =>
  obtain ⟨x0,id0⟩:=q0
  rw [e] at hT
  have hT:AFun Tryz.prog w 10 [.lst (R.map RuT.cv),t.cw] (.tup [x0.cw,.i id0,.b true]):=hT
  have has:o6 (l7 R) t≠none:=fun h=>by
   rw [a0C (by rw [P0];exact h)] at e
   cases e
  have hsome:∀ {z:Tm},o6 (l7 R) z≠none→∃ x i,trm R z.strip=some (x,i):=fun {z} h=>by
   cases hz:o6 (l7 R) z with
   | none=>exact absurd hz h
   | some p=>exact a1q (p:=p) (by rw [P0];exact hz)
  have hpl:u.places.length=u.size:=Tm.places_len u
  have hsz1:0<u.size:=u.size_pos
  have hrz:=b0V u.places
  have P1:=a8B w hu (by omega)
  obtain ⟨PR,hPR⟩:∃ R,R=u.places.map b7U:=⟨_,rfl⟩
  have hPl:PR.length=u.places.length:=by rw [hPR,List.length_map]
  have P1:AFun Tryz.prog w 11 [u.cw] (.val (.lst PR)):=by rw [hPR];exact P1
  rw [←hPR] at hrz
  have hne:(PR.length:Int)≠0:=by omega
  have hn0:PR.length≠0:=by omega
  have hjl:n % PR.length<u.places.length:=by rw [←hPl];exact Nat.mod_lt _ (by omega)
  obtain ⟨q,hq⟩:∃ q,u.places[n % PR.length]?=some q:=⟨_,List.getElem?_eq_getElem hjl⟩
  have hq':PR[n % PR.length]?=some (.lst (q.map CV.i)):=by rw [hPR] at hq ⊢;exact b6c hq
  obtain ⟨⟨was,hwas⟩,hql⟩:=b1y u q (List.mem_of_getElem? hq)
  have hwp:=was.size_pos
  obtain ⟨z,hz,hzr,_,_,hzs⟩:=a2o t ht q u was hu hwas
  have hzo:z.ok:=b5D (a2X t q u z hz) (by omega)
  have c1:=b5T w t ht (by omega) q u (by omega) hu (by omega)
  rw [hz] at c1
  have c1:AFun Tryz.prog w 12 [u.cw,.lst (q.map CV.i),t.cw] (.tup [z.cw,.b true]):=c1
  have hzu:=a9E has q u z hz
  obtain ⟨z1,i1,e1⟩:=hsome hzu
  have hT1:=U1 w R hR (by omega) z hzr (by omega)
  rw [e1] at hT1
  have hT1:AFun Tryz.prog w 10 [.lst (R.map RuT.cv),z.cw] (.tup [z1.cw,.i i1,.b true]):=hT1
  have hB:a2B s:=fun b hb=>⟨(hsk b hb).2.1,by have:=(hsk b hb).2.2;omega⟩
  have hI:∀ v,(t9 s v).size≤20:=fun v=>by
   unfold t9
   cases hf:b7 s v with
   | none=>show (K2 v).size≤20;rw [M5];omega
   | some t =>
    obtain ⟨b,hb,rfl,_⟩:=a1p hf
    exact (hsk b hb).2.2
  have a1:=a4F w s t (by omega) hB ht hto
  have za:=b6O (by omega) hI t
  have ra:=a7s ht fun v h1 h2=>(a2Y hB h1 h2).1
  obtain ⟨x2,i2,e2⟩:=hsome (a5s (t9 s) t has)
  have hT2:=U1 w R hR (by omega) _ ra (by omega)
  rw [e2] at hT2
  have hT2:AFun Tryz.prog w 10 [.lst (R.map RuT.cv),(o5 (t9 s) t).cw] (.tup [x2.cw,.i i2,.b true]):=hT2
  obtain ⟨t2,ht2⟩:∃ t2,t2=o5 (t9 s) t:=⟨_,rfl⟩
  rw [←ht2] at a1 hT2
  have hok:okCl [⟨false,z,t⟩]:=⟨by show 1≤12;decide,fun l hl=>by
   have:l=⟨false,z,t⟩:=by simpa using hl
   subst this
   exact ⟨⟨hzr,hzo,by show z.size≤_;omega⟩,ht,hto,by show t.size≤_;omega⟩⟩
  have eN:AFun Tryz.prog w 15 [.lst [.row [.b false,z.cw,t.cw]]] (.val (.lst ((nmP [⟨false,z,t⟩]).map Lt.cv))):=b1Q w _ hok
  have hokn:=okCl.norm hok
  obtain ⟨⟨d3,i3⟩,e3⟩:=b2T (R:=R) (l:=⟨false,z,t⟩) hzu
  obtain ⟨C,hC⟩:∃ C,C=nmP [⟨false,z,t⟩]:=⟨_,rfl⟩
  rw [←hC] at eN hokn e3
  have hO:=b0D w R hR (by omega) C (by have:=hokn.1;omega) (fun l hl=>by
   obtain ⟨⟨k1,k2,k3⟩,k4,k5,k6⟩:=hokn.2 l hl
   exact ⟨k1,by omega,k4,by omega⟩)
  rw [e3] at hO
  have hO:AFun Tryz.prog w 16 [.lst (R.map RuT.cv),.lst (C.map Lt.cv)] (.tup [.lst (d3.map Lt.cv),.i i3,.b true]):=hO
  refine aS (aS (aR ?_))
  refine nc zj (nc zE (nc (zn (z:=hT)) (nc zj (nc zD (nc zD (nc zD (nc zw (nc zy (nc zd (nc zd ?_))))))))))
  refine aS (aR ?_)
  refine nc zj (nc zt ?_)
  refine aC rfl (fun hc=>by cases hc) (fun _=>aK ?_)
  refine AWp.wk (a7 (s':=[(3,AV.val (.lst (s.map Bd.cv))),(4,.val (.sc (.int .u8 n))),(11,.val (.lst (R.map RuT.cv))),(13,.val (.b true)),(14,.bp 14 0 []),(100014,.bx t.cw),(15,.bp 15 0 []),(100015,.bx u.cw)]) ⟨rfl,rfl,rfl,rfl,rfl,rfl,rfl,rfl,trivial⟩) ?_
  refine aS (aR ?_)
  refine nc zE (nc (zn (z:=P1)) (nc zd ?_))
  refine aS (aD (by kernel_rfl) (by kernel_rfl) ?_)
  refine nc zE (nc zj (nc zj (nc zbF (nc zj (nc zp (nc zbH (nc (zz (j:=n % PR.length) (H:=hq') (hz:=hrz)) (nc zA (nc zE (nc (zn (z:=c1)) (nc zj (nc zD (nc zD (nc zw (nc zy (nc zd ?_))))))))))))))))
  refine ⟨by kernel_rfl,?_⟩
  refine AWp.wk (a7 (s':=[(3,AV.val (.lst (s.map Bd.cv))),(11,.val (.lst (R.map RuT.cv))),(13,.val (.b true)),(14,.bp 14 0 []),(100014,.bx t.cw),(20,.bp 20 0 []),(100020,.bx z.cw)]) ⟨rfl,rfl,rfl,rfl,rfl,rfl,rfl,trivial⟩) ?_
  refine aS (aR ?_)
  refine nc zj (nc zE (nc (zn (z:=hT1)) (nc zj (nc zD (nc zD (nc zD (nc zw (nc zy (nc zd (nc zd ?_))))))))))
  refine AWp.wk (a7 (s':=[(3,AV.val (.lst (s.map Bd.cv))),(11,.val (.lst (R.map RuT.cv))),(13,.val (.b true)),(14,.bp 14 0 []),(100014,.bx t.cw),(20,.bp 20 0 []),(100020,.bx z.cw),(24,.val (.b true))]) ⟨rfl,rfl,rfl,rfl,rfl,rfl,rfl,rfl,trivial⟩) ?_
  refine aS (aD (by kernel_rfl) (by kernel_rfl) ?_)
  refine nc zj (nc zj ?_)
  refine nc (zn (z:=b5Y w s (by omega) (fun b hb=>(hsk b hb).1))) ?_
  refine nc zE (nc (zn (z:=a1)) (nc (zn (z:=hT2)) (nc zj (nc zD (nc zD (nc zD (nc zw (nc zy (nc zd (nc zd ?_))))))))))
  refine ⟨by kernel_rfl,?_⟩
  refine AWp.wk (a7 (s':=[(11,AV.val (.lst (R.map RuT.cv))),(13,.val (.b true)),(14,.bp 14 0 []),(100014,.bx t.cw),(20,.bp 20 0 []),(100020,.bx z.cw),(24,.val (.b true)),(27,.val (.b true))]) ⟨rfl,rfl,rfl,rfl,rfl,rfl,rfl,rfl,trivial⟩) ?_
  refine aS (aR ?_)
  refine nc zE (nc zE (nc (zbw b6x) (nc zI (nc (zn (z:=eN)) (nc zd ?_)))))
  refine aS (aR ?_)
  refine nc zj (nc zj (nc (zn (z:=hO)) (nc zj (nc zD (nc zD (nc zD (nc zd (nc zd (nc zd ?_)))))))))
  refine aS (aR ?_)
  refine nc zj (nc zj (nc (zj (p:=gc)) (nc zO (nc zj (nc (zj (p:=gc)) (nc zO (nc zj (nc (zj (p:=gc)) (nc zO (nc zd ?_))))))))))
  exact aT (And.intro (.inr rfl) rfl)
theorem b3D {n:Nat} {c:CV} (h:Shp Tryz.prog n 4 c):∃ b,c = .b b:=by
 cases n with
 | zero=>exact h.elim
 | succ n =>
  rw [Shp,Tryz.underlying4] at h
  exact h
theorem b3g {n:Nat} {c:CV} (h:Shp Tryz.prog n 64 c):∃ l:List Lt,c = .lst (l.map Lt.cv)∧okC l:=by
 cases n with
 | zero=>exact h.elim
 | succ n =>
  rw [Shp,Tryz.underlying64] at h
  obtain ⟨l,rfl,hl⟩:=h
  obtain ⟨m,h1,h2⟩:=a0M Lt.cv (fun l=>l.a.rng∧l.b.rng) (l:=l) (fun x hx=>by
   have hx:=hl x hx
   cases n with
   | zero=>exact hx.elim
   | succ n =>
    have hx:Shp Tryz.prog (n+1) 96 x:=hx
    rw [Shp,Tryz.underlying96] at hx
    obtain ⟨l,rfl,hl,hf⟩:=hx
    match l,hl with
    | [x,y,z],_ =>
     obtain ⟨b,rfl⟩:=b3D (hf 0 _ x rfl rfl)
     obtain ⟨t,rfl,ht⟩:=a3V n (hf 1 _ y rfl rfl)
     obtain ⟨u,rfl,hu⟩:=a3V n (hf 2 _ z rfl rfl)
     exact ⟨⟨b,t,u⟩,rfl,ht,hu⟩)
  exact ⟨m,by rw [h1],h2⟩
theorem b5R {n:Nat} {c:CV} (h:Shp Tryz.prog n 22 c):∃ L:List (List Lt),c = .lst (L.map cl7)∧∀ c∈L,okC c:=by
 cases n with
 | zero=>exact h.elim
 | succ n =>
  rw [Shp,Tryz.underlying22] at h
  obtain ⟨l,rfl,hl⟩:=h
  obtain ⟨m,h1,h2⟩:=a0M cl7 okC (l:=l) (fun x hx=>b3g (hl x hx))
  exact ⟨m,by rw [h1],h2⟩
end Go.Proofs.YtekboofbedakcaaGreat
