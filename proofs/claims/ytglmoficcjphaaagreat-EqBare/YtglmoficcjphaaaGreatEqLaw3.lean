/-
 EqBare: a literal that is nothing is taken off;two literals that are alike have a factor.
-/
import Derived.Test.YtglmoficcjphaaaGreatMg11
import Derived.Test.YtglmoficcjphaaaGreatAbShp
namespace Go.Proofs.YtglmoficcjphaaaGreat
open Go.RowKit
set_option linter.unusedVariables false
set_option linter.unusedSimpArgs false
set_option maxRecDepth 100000
theorem b6K (l:Lt) (h:l.neg=true):I6 [l]=[0]:=by
 have h1:hvK [l] 1=(0,wtL l):=by
  unfold hvK
  show (if l.neg=true∧(hvK [l] 0).2<wtL l then _ else _)=_
  rw [if_pos ⟨h,b1n l⟩];rfl
 unfold I6
 show (if (hvK [l] 1).1≥0 then _ else _)=_
 rw [h1,if_pos (show (0:Int)≥0 by decide)]
 show [(hvK [l] 1).1]=[0]
 rw [h1]
theorem b0U {t:Tm} (ht:t.ten):(mgT t t).2=true:=by
 have hT:=S2 ht ht
 cases h:(mgT t t).2 with
 | true=>rfl
 | false=>exact absurd (by rw [C8]) ((hT.no h).2 p8)
theorem b5s {t:Tm} (ht:t.ten):a0A [⟨true,t,t⟩]=[[]]:=by
 unfold a0A
 rw [b6K ⟨true,t,t⟩ rfl]
 have h:a8t [⟨true,t,t⟩] (0:Int).toNat=some []:=by
  unfold a8t
  show (if (⟨true,t,t⟩:Lt).neg=true∧(mgT t t).2=true then some ((M6 [⟨true,t,t⟩] 0).map (Lt.rep (mgS t t))) else none)=_
  rw [if_pos ⟨rfl,b0U ht⟩]
  rfl
 rw [List.filterMap_cons]
 simp only [h]
 rfl
theorem b7F {c:List Lt} (h:∀ l∈c,l.neg=false):a0A c=[]:=by
 cases hr:a0A c with
 | nil=>rfl
 | cons d L =>
  obtain ⟨n,x,_,_,hx,hn,_,_⟩:=b7D (c:=c) (d:=d) (by rw [hr];simp)
  rw [h x (List.mem_of_getElem? hx)] at hn
  cases hn
theorem b7H (x y:Lt):(a9R [x,y]).length≤8:=by
 have h0:∀ (l:Lt) (n:Nat),a3n [x,y] l n n=[]:=fun l n=>by
  unfold a3n
  split
  ·rw [if_neg (fun h=>h.1 rfl)]
  ·rfl
 have h1:∀ n,n<2→(a4k [x,y] n).length≤4:=fun n hn=>by
  unfold a4k
  split
  ·split
   ·exact Nat.zero_le _
   ·rename_i l _ _
    show ((List.range 2).flatMap fun m=>a3n [x,y] l n m).length≤4
    have e:List.range 2=[0,1]:=rfl
    rw [e]
    simp only [List.flatMap_cons,List.flatMap_nil,List.append_nil,List.length_append]
    have a0:=a3J [x,y] l n 0
    have a1:=a3J [x,y] l n 1
    rcases (show n=0∨n=1 by omega) with rfl | rfl
    ·rw [h0];simp;omega
    ·rw [h0 l 1];simp;omega
  ·exact Nat.zero_le _
 unfold a9R
 rw [b4k [x,y] fun n=>a4k [x,y] n]
 show ((List.range 2).flatMap _).length≤8
 have e:List.range 2=[0,1]:=rfl
 rw [e]
 simp only [List.flatMap_cons,List.flatMap_nil,List.append_nil,List.length_append]
 have a0:=h1 0 (by omega)
 have a1:=h1 1 (by omega)
 split<;>split<;>simp<;>omega
theorem b4e (l:Lt) (h:l.neg=false):I6 [l,l]=[0,1]:=by
 have h1:hvK [l,l] 2=(-1,0):=by
  unfold hvK
  show (if l.neg=true∧_ then _ else hvK [l,l] 1)=_
  rw [if_neg (by rw [h];rintro ⟨h,_⟩;cases h)]
  unfold hvK
  show (if l.neg=true∧_ then _ else hvK [l,l] 0)=_
  rw [if_neg (by rw [h];rintro ⟨h,_⟩;cases h)]
  rfl
 have hg:b9R [l,l] l=true:=by
  unfold b9R
  rw [List.any_eq_false.2 fun x hx=>by
   have:x=l:=by simpa using hx
   rw [this,b4K.2 (b7i _)];decide]
  rfl
 unfold I6
 show (if (hvK [l,l] 2).1≥0 then _ else gsK [l,l] 2)=_
 rw [h1,if_neg (by decide)]
 have g0:a0n [l,l] 0=true:=hg
 have g1:a0n [l,l] 1=true:=hg
 unfold gsK
 have e:List.range 2=[0,1]:=rfl
 rw [e,List.filter_cons_of_pos (by exact g0),List.filter_cons_of_pos (by exact g1)]
 rfl
def R6 (t:Tm):Lt:=⟨false,⟨5,[t]⟩,⟨0,[]⟩⟩
theorem b0S {t:Tm} (h1:t.rng∧t.ok) (h2:t.size≤9):(R6 t).ten:=by
 refine ⟨⟨⟨(Tm.rng_iff _).2 ⟨by show _≤(5:Int)∧(5:Int)≤_;omega,fun s hs=>?_⟩,(Tm.ok_iff _).2 ⟨by simp [R6],fun s hs=>?_⟩⟩,?_⟩,b1v⟩
 ·rw [show (R6 t).a.l=[t] from rfl,List.mem_singleton] at hs;rw [hs];exact h1.1
 ·rw [show (R6 t).a.l=[t] from rfl,List.mem_singleton] at hs;rw [hs];exact h1.2
 ·rw [Tm.size_sym (show ¬ (R6 t).a.f<0 by show ¬ (5:Int)<0;decide)]
  simp [R6];omega
theorem b1B {a b:Tm} (ha:a.ten) (hb:b.ten) (h1:¬ a.f<0) (h2:¬ b.f<0) (h:a.f≠b.f):(mgT a b).2=false:=by
 have hT:=S2 ha hb
 cases e:(mgT a b).2 with
 | false=>rfl
 | true =>
  exfalso
  have hu:=(hT.yes e).uni
  rw [C8,c9 h1,c9 h2] at hu
  injection hu with e1 _
  exact h e1
theorem b8X {t:Tm} (h1:t.rng∧t.ok) (h2:t.size≤9):(a9R [R6 t,R6 t]).length=2:=by
 have hten:=b0S h1 h2
 have hA:(R6 t).a=⟨5,[t]⟩:=rfl
 have hB:(R6 t).b=⟨0,[]⟩:=rfl
 have n1:¬ (R6 t).a.f<0:=by show ¬ (5:Int)<0;decide
 have n2:¬ (R6 t).b.f<0:=by show ¬ (0:Int)<0;decide
 have m1:=b0U hten.1
 have m2:(mgT (R6 t).a (R6 t).b).2=false:=b1B hten.1 hten.2 n1 n2 (by show (5:Int)≠0;decide)
 have m3:(mgT (R6 t).b (R6 t).a).2=false:=b1B hten.2 hten.1 n2 n1 (by show (0:Int)≠5;decide)
 have hk:∀ σ,kb (b5 σ (R6 t).a) (b5 σ (R6 t).b)=1:=fun σ=>by
  rw [b9r]
  have e2:b5 σ (R6 t).b=⟨0,[]⟩:=by rw [c9 n2];rfl
  have e1:(b5 σ (R6 t).a).size=1+(b5 σ t).size:=by
   rw [hA,c9 (show ¬ (⟨5,[t]⟩:Tm).f<0 by show ¬ (5:Int)<0;decide),Tm.size_sym (show ¬ (⟨5,[t].map (b5 σ)⟩:Tm).f<0 by show ¬ (5:Int)<0;decide)]
   simp
  have hp:=Tm.size_pos (b5 σ t)
  rw [e2]
  refine ⟨?_,.inl ?_⟩
  ·intro v
   have:(⟨0,[]⟩:Tm).vs=[]:=b7e 0 (by decide)
   rw [this];simp
  ·rw [e1,b2W];omega
 have hl1:a4K (b5 (mgS (R6 t).a (R6 t).a) (R6 t).a) (b5 (mgS (R6 t).a (R6 t).a) (R6 t).b)=true:=decide_eq_true (.inl (hk _))
 have hl2:a4K (b5 (mgS (R6 t).b (R6 t).b) (R6 t).b) (b5 (mgS (R6 t).b (R6 t).b) (R6 t).a)=false:=by
  refine decide_eq_false ?_
  rw [b6N (b5 _ (R6 t).a),hk]
  decide
 have c1:∀ rest,∃ d,a2l ((R6 t).a,(R6 t).b) ((R6 t).a,(R6 t).b) rest=some d:=fun rest=>⟨_,by unfold a2l;rw [if_pos ⟨m1,hl1⟩]⟩
 have c2:∀ rest,a2l ((R6 t).a,(R6 t).b) ((R6 t).b,(R6 t).a) rest=none:=fun rest=>by unfold a2l;rw [if_neg (by rw [m2];rintro ⟨h,_⟩;cases h)]
 have c3:∀ rest,a2l ((R6 t).b,(R6 t).a) ((R6 t).a,(R6 t).b) rest=none:=fun rest=>by unfold a2l;rw [if_neg (by rw [m3];rintro ⟨h,_⟩;cases h)]
 have c4:∀ rest,a2l ((R6 t).b,(R6 t).a) ((R6 t).b,(R6 t).a) rest=none:=fun rest=>by unfold a2l;rw [if_neg (by rw [hl2];rintro ⟨_,h⟩;cases h)]
 have hO:∀ rest,(a0o (K3 (R6 t)) (R6 t) rest).length=1:=fun rest=>by
  obtain ⟨d,hd⟩:=c1 rest
  unfold a0o a7J K3
  simp only [List.flatMap_cons,List.flatMap_nil,List.append_nil,List.filterMap_cons,List.filterMap_nil,hd,c2,c3,c4]
  rfl
 have hN:∀ n m,n<2→m<2→(a3n [R6 t,R6 t] (R6 t) n m).length=if m≠n then 1 else 0:=fun n m hn hm=>by
  have hy:[R6 t,R6 t][m]?=some (R6 t):=by
   rcases (show m=0∨m=1 by omega) with rfl | rfl<;>rfl
  unfold a3n
  rw [hy]
  simp only
  by_cases h:m≠n
  ·rw [if_pos ⟨h,rfl⟩,if_pos h];exact hO _
  ·rw [if_neg (fun h2=>h h2.1),if_neg h];rfl
 have hL:∀ n,n<2→(a4k [R6 t,R6 t] n).length=1:=fun n hn=>by
  have hy:[R6 t,R6 t][n]?=some (R6 t):=by
   rcases (show n=0∨n=1 by omega) with rfl | rfl<;>rfl
  unfold a4k
  rw [hy]
  simp only
  rw [if_neg (by show ¬ (false=true);decide)]
  show ((List.range 2).flatMap _).length=1
  have e:List.range 2=[0,1]:=rfl
  rw [e]
  simp only [List.flatMap_cons,List.flatMap_nil,List.append_nil,List.length_append]
  rw [hN n 0 hn (by omega),hN n 1 hn (by omega)]
  rcases (show n=0∨n=1 by omega) with rfl | rfl<;>rfl
 unfold a9R
 rw [b4e (R6 t) rfl]
 simp only [List.flatMap_cons,List.flatMap_nil,List.append_nil,List.length_append]
 rw [show (0:Int).toNat=0 from rfl,show (1:Int).toNat=1 from rfl,hL 0 (by omega),hL 1 (by omega)]
set_option maxHeartbeats 8000000 in
theorem b0c (W:World) (c:List Lt) (hr:okC c):AFun Tryz.prog W 5 [.lst (c.map Lt.cv)] (.val (.b true)):=by
 refine f0 (rs:=[.b true]) Tryz.func5 Tryz.ntmps5 rfl rfl rfl rfl ?_
 intro w U hW
 refine aS (aR ?_)
 refine ne ze ?_
 refine aS (aS (aR ?_))
 refine ne (zw (z:=a7p w)) (ne zX ?_)
 refine aC rfl (fun hc=>by cases hc) (fun _=>aK ?_)
 have hfi:=a9v w c 2 8 (by decide) (by decide) (by decide) hr
 cases hF:W5 c 2 8 with
 | false =>
  rw [hF] at hfi
  refine aS (aS (aR ?_))
  refine ne zl (ne (zw (z:=hfi)) (ne zX (ne zl (nc zO (nc zO (nc zO ?_))))))
  (first | (refine ⟨_,_,_,aPt (gN rfl) rfl rfl rfl rfl rfl ?hb rfl,rfl,?_⟩;case hb=>(first | rfl | assumption | (simp;done))) | (refine ⟨_,_,_,aPf (gN rfl) rfl rfl rfl rfl rfl ?hb rfl,rfl,?_⟩;case hb=>(first | rfl | assumption | (simp;done))))
  refine aC rfl (fun hc=>?_) (fun hc=>by cases hc)
  refine aS (aR ?_)
  refine ne ze ?_
  exact aT (And.intro (.inr rfl) rfl)
 | true =>
 rw [hF] at hfi
 obtain ⟨hcl,hct⟩:=b3P (by decide) (by decide) hF
 have h8:∀ l∈c,l.a.size≤8:=fun l hl=>by
  obtain ⟨_,h3⟩:=a1I (by decide) (by decide) hF
  have:=(h3 l hl).1.2.2
  omega
 have hfit:=a6u hct
 have hok:∀ l∈c,l.a.ok∧l.b.ok:=fun l hl=>⟨(hfit l hl).1.2,(hfit l hl).2.2⟩
 have hsz:=Lt.size_all c
 have hclm:(c.map Lt.cv).length=c.length:=List.length_map ..
 by_cases h0:c.length=0
 ·have g0:decide (((c.map Lt.cv).length:Int)=0)=true:=decide_eq_true (by rw [hclm];omega)
  refine aS (aS (aR ?_))
  refine ne zl (ne (zw (z:=hfi)) (ne zX (ne zl (ne (zl (p:=gb)) ?_))))
  (first | (refine nx (a2C gb rfl rfl rfl rfl rfl rfl rfl) (by first | rfl | kernel_rfl) ?_) | (refine nx (Y7 gb rfl rfl rfl rfl rfl rfl rfl) (by first | rfl | kernel_rfl) ?_) | (refine nx (N0 gb rfl rfl rfl rfl rfl rfl rfl rfl) (by first | rfl | kernel_rfl) ?_))
  (first | (refine nx (a4H gb rfl rfl rfl rfl rfl rfl) (by first | rfl | kernel_rfl) ?_) | (refine nx (a_beq gb rfl rfl rfl rfl rfl rfl rfl) (by first | rfl | kernel_rfl) ?_))
  (first | (refine ⟨_,_,_,aPt (gN rfl) rfl rfl rfl rfl rfl ?hb rfl,rfl,?_⟩;case hb=>(first | rfl | assumption | (simp;done))) | (refine ⟨_,_,_,aPf (gN rfl) rfl rfl rfl rfl rfl ?hb rfl,rfl,?_⟩;case hb=>(first | rfl | assumption | (simp;done))))
  refine aC rfl (fun hc=>?_) (fun hc=>by rw [g0] at hc;cases hc)
  refine aS (aR ?_)
  refine ne ze ?_
  exact aT (And.intro (.inr rfl) rfl)
 have g0:decide (((c.map Lt.cv).length:Int)=0)=false:=decide_eq_false (by rw [hclm];omega)
 refine aS (aS (aR ?_))
 refine ne zl (ne (zw (z:=hfi)) (ne zX (ne zl (ne (zl (p:=gb)) ?_))))
 (first | (refine nx (a2C gb rfl rfl rfl rfl rfl rfl rfl) (by first | rfl | kernel_rfl) ?_) | (refine nx (Y7 gb rfl rfl rfl rfl rfl rfl rfl) (by first | rfl | kernel_rfl) ?_) | (refine nx (N0 gb rfl rfl rfl rfl rfl rfl rfl rfl) (by first | rfl | kernel_rfl) ?_))
 (first | (refine nx (a4H gb rfl rfl rfl rfl rfl rfl) (by first | rfl | kernel_rfl) ?_) | (refine nx (a_beq gb rfl rfl rfl rfl rfl rfl rfl) (by first | rfl | kernel_rfl) ?_))
 (first | (refine ⟨_,_,_,aPt (gN rfl) rfl rfl rfl rfl rfl ?hb rfl,rfl,?_⟩;case hb=>(first | rfl | assumption | (simp;done))) | (refine ⟨_,_,_,aPf (gN rfl) rfl rfl rfl rfl rfl ?hb rfl,rfl,?_⟩;case hb=>(first | rfl | assumption | (simp;done))))
 refine aC rfl (fun hc=>by rw [g0] at hc;cases hc) (fun _=>aK ?_)
 obtain ⟨x,hx⟩:∃ x,c[0]?=some x:=⟨c[0]'(by omega),List.getElem?_eq_getElem _⟩
 have hx':=Lt.map_at hx
 have hxm:=List.mem_of_getElem? hx
 have hxt:=hct x hxm
 have hx8:=h8 x hxm
 obtain ⟨xn,xa,xb⟩:=x
 simp only at hxt hx8
 have t2:∀ l∈[(⟨false,xa,xb⟩:Lt),⟨false,xa,xb⟩],l.ten:=fun l hl=>by
  simp only [List.mem_cons,List.not_mem_nil,or_false,or_self] at hl
  subst hl;exact hxt
 have t3:∀ l∈[R6 xa,R6 xa],l.ten:=fun l hl=>by
  simp only [List.mem_cons,List.not_mem_nil,or_false,or_self] at hl
  subst hl;exact b0S hxt.1.1 (by omega)
 have r1:=a3K w [⟨true,xa,xa⟩] (by simp) (fun l hl=>by rw [List.mem_singleton] at hl;subst hl;exact ⟨hxt.1,hxt.1⟩)
 rw [b5s hxt.1] at r1
 have r2:=a1M w [⟨false,xa,xb⟩,⟨false,xa,xb⟩] (by simp) t2
 have r3:=a1M w [R6 xa,R6 xa] (by simp) t3
 have r4:=a3K w [⟨false,xa,xb⟩,⟨false,xa,xb⟩] (by simp) t2
 rw [b7F (fun l hl=>by
  simp only [List.mem_cons,List.not_mem_nil,or_false,or_self] at hl
  subst hl;rfl)] at r4
 have hF2:=b7H ⟨false,xa,xb⟩ ⟨false,xa,xb⟩
 have hF3:=b8X hxt.1.1 (show xa.size≤9 by omega)
 obtain ⟨F2,hF2e⟩:∃ F,F=(a9R [(⟨false,xa,xb⟩:Lt),⟨false,xa,xb⟩]).map clC:=⟨_,rfl⟩
 obtain ⟨F3,hF3e⟩:∃ F,F=(a9R [R6 xa,R6 xa]).map clC:=⟨_,rfl⟩
 have hL2:F2.length≤8:=by rw [hF2e,List.length_map];exact hF2
 have hL3:F3.length=2:=by rw [hF3e,List.length_map];exact hF3
 rw [←hF2e] at r2
 rw [←hF3e] at r3
 have g2:decide ((F2.length:Int)≤8)=true:=decide_eq_true (by omega)
 have g3:decide ((F3.length:Int)=2)=true:=decide_eq_true (by omega)
 have e5:([R6 xa,R6 xa]).map Lt.cv=[.row [.b false,.row [.i 5,.lst [xa.cw]],.row [.i 0,.lst []]],.row [.b false,.row [.i 5,.lst [xa.cw]],.row [.i 0,.lst []]]]:=by simp [R6,Lt.cv,Tm.cv_eq]
 rw [e5] at r3
 refine aS (aR ?_)
 refine ne zl (ne (zw (z:=b3G w c (by omega) hok)) (ne ze ?_))
 refine aS (aR ?_)
 refine ne zl (ne (zq (j:=0) (H:=hx') (hz:=hsz)) ?_)
 (first | (refine nx (aL (gN rfl) rfl rfl rfl rfl rfl rfl rfl rfl rfl rfl rfl rfl) (by first | rfl | kernel_rfl) ?_) | (refine nx (q7 (gN rfl) rfl rfl rfl rfl rfl rfl rfl rfl rfl rfl rfl rfl rfl) (by first | rfl | kernel_rfl) ?_) | (refine nx (aLb (gN rfl) rfl rfl rfl rfl rfl rfl rfl rfl rfl rfl rfl rfl) (by first | rfl | kernel_rfl) ?_) | (refine nx (t7 (gN rfl) rfl rfl rfl rfl rfl rfl rfl rfl rfl) (by first | rfl | kernel_rfl) ?_) | (refine nx (q6 (gN rfl) rfl rfl rfl rfl rfl rfl rfl rfl rfl) (by first | rfl | kernel_rfl) ?_) | (refine nx (aLf (gN rfl) rfl rfl rfl rfl rfl rfl rfl rfl rfl rfl rfl rfl rfl) (by first | rfl | kernel_rfl) ?_) | (refine nx (a_load_fullv (gN rfl) rfl rfl rfl rfl rfl rfl rfl rfl rfl) (by first | rfl | kernel_rfl) ?_))
 refine ne (zbN a8u) ?_
 (first | (refine nx (aSt (gN rfl) rfl rfl rfl rfl rfl rfl rfl rfl rfl rfl) (by first | rfl | kernel_rfl) ?_) | (refine nx (a5W (gN rfl) rfl rfl rfl rfl rfl rfl rfl rfl rfl rfl) (by first | rfl | kernel_rfl) ?_) | (refine nx (T8 (gN rfl) rfl rfl rfl rfl rfl rfl rfl rfl rfl rfl rfl rfl) (by first | rfl | kernel_rfl) ?_))
 refine aS (aR ?_)
 (first | (refine nx (aF (gN rfl) rfl rfl rfl rfl rfl rfl rfl rfl rfl) (by first | rfl | kernel_rfl) ?_) | (refine nx (v9 (gN rfl) rfl rfl rfl rfl rfl rfl rfl rfl rfl rfl rfl) (by first | rfl | kernel_rfl) ?_) | (refine nx (D8 (gN rfl) rfl rfl rfl rfl rfl rfl rfl rfl rfl) (by first | rfl | kernel_rfl) ?_))
 (first | (refine nx (aL (gN rfl) rfl rfl rfl rfl rfl rfl rfl rfl rfl rfl rfl rfl) (by first | rfl | kernel_rfl) ?_) | (refine nx (q7 (gN rfl) rfl rfl rfl rfl rfl rfl rfl rfl rfl rfl rfl rfl rfl) (by first | rfl | kernel_rfl) ?_) | (refine nx (aLb (gN rfl) rfl rfl rfl rfl rfl rfl rfl rfl rfl rfl rfl rfl) (by first | rfl | kernel_rfl) ?_) | (refine nx (t7 (gN rfl) rfl rfl rfl rfl rfl rfl rfl rfl rfl) (by first | rfl | kernel_rfl) ?_) | (refine nx (q6 (gN rfl) rfl rfl rfl rfl rfl rfl rfl rfl rfl) (by first | rfl | kernel_rfl) ?_) | (refine nx (aLf (gN rfl) rfl rfl rfl rfl rfl rfl rfl rfl rfl rfl rfl rfl rfl) (by first | rfl | kernel_rfl) ?_) | (refine nx (a_load_fullv (gN rfl) rfl rfl rfl rfl rfl rfl rfl rfl rfl) (by first | rfl | kernel_rfl) ?_))
 (first | (refine nx (aF (gN rfl) rfl rfl rfl rfl rfl rfl rfl rfl rfl) (by first | rfl | kernel_rfl) ?_) | (refine nx (v9 (gN rfl) rfl rfl rfl rfl rfl rfl rfl rfl rfl rfl rfl) (by first | rfl | kernel_rfl) ?_) | (refine nx (D8 (gN rfl) rfl rfl rfl rfl rfl rfl rfl rfl rfl) (by first | rfl | kernel_rfl) ?_))
 (first | (refine nx (aL (gN rfl) rfl rfl rfl rfl rfl rfl rfl rfl rfl rfl rfl rfl) (by first | rfl | kernel_rfl) ?_) | (refine nx (q7 (gN rfl) rfl rfl rfl rfl rfl rfl rfl rfl rfl rfl rfl rfl rfl) (by first | rfl | kernel_rfl) ?_) | (refine nx (aLb (gN rfl) rfl rfl rfl rfl rfl rfl rfl rfl rfl rfl rfl rfl) (by first | rfl | kernel_rfl) ?_) | (refine nx (t7 (gN rfl) rfl rfl rfl rfl rfl rfl rfl rfl rfl) (by first | rfl | kernel_rfl) ?_) | (refine nx (q6 (gN rfl) rfl rfl rfl rfl rfl rfl rfl rfl rfl) (by first | rfl | kernel_rfl) ?_) | (refine nx (aLf (gN rfl) rfl rfl rfl rfl rfl rfl rfl rfl rfl rfl rfl rfl rfl) (by first | rfl | kernel_rfl) ?_) | (refine nx (a_load_fullv (gN rfl) rfl rfl rfl rfl rfl rfl rfl rfl rfl) (by first | rfl | kernel_rfl) ?_))
 refine ne (zbM a8u) (ne zD (ne ze ?_))
 refine aS (aR ?_)
 refine ne zl (ne (zw (z:=r1)) (ne ze ?_))
 refine aS (aR ?_)
 (first | (refine nx (aF (gN rfl) rfl rfl rfl rfl rfl rfl rfl rfl rfl) (by first | rfl | kernel_rfl) ?_) | (refine nx (v9 (gN rfl) rfl rfl rfl rfl rfl rfl rfl rfl rfl rfl rfl) (by first | rfl | kernel_rfl) ?_) | (refine nx (D8 (gN rfl) rfl rfl rfl rfl rfl rfl rfl rfl rfl) (by first | rfl | kernel_rfl) ?_))
 (first | (refine nx (aSt (gN rfl) rfl rfl rfl rfl rfl rfl rfl rfl rfl rfl) (by first | rfl | kernel_rfl) ?_) | (refine nx (a5W (gN rfl) rfl rfl rfl rfl rfl rfl rfl rfl rfl rfl) (by first | rfl | kernel_rfl) ?_) | (refine nx (T8 (gN rfl) rfl rfl rfl rfl rfl rfl rfl rfl rfl rfl rfl rfl) (by first | rfl | kernel_rfl) ?_))
 refine aS (aR ?_)
 (first | (refine nx (aL (gN rfl) rfl rfl rfl rfl rfl rfl rfl rfl rfl rfl rfl rfl) (by first | rfl | kernel_rfl) ?_) | (refine nx (q7 (gN rfl) rfl rfl rfl rfl rfl rfl rfl rfl rfl rfl rfl rfl rfl) (by first | rfl | kernel_rfl) ?_) | (refine nx (aLb (gN rfl) rfl rfl rfl rfl rfl rfl rfl rfl rfl rfl rfl rfl) (by first | rfl | kernel_rfl) ?_) | (refine nx (t7 (gN rfl) rfl rfl rfl rfl rfl rfl rfl rfl rfl) (by first | rfl | kernel_rfl) ?_) | (refine nx (q6 (gN rfl) rfl rfl rfl rfl rfl rfl rfl rfl rfl) (by first | rfl | kernel_rfl) ?_) | (refine nx (aLf (gN rfl) rfl rfl rfl rfl rfl rfl rfl rfl rfl rfl rfl rfl rfl) (by first | rfl | kernel_rfl) ?_) | (refine nx (a_load_fullv (gN rfl) rfl rfl rfl rfl rfl rfl rfl rfl rfl) (by first | rfl | kernel_rfl) ?_))
 (first | (refine nx (aL (gN rfl) rfl rfl rfl rfl rfl rfl rfl rfl rfl rfl rfl rfl) (by first | rfl | kernel_rfl) ?_) | (refine nx (q7 (gN rfl) rfl rfl rfl rfl rfl rfl rfl rfl rfl rfl rfl rfl rfl) (by first | rfl | kernel_rfl) ?_) | (refine nx (aLb (gN rfl) rfl rfl rfl rfl rfl rfl rfl rfl rfl rfl rfl rfl) (by first | rfl | kernel_rfl) ?_) | (refine nx (t7 (gN rfl) rfl rfl rfl rfl rfl rfl rfl rfl rfl) (by first | rfl | kernel_rfl) ?_) | (refine nx (q6 (gN rfl) rfl rfl rfl rfl rfl rfl rfl rfl rfl) (by first | rfl | kernel_rfl) ?_) | (refine nx (aLf (gN rfl) rfl rfl rfl rfl rfl rfl rfl rfl rfl rfl rfl rfl rfl) (by first | rfl | kernel_rfl) ?_) | (refine nx (a_load_fullv (gN rfl) rfl rfl rfl rfl rfl rfl rfl rfl rfl) (by first | rfl | kernel_rfl) ?_))
 refine ne zD (ne ze ?_)
 refine aS (aR ?_)
 refine ne zl (ne (zw (z:=r2)) (ne ze ?_))
 refine aS (aR ?_)
 (first | (refine nx (aF (gN rfl) rfl rfl rfl rfl rfl rfl rfl rfl rfl) (by first | rfl | kernel_rfl) ?_) | (refine nx (v9 (gN rfl) rfl rfl rfl rfl rfl rfl rfl rfl rfl rfl rfl) (by first | rfl | kernel_rfl) ?_) | (refine nx (D8 (gN rfl) rfl rfl rfl rfl rfl rfl rfl rfl rfl) (by first | rfl | kernel_rfl) ?_))
 (first | (refine nx (aL (gN rfl) rfl rfl rfl rfl rfl rfl rfl rfl rfl rfl rfl rfl) (by first | rfl | kernel_rfl) ?_) | (refine nx (q7 (gN rfl) rfl rfl rfl rfl rfl rfl rfl rfl rfl rfl rfl rfl rfl) (by first | rfl | kernel_rfl) ?_) | (refine nx (aLb (gN rfl) rfl rfl rfl rfl rfl rfl rfl rfl rfl rfl rfl rfl) (by first | rfl | kernel_rfl) ?_) | (refine nx (t7 (gN rfl) rfl rfl rfl rfl rfl rfl rfl rfl rfl) (by first | rfl | kernel_rfl) ?_) | (refine nx (q6 (gN rfl) rfl rfl rfl rfl rfl rfl rfl rfl rfl) (by first | rfl | kernel_rfl) ?_) | (refine nx (aLf (gN rfl) rfl rfl rfl rfl rfl rfl rfl rfl rfl rfl rfl rfl rfl) (by first | rfl | kernel_rfl) ?_) | (refine nx (a_load_fullv (gN rfl) rfl rfl rfl rfl rfl rfl rfl rfl rfl) (by first | rfl | kernel_rfl) ?_))
 refine ne zD (ne (zbM [.i 0,.lst []]) (ne (zbM a8u) ?_))
 (first | (refine nx (aF (gN rfl) rfl rfl rfl rfl rfl rfl rfl rfl rfl) (by first | rfl | kernel_rfl) ?_) | (refine nx (v9 (gN rfl) rfl rfl rfl rfl rfl rfl rfl rfl rfl rfl rfl) (by first | rfl | kernel_rfl) ?_) | (refine nx (D8 (gN rfl) rfl rfl rfl rfl rfl rfl rfl rfl rfl) (by first | rfl | kernel_rfl) ?_))
 (first | (refine nx (aL (gN rfl) rfl rfl rfl rfl rfl rfl rfl rfl rfl rfl rfl rfl) (by first | rfl | kernel_rfl) ?_) | (refine nx (q7 (gN rfl) rfl rfl rfl rfl rfl rfl rfl rfl rfl rfl rfl rfl rfl) (by first | rfl | kernel_rfl) ?_) | (refine nx (aLb (gN rfl) rfl rfl rfl rfl rfl rfl rfl rfl rfl rfl rfl rfl) (by first | rfl | kernel_rfl) ?_) | (refine nx (t7 (gN rfl) rfl rfl rfl rfl rfl rfl rfl rfl rfl) (by first | rfl | kernel_rfl) ?_) | (refine nx (q6 (gN rfl) rfl rfl rfl rfl rfl rfl rfl rfl rfl) (by first | rfl | kernel_rfl) ?_) | (refine nx (aLf (gN rfl) rfl rfl rfl rfl rfl rfl rfl rfl rfl rfl rfl rfl rfl) (by first | rfl | kernel_rfl) ?_) | (refine nx (a_load_fullv (gN rfl) rfl rfl rfl rfl rfl rfl rfl rfl rfl) (by first | rfl | kernel_rfl) ?_))
 refine ne zD (ne (zbM [.i 0,.lst []]) (ne (zbM a8u) (ne zD (ne (zw (z:=r3)) (ne ze ?_)))))
 refine aS (aR ?_)
 refine ne zl ?_
 (first | (refine nx (a2C (gN rfl) rfl rfl rfl rfl rfl rfl rfl) (by first | rfl | kernel_rfl) ?_) | (refine nx (Y7 (gN rfl) rfl rfl rfl rfl rfl rfl rfl) (by first | rfl | kernel_rfl) ?_) | (refine nx (N0 (gN rfl) rfl rfl rfl rfl rfl rfl rfl rfl) (by first | rfl | kernel_rfl) ?_))
 (first | (refine nx (a4H (gN rfl) rfl rfl rfl rfl rfl rfl) (by first | rfl | kernel_rfl) ?_) | (refine nx (a_beq (gN rfl) rfl rfl rfl rfl rfl rfl rfl) (by first | rfl | kernel_rfl) ?_))
 refine ne zl (ne (zl (p:=gb)) (ne (zq (j:=0) (r:=gb) (H:=rfl) (hz:=sZ rfl)) ?_))
 (first | (refine nx (aL gb rfl rfl rfl rfl rfl rfl rfl rfl rfl rfl rfl rfl) (by first | rfl | kernel_rfl) ?_) | (refine nx (q7 gb rfl rfl rfl rfl rfl rfl rfl rfl rfl rfl rfl rfl rfl) (by first | rfl | kernel_rfl) ?_) | (refine nx (aLb gb rfl rfl rfl rfl rfl rfl rfl rfl rfl rfl rfl rfl) (by first | rfl | kernel_rfl) ?_) | (refine nx (t7 gb rfl rfl rfl rfl rfl rfl rfl rfl rfl) (by first | rfl | kernel_rfl) ?_) | (refine nx (q6 gb rfl rfl rfl rfl rfl rfl rfl rfl rfl) (by first | rfl | kernel_rfl) ?_) | (refine nx (aLf gb rfl rfl rfl rfl rfl rfl rfl rfl rfl rfl rfl rfl rfl) (by first | rfl | kernel_rfl) ?_) | (refine nx (a_load_fullv gb rfl rfl rfl rfl rfl rfl rfl rfl rfl) (by first | rfl | kernel_rfl) ?_))
 (first | (refine nx (a2C gb rfl rfl rfl rfl rfl rfl rfl) (by first | rfl | kernel_rfl) ?_) | (refine nx (Y7 gb rfl rfl rfl rfl rfl rfl rfl) (by first | rfl | kernel_rfl) ?_) | (refine nx (N0 gb rfl rfl rfl rfl rfl rfl rfl rfl) (by first | rfl | kernel_rfl) ?_))
 (first | (refine nx (a4H gb rfl rfl rfl rfl rfl rfl) (by first | rfl | kernel_rfl) ?_) | (refine nx (a_beq gb rfl rfl rfl rfl rfl rfl rfl) (by first | rfl | kernel_rfl) ?_))
 (first | (refine ⟨_,_,_,aPt (gN rfl) rfl rfl rfl rfl rfl ?hb rfl,rfl,?_⟩;case hb=>(first | rfl | assumption | (simp;done))) | (refine ⟨_,_,_,aPf (gN rfl) rfl rfl rfl rfl rfl ?hb rfl,rfl,?_⟩;case hb=>(first | rfl | assumption | (simp;done))))
 refine ne zl (ne (zl (p:=gb)) ?_)
 (first | (refine nx (a2C gb rfl rfl rfl rfl rfl rfl rfl) (by first | rfl | kernel_rfl) ?_) | (refine nx (Y7 gb rfl rfl rfl rfl rfl rfl rfl) (by first | rfl | kernel_rfl) ?_) | (refine nx (N0 gb rfl rfl rfl rfl rfl rfl rfl rfl) (by first | rfl | kernel_rfl) ?_))
 refine ne (zA (r:=gb)) ?_
 (first | (refine ⟨_,_,_,aPt (gN rfl) rfl rfl rfl rfl rfl ?hb rfl,rfl,?_⟩;case hb=>(first | rfl | assumption | (simp;done))) | (refine ⟨_,_,_,aPf (gN rfl) rfl rfl rfl rfl rfl ?hb rfl,rfl,?_⟩;case hb=>(first | rfl | assumption | (simp;done))))
 refine ne zl (ne (zl (p:=gb)) ?_)
 (first | (refine nx (a2C gb rfl rfl rfl rfl rfl rfl rfl) (by first | rfl | kernel_rfl) ?_) | (refine nx (Y7 gb rfl rfl rfl rfl rfl rfl rfl) (by first | rfl | kernel_rfl) ?_) | (refine nx (N0 gb rfl rfl rfl rfl rfl rfl rfl rfl) (by first | rfl | kernel_rfl) ?_))
 (first | (refine nx (a4H gb rfl rfl rfl rfl rfl rfl) (by first | rfl | kernel_rfl) ?_) | (refine nx (a_beq gb rfl rfl rfl rfl rfl rfl rfl) (by first | rfl | kernel_rfl) ?_))
 (first | (refine ⟨_,_,_,aPt (gN rfl) rfl rfl rfl rfl rfl ?hb rfl,rfl,?_⟩;case hb=>(first | rfl | assumption | (simp;done))) | (refine ⟨_,_,_,aPf (gN rfl) rfl rfl rfl rfl rfl ?hb rfl,rfl,?_⟩;case hb=>(first | rfl | assumption | (simp;done))))
 refine ne zl (ne (zl (p:=gb)) (ne (zw (p:=gb) (z:=r4)) ?_))
 (first | (refine nx (a2C gb rfl rfl rfl rfl rfl rfl rfl) (by first | rfl | kernel_rfl) ?_) | (refine nx (Y7 gb rfl rfl rfl rfl rfl rfl rfl) (by first | rfl | kernel_rfl) ?_) | (refine nx (N0 gb rfl rfl rfl rfl rfl rfl rfl rfl) (by first | rfl | kernel_rfl) ?_))
 (first | (refine nx (a4H gb rfl rfl rfl rfl rfl rfl) (by first | rfl | kernel_rfl) ?_) | (refine nx (a_beq gb rfl rfl rfl rfl rfl rfl rfl) (by first | rfl | kernel_rfl) ?_))
 (first | (refine ⟨_,_,_,aPt (gN rfl) rfl rfl rfl rfl rfl ?hb rfl,rfl,?_⟩;case hb=>(first | rfl | assumption | (simp;done))) | (refine ⟨_,_,_,aPf (gN rfl) rfl rfl rfl rfl rfl ?hb rfl,rfl,?_⟩;case hb=>(first | rfl | assumption | (simp;done))))
 refine ne ze ?_
 exact aT (And.intro (.inr rfl) rfl)
theorem b4o {n:Nat} {c:CV} (h:Shp Tryz.prog n 4 c):∃ b,c = .b b:=by
 cases n with
 | zero=>exact h.elim
 | succ n =>
  rw [Shp,Tryz.underlying4] at h
  exact h
theorem b4E {n:Nat} {c:CV} (h:Shp Tryz.prog n 22 c):∃ l:List Lt,c = .lst (l.map Lt.cv)∧okC l:=by
 cases n with
 | zero=>exact h.elim
 | succ n =>
  rw [Shp,Tryz.underlying22] at h
  obtain ⟨l,rfl,hl⟩:=h
  obtain ⟨m,h1,h2⟩:=a2r Lt.cv (fun l=>l.a.rng∧l.b.rng) (l:=l) (fun x hx=>by
   have hx:=hl x hx
   cases n with
   | zero=>exact hx.elim
   | succ n =>
    have hx:Shp Tryz.prog (n+1) 53 x:=hx
    rw [Shp,Tryz.underlying53] at hx
    obtain ⟨l,rfl,hl,hf⟩:=hx
    match l,hl with
    | [x,y,z],_ =>
     obtain ⟨b,rfl⟩:=b4o (hf 0 _ x rfl rfl)
     obtain ⟨t,rfl,ht⟩:=b0r n (hf 1 _ y rfl rfl)
     obtain ⟨u,rfl,hu⟩:=b0r n (hf 2 _ z rfl rfl)
     exact ⟨⟨b,t,u⟩,rfl,ht,hu⟩)
  exact ⟨m,by rw [h1],h2⟩
end Go.Proofs.YtglmoficcjphaaaGreat
