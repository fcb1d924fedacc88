/-
 EqWeights: taking a literal off takes its weight off;what follows has no literal that none of it came of.
-/
import Derived.Test.YtglmoficcjphaaaGreatMg11
import Derived.Test.YtglmoficcjphaaaGreatAbShp
namespace Go.Proofs.YtglmoficcjphaaaGreat
open Go.RowKit
set_option linter.unusedVariables false
set_option linter.unusedSimpArgs false
set_option maxRecDepth 100000
theorem a5M (c d:List Lt):wtC (c++d)=wtC c+wtC d:=by
 unfold wtC
 rw [List.map_append,List.sum_append]
theorem b2V (c:List Lt):wtC (c.map Lt.strip)=wtC c:=by
 unfold wtC
 rw [List.map_map]
 congr 1
 refine List.map_congr_left fun l _=>?_
 simp only [Function.comp,Lt.strip,Tm.strip_size]
def ngC (c:List Lt):Nat:=(c.filter fun l=>l.neg).length
theorem a3f (c d:List Lt):ngC (c++d)=ngC c+ngC d:=by unfold ngC;rw [List.filter_append,List.length_append]
theorem b7H (f:Lt→Lt) (hf:∀ l,(f l).neg=l.neg) (c:List Lt):ngC (c.map f)=ngC c:=by
 unfold ngC
 rw [List.filter_map,List.length_map]
 congr 2
 funext l
 exact hf l
theorem a1D {c:List Lt} {n:Nat} {x:Lt} (h:c[n]?=some x):c=c.take n++(x::c.drop (n+1)):=by
 have h1:=List.take_append_drop n c
 obtain ⟨hlt,he⟩:=List.getElem?_eq_some_iff.1 h
 rw [List.drop_eq_getElem_cons hlt,he] at h1
 exact h1.symm
theorem b9H {c:List Lt} {n:Nat} {x:Lt} (h:c[n]?=some x):wtC (L2 c n)+wtC [x]=wtC c:=by
 have e:=a1D h
 have e2:wtC c=wtC (c.take n)+(wtC [x]+wtC (c.drop (n+1))):=by
  conv=>lhs;rw [e]
  rw [a5M,show x::c.drop (n+1)=[x]++c.drop (n+1) from rfl,a5M]
 unfold L2
 rw [a5M,e2]
 omega
theorem b9n {c:List Lt} {n:Nat} {x:Lt} (h:c[n]?=some x) (hx:x.neg=true):ngC (L2 c n)+1=ngC c:=by
 have e:=a1D h
 have h1:ngC [x]=1:=by unfold ngC;rw [List.filter_cons_of_pos hx];rfl
 have e2:ngC c=ngC (c.take n)+(ngC [x]+ngC (c.drop (n+1))):=by
  conv=>lhs;rw [e]
  rw [a3f,show x::c.drop (n+1)=[x]++c.drop (n+1) from rfl,a3f]
 unfold L2
 rw [a3f,e2]
 omega
theorem b9E {c d:List Lt} (h:d∈Q8 c):ngC d+1=ngC c:=by
 obtain ⟨n,x,_,_,hx,hn,_,rfl⟩:=b1f h
 rw [b7H (Lt.rep _) fun l=>rfl]
 exact b9n hx hn
theorem a7q {c:List Lt} {k:Nat} {x:Lt} (h:c[k]?=some x):ngC (c.take (k+1))=ngC (c.take k)+if x.neg=true then 1 else 0:=by
 rw [List.take_add_one,h,a3f]
 congr 1
 unfold ngC
 cases hx:x.neg<;>simp [hx]
theorem c0G {c:List Lt} (h:∀ l∈c,l.ten):wtC c≤20*c.length:=by
 induction c with
 | nil=>exact Nat.zero_le _
 | cons x c ih =>
  have h1:=ih fun l hl=>h l (List.mem_cons_of_mem _ hl)
  have h2:=(h x (by simp)).1.2
  have h3:=(h x (by simp)).2.2
  unfold wtC at h1 ⊢
  rw [List.map_cons,List.sum_cons,List.length_cons]
  omega
set_option maxHeartbeats 8000000 in
theorem a4n (W:World) (c:List Lt) (i:Int) (hr:okC c):AFun Tryz.prog W 6 [.lst (c.map Lt.cv),.i i] (.val (.b true)):=by
 refine b6 (rs:=[.b true]) Tryz.func6 Tryz.ntmps6 rfl rfl rfl rfl ?_
 intro w U hW
 refine aS (aR ?_)
 refine ne ze ?_
 refine aS (aS (aR ?_))
 refine ne (zw (z:=a6W w)) (ne zX ?_)
 refine aC rfl (fun hc=>by cases hc) (fun _=>aK ?_)
 have hfi:=a9q w c 5 10 (by decide) (by decide) (by decide) hr
 cases hF:U7 c 5 10 with
 | false =>
  rw [hF] at hfi
  refine aS (aS (aR ?_))
  refine ne zl (ne (zw (z:=hfi)) (ne zX ?_))
  refine aC rfl (fun hc=>?_) (fun hc=>by cases hc)
  refine aS (aR ?_)
  refine ne ze ?_
  exact aT (And.intro (.inr rfl) rfl)
 | true =>
 rw [hF] at hfi
 obtain ⟨hcl,hct⟩:=b3D (by decide) (by decide) hF
 have hfit:=b0U hct
 have hok:∀ l∈c,l.a.ok∧l.b.ok:=fun l hl=>⟨(hfit l hl).1.2,(hfit l hl).2.2⟩
 have hrg:∀ l∈c,l.rng:=fun l hl=>⟨(hfit l hl).1.1,(hfit l hl).2.1⟩
 have hrs:∀ d:List Lt,(∀ l∈d,l∈c)→∀ l∈d.map Lt.strip,l.rng:=fun d hd l hl=>by
  obtain ⟨x,hx,rfl⟩:=List.mem_map.1 hl
  exact ⟨Tm.strip_rng (hrg x (hd x hx)).1,Tm.strip_rng (hrg x (hd x hx)).2⟩
 have hsz:=Lt.size_all c
 have hclm:(c.map Lt.cv).length=c.length:=List.length_map ..
 refine aS (aS (aR ?_))
 refine ne zl (ne (zw (z:=hfi)) (ne zX ?_))
 refine aC rfl (fun hc=>by cases hc) (fun _=>aK ?_)
 refine aS (aR ?_)
 refine ne zl (ne (zw (z:=b3u w c (by omega) hok)) (ne ze ?_))
 have hwi:=a5B w c i (by omega) hfit
 by_cases hin:0≤i∧i<c.length
 case neg =>
  rw [if_neg hin] at hwi
  have hsm:=a4J w c (c.map Lt.strip) (by omega) hrg (hrs c fun l h=>h)
  rw [a1w.2 (a6r c).symm] at hsm
  refine aS (aR ?_)
  refine ne zl (ne zl (ne (zw (z:=hwi)) (ne ze ?_)))
  refine aS (a3m [(5,.val (.lst (c.map Lt.cv))),(6,.val (.lst ((c.map Lt.strip).map Lt.cv))),(30,.val (.b true))] ?_ ?_)
  ·by_cases h0:i<0
   ·have g0:decide (i<0)=true:=decide_eq_true h0
    refine aR ?_
    refine ne zl (ne zi (ne zl (nc zO (nc zO (nc zO (nc zO ?_))))))
    (first | (refine ⟨_,_,_,aPt (gN rfl) rfl rfl rfl rfl rfl ?hb rfl,rfl,?_⟩;case hb=>(first | rfl | assumption | (simp;done))) | (refine ⟨_,_,_,aPf (gN rfl) rfl rfl rfl rfl rfl ?hb rfl,rfl,?_⟩;case hb=>(first | rfl | assumption | (simp;done))))
    exact a7 ⟨rfl,rfl,rfl,trivial⟩
   ·have g0:decide (i<0)=false:=decide_eq_false h0
    have g1:decide (i≥((c.map Lt.cv).length:Int))=true:=decide_eq_true (by rw [hclm];omega)
    refine aR ?_
    refine ne zl (ne zi (ne zl (ne (zl (p:=gb)) (ne (zl (p:=gb)) ?_))))
    (first | (refine nx (a3h gb rfl rfl rfl rfl rfl rfl rfl) (by first | rfl | kernel_rfl) ?_) | (refine nx (X2 gb rfl rfl rfl rfl rfl rfl rfl) (by first | rfl | kernel_rfl) ?_) | (refine nx (M5 gb rfl rfl rfl rfl rfl rfl rfl rfl) (by first | rfl | kernel_rfl) ?_))
    refine ne (zbg (r:=gb)) ?_
    (first | (refine ⟨_,_,_,aPt (gN rfl) rfl rfl rfl rfl rfl ?hb rfl,rfl,?_⟩;case hb=>(first | rfl | assumption | (simp;done))) | (refine ⟨_,_,_,aPf (gN rfl) rfl rfl rfl rfl rfl ?hb rfl,rfl,?_⟩;case hb=>(first | rfl | assumption | (simp;done))))
    refine a7 ⟨rfl,rfl,?_,trivial⟩
    show some (AV.val (.b (decide (i≥((c.map Lt.cv).length:Int)))))=_
    rw [g1]
  refine aC rfl (fun _=>?_) (fun h=>by cases h)
  refine aS (aR ?_)
  refine ne zl (ne zl (ne (zw (z:=hsm)) (ne ze ?_)))
  exact aT (And.intro (.inr rfl) rfl)
 rw [if_pos hin] at hwi
 obtain ⟨n,rfl⟩:∃ n:Nat,i=(n:Int):=⟨i.toNat,by omega⟩
 rw [Int.toNat_natCast] at hwi
 have hn:n<c.length:=by omega
 obtain ⟨x,hx⟩:∃ x,c[n]?=some x:=⟨c[n],List.getElem?_eq_getElem hn⟩
 have hx':=Lt.map_at hx
 have hxt:=hct x (List.mem_of_getElem? hx)
 have hol:=a0z hn
 obtain ⟨Y,hY⟩:∃ Y,Y=(L2 c n).map Lt.strip:=⟨_,rfl⟩
 have hYl:Y.length+1=c.length:=by rw [hY,List.length_map];exact hol
 have hYm:(Y.map Lt.cv).length=Y.length:=List.length_map ..
 have hYr:∀ l∈Y,l.rng:=by rw [hY];exact hrs _ fun l h=>a3M h
 have hszY:=Lt.size_all Y
 have hwY:wtC Y+wtC [x]=wtC c:=by rw [hY,b2V];exact b9H hx
 have hwl:=c0G hct
 rw [←hY] at hwi
 have hw1:=T0 w Y (by omega) (by omega) hYr
 have hw2:=T0 w [x] (by simp) (by omega) (fun l hl=>by rw [List.mem_singleton] at hl;rw [hl];exact hrg x (List.mem_of_getElem? hx))
 have hw3:=T0 w c (by omega) (by omega) hrg
 have hcut:((c.map Lt.cv).drop n).take (n+1-n)=[x].map Lt.cv:=by
  rw [show n+1-n=1 by omega,←List.map_drop,←List.map_take]
  congr 1
  obtain ⟨hlt,he⟩:=List.getElem?_eq_some_iff.1 hx
  rw [List.drop_eq_getElem_cons hlt,he]
  rfl
 rw [←hcut] at hw2
 refine aS (aR ?_)
 refine ne zl (ne zl (ne (zw (z:=hwi)) (ne ze ?_)))
 have g0:decide ((n:Int)<0)=false:=decide_eq_false (by omega)
 have g1:decide ((n:Int)≥((c.map Lt.cv).length:Int))=false:=decide_eq_false (by rw [hclm];omega)
 refine aS (aS (aR ?_))
 refine ne zl (ne zi (ne zl (ne (zl (p:=gb)) (ne (zl (p:=gb)) ?_))))
 (first | (refine nx (a3h gb rfl rfl rfl rfl rfl rfl rfl) (by first | rfl | kernel_rfl) ?_) | (refine nx (X2 gb rfl rfl rfl rfl rfl rfl rfl) (by first | rfl | kernel_rfl) ?_) | (refine nx (M5 gb rfl rfl rfl rfl rfl rfl rfl rfl) (by first | rfl | kernel_rfl) ?_))
 refine ne (zbg (r:=gb)) ?_
 (first | (refine ⟨_,_,_,aPt (gN rfl) rfl rfl rfl rfl rfl ?hb rfl,rfl,?_⟩;case hb=>(first | rfl | assumption | (simp;done))) | (refine ⟨_,_,_,aPf (gN rfl) rfl rfl rfl rfl rfl ?hb rfl,rfl,?_⟩;case hb=>(first | rfl | assumption | (simp;done))))
 refine aC rfl (fun h=>by rw [g1] at h;cases h) (fun _=>aK ?_)
 have g2:decide (((Y.map Lt.cv).length:Int)≠((c.map Lt.cv).length:Int)-1)=false:=decide_eq_false (by rw [hYm,hclm];omega)
 have g3:decide ((wtC Y:Int)+(wtC [x]:Int)≠(wtC c:Int))=false:=decide_eq_false (by omega)
 refine aS (aS (aD (by kernel_rfl) (by kernel_rfl) ?_))
 refine ne zl ?_
 (first | (refine nx (a3h (gN rfl) rfl rfl rfl rfl rfl rfl rfl) (by first | rfl | kernel_rfl) ?_) | (refine nx (X2 (gN rfl) rfl rfl rfl rfl rfl rfl rfl) (by first | rfl | kernel_rfl) ?_) | (refine nx (M5 (gN rfl) rfl rfl rfl rfl rfl rfl rfl rfl) (by first | rfl | kernel_rfl) ?_))
 refine ne zl ?_
 (first | (refine nx (a3h (gN rfl) rfl rfl rfl rfl rfl rfl rfl) (by first | rfl | kernel_rfl) ?_) | (refine nx (X2 (gN rfl) rfl rfl rfl rfl rfl rfl rfl) (by first | rfl | kernel_rfl) ?_) | (refine nx (M5 (gN rfl) rfl rfl rfl rfl rfl rfl rfl rfl) (by first | rfl | kernel_rfl) ?_))
 refine ne zj ?_
 (first | (refine nx (b2Y (gN rfl) rfl rfl rfl rfl rfl rfl) (by first | rfl | kernel_rfl) ?_) | (refine nx (a_bne (gN rfl) rfl rfl rfl rfl rfl rfl rfl) (by first | rfl | kernel_rfl) ?_))
 refine ne zl (ne (zl (p:=gb)) (ne (zw (p:=gb) (z:=hw1)) (ne (zl (p:=gb)) (ne (zl (p:=gb)) (ne (zl (p:=gb)) (ne (zu (r:=gb)) ?_))))))
 (refine nx (c0t (lo:=n) (hi':=n+1) gb rfl rfl rfl rfl rfl rfl rfl rfl rfl (by first | rfl | omega | (simp only [List.length_set,List.length_map,List.length_append,List.length_cons,List.length_nil]<;>omega) | (simp<;>omega)) (by first | rfl | omega | (simp only [List.length_set,List.length_map,List.length_append,List.length_cons,List.length_nil]<;>omega) | (simp<;>omega)) (by first | rfl | omega | (simp only [List.length_set,List.length_map,List.length_append,List.length_cons,List.length_nil]<;>omega) | (simp<;>omega)) (by first | rfl | omega | (simp only [List.length_set,List.length_map,List.length_append,List.length_cons,List.length_nil]<;>omega) | (simp<;>omega)) (by first | assumption | exact sZ rfl | exact Tm.size_all _ | exact Bd.size_all _ | exact i7 _ | exact bys_size _ | exact Lt.size_all _)) (by first | rfl | kernel_rfl) ?_)
 refine ne (zw (p:=gb) (z:=hw2)) (ne (zu (r:=gb)) (ne (zl (p:=gb)) (ne (zw (p:=gb) (z:=hw3)) ?_)))
 (first | (refine nx (b2Y gb rfl rfl rfl rfl rfl rfl) (by first | rfl | kernel_rfl) ?_) | (refine nx (a_bne gb rfl rfl rfl rfl rfl rfl rfl) (by first | rfl | kernel_rfl) ?_))
 (first | (refine ⟨_,_,_,aPt (gN rfl) rfl rfl rfl rfl rfl ?hb rfl,rfl,?_⟩;case hb=>(first | rfl | assumption | (simp;done))) | (refine ⟨_,_,_,aPf (gN rfl) rfl rfl rfl rfl rfl ?hb rfl,rfl,?_⟩;case hb=>(first | rfl | assumption | (simp;done))))
 refine ⟨by kernel_rfl,?_⟩
 refine aC rfl (fun h=>by rw [g3] at h;cases h) (fun _=>aK ?_)
 have hA:∀ d∈Q8 c,d.length+1=c.length:=fun d hd=>(b6w hct hd).1
 have hAl:(Q8 c).length≤100:=by have:=b6G c;omega
 have hAn:∀ d∈Q8 c,ngC d+1=ngC c:=fun d hd=>b9E hd
 have hszA:=a8f (Q8 c)
 have hRc:=a7L w c (by omega) hct
 obtain ⟨A,hAe⟩:∃ A,A=Q8 c:=⟨_,rfl⟩
 rw [←hAe] at hA hAl hAn hszA hRc
 refine aS (aR ?_)
 refine ne zl (ne (zw (z:=hRc)) (ne ze ?_))
 refine AWp.wk (a7 (s':=[(1,.val (.i (n:Int))),(5,.val (.lst (c.map Lt.cv))),(6,.val (.lst (Y.map Lt.cv))),(7,.val (.lst (A.map clC)))]) ⟨rfl,rfl,rfl,rfl,trivial⟩) ?_
 refine aS (aS (aR ?_))
 refine ne ze ?_
 refine aB (o5 A.length (fun k=>[(1,.val (.i (n:Int))),(5,.val (.lst (c.map Lt.cv))),(6,.val (.lst (Y.map Lt.cv))),(7,.val (.lst (A.map clC))),(8,.val (.i k))]) (a7 ⟨rfl,rfl,rfl,rfl,rfl,trivial⟩) ?_)
 intro k hk
 refine aS (aS (aR ?_))
 refine ne zl (ne zl ?_)
 (first | (refine nx (a3h (gN rfl) rfl rfl rfl rfl rfl rfl rfl) (by first | rfl | kernel_rfl) ?_) | (refine nx (X2 (gN rfl) rfl rfl rfl rfl rfl rfl rfl) (by first | rfl | kernel_rfl) ?_) | (refine nx (M5 (gN rfl) rfl rfl rfl rfl rfl rfl rfl rfl) (by first | rfl | kernel_rfl) ?_))
 refine ne zi ?_
 refine aC rfl (fun hlt=>?_) (fun hlt=>?_)
 ·have hkl:k<A.length:=by simpa using hlt
  obtain ⟨d,hd⟩:∃ d,A[k]?=some d:=⟨A[k],List.getElem?_eq_getElem hkl⟩
  have hd':=b9K hd
  have hdl:=hA d (List.mem_of_getElem? hd)
  have hdn:=hAn d (List.mem_of_getElem? hd)
  have hszD:=Lt.size_all d
  have hngc:∀ (L:List Lt) (j:Nat),ngC (L.take j)≤L.length:=fun L j=>by
   unfold ngC
   exact Nat.le_trans (List.length_filter_le _ _) (by rw [List.length_take];omega)
  refine aK ?_
  refine aS (aB (aS (aR ?_)))
  refine ne ze (ne ze ?_)
  refine aS (aS (aR ?_))
  refine ne ze ?_
  refine aB (o5 d.length (fun j=>[(1,.val (.i (n:Int))),(5,.val (.lst (c.map Lt.cv))),(6,.val (.lst (Y.map Lt.cv))),(7,.val (.lst (A.map clC))),(8,.val (.i k)),(9,.val (.i (ngC (d.take j)))),(10,.val (.i 0)),(11,.val (.i j))]) (a7 ⟨rfl,rfl,rfl,rfl,rfl,rfl,rfl,rfl,trivial⟩) ?_)
  intro j hj
  refine aS (aS (aR ?_))
  refine ne zl (ne zl (ne zl (ne (zq (j:=k) (H:=hd') (hz:=hszA)) ?_)))
  (first | (refine nx (aL (gN rfl) rfl rfl rfl rfl rfl rfl rfl rfl rfl rfl rfl rfl) (by first | rfl | kernel_rfl) ?_) | (refine nx (w7 (gN rfl) rfl rfl rfl rfl rfl rfl rfl rfl rfl rfl rfl rfl rfl) (by first | rfl | kernel_rfl) ?_) | (refine nx (aLb (gN rfl) rfl rfl rfl rfl rfl rfl rfl rfl rfl rfl rfl rfl) (by first | rfl | kernel_rfl) ?_) | (refine nx (y9 (gN rfl) rfl rfl rfl rfl rfl rfl rfl rfl rfl) (by first | rfl | kernel_rfl) ?_) | (refine nx (v8 (gN rfl) rfl rfl rfl rfl rfl rfl rfl rfl rfl) (by first | rfl | kernel_rfl) ?_) | (refine nx (aLf (gN rfl) rfl rfl rfl rfl rfl rfl rfl rfl rfl rfl rfl rfl rfl) (by first | rfl | kernel_rfl) ?_) | (refine nx (a_load_fullv (gN rfl) rfl rfl rfl rfl rfl rfl rfl rfl rfl) (by first | rfl | kernel_rfl) ?_))
  (first | (refine nx (a3h (gN rfl) rfl rfl rfl rfl rfl rfl rfl) (by first | rfl | kernel_rfl) ?_) | (refine nx (X2 (gN rfl) rfl rfl rfl rfl rfl rfl rfl) (by first | rfl | kernel_rfl) ?_) | (refine nx (M5 (gN rfl) rfl rfl rfl rfl rfl rfl rfl rfl) (by first | rfl | kernel_rfl) ?_))
  refine ne zi ?_
  refine aC rfl (fun hlt2=>?_) (fun hlt2=>?_)
  ·have hjl:j<d.length:=by simpa using hlt2
   obtain ⟨y,hy⟩:∃ y,d[j]?=some y:=⟨d[j],List.getElem?_eq_getElem hjl⟩
   have hy':=Lt.map_at hy
   have hT:=a7q hy
   have hnb:=hngc d j
   refine aK ?_
   refine aS (aB (aS (aR ?_)))
   refine ne zl (ne zl (ne (zq (j:=k) (H:=hd') (hz:=hszA)) ?_))
   (first | (refine nx (aL (gN rfl) rfl rfl rfl rfl rfl rfl rfl rfl rfl rfl rfl rfl) (by first | rfl | kernel_rfl) ?_) | (refine nx (w7 (gN rfl) rfl rfl rfl rfl rfl rfl rfl rfl rfl rfl rfl rfl rfl) (by first | rfl | kernel_rfl) ?_) | (refine nx (aLb (gN rfl) rfl rfl rfl rfl rfl rfl rfl rfl rfl rfl rfl rfl) (by first | rfl | kernel_rfl) ?_) | (refine nx (y9 (gN rfl) rfl rfl rfl rfl rfl rfl rfl rfl rfl) (by first | rfl | kernel_rfl) ?_) | (refine nx (v8 (gN rfl) rfl rfl rfl rfl rfl rfl rfl rfl rfl) (by first | rfl | kernel_rfl) ?_) | (refine nx (aLf (gN rfl) rfl rfl rfl rfl rfl rfl rfl rfl rfl rfl rfl rfl rfl) (by first | rfl | kernel_rfl) ?_) | (refine nx (a_load_fullv (gN rfl) rfl rfl rfl rfl rfl rfl rfl rfl rfl) (by first | rfl | kernel_rfl) ?_))
   refine ne zl (ne (zq (j:=j) (H:=hy') (hz:=hszD)) ?_)
   (first | (refine nx (aF (gN rfl) rfl rfl rfl rfl rfl rfl rfl rfl rfl) (by first | rfl | kernel_rfl) ?_) | (refine nx (D5 (gN rfl) rfl rfl rfl rfl rfl rfl rfl rfl rfl rfl rfl) (by first | rfl | kernel_rfl) ?_) | (refine nx (K7 (gN rfl) rfl rfl rfl rfl rfl rfl rfl rfl rfl) (by first | rfl | kernel_rfl) ?_))
   (first | (refine nx (aL (gN rfl) rfl rfl rfl rfl rfl rfl rfl rfl rfl rfl rfl rfl) (by first | rfl | kernel_rfl) ?_) | (refine nx (w7 (gN rfl) rfl rfl rfl rfl rfl rfl rfl rfl rfl rfl rfl rfl rfl) (by first | rfl | kernel_rfl) ?_) | (refine nx (aLb (gN rfl) rfl rfl rfl rfl rfl rfl rfl rfl rfl rfl rfl rfl) (by first | rfl | kernel_rfl) ?_) | (refine nx (y9 (gN rfl) rfl rfl rfl rfl rfl rfl rfl rfl rfl) (by first | rfl | kernel_rfl) ?_) | (refine nx (v8 (gN rfl) rfl rfl rfl rfl rfl rfl rfl rfl rfl) (by first | rfl | kernel_rfl) ?_) | (refine nx (aLf (gN rfl) rfl rfl rfl rfl rfl rfl rfl rfl rfl rfl rfl rfl rfl) (by first | rfl | kernel_rfl) ?_) | (refine nx (a_load_fullv (gN rfl) rfl rfl rfl rfl rfl rfl rfl rfl rfl) (by first | rfl | kernel_rfl) ?_))
   refine aC rfl (fun hq=>?_) (fun hq=>?_)
   ·have hq:y.neg=true:=hq
    rw [if_pos hq] at hT
    refine aR ?_
    refine ne zl (ne zu (ne ze ?_))
    refine aR ?_
    refine ne zl (ne zu (ne ze ?_))
    refine ⟨hjl,a7 ⟨rfl,rfl,rfl,rfl,rfl,?_,rfl,rfl,trivial⟩⟩
    rw [hT];rfl
   ·have hq:y.neg=false:=hq
    rw [if_neg (by rw [hq];decide)] at hT
    refine aK ?_
    refine aR ?_
    refine ne zl (ne zu (ne ze ?_))
    refine ⟨hjl,a7 ⟨rfl,rfl,rfl,rfl,rfl,?_,rfl,rfl,trivial⟩⟩
    rw [hT];rfl
  have hjl:j=d.length:=by
   have:¬ j<d.length:=by simpa using hlt2
   omega
  subst hjl
  rw [List.take_length]
  refine aE ?_
  refine aS (aS (aR ?_))
  refine ne ze ?_
  refine aB (o5 c.length (fun j=>[(1,.val (.i (n:Int))),(5,.val (.lst (c.map Lt.cv))),(6,.val (.lst (Y.map Lt.cv))),(7,.val (.lst (A.map clC))),(8,.val (.i k)),(9,.val (.i (ngC d))),(10,.val (.i (ngC (c.take j)))),(12,.val (.i j))]) (a7 ⟨rfl,rfl,rfl,rfl,rfl,rfl,rfl,rfl,trivial⟩) ?_)
  intro j hj
  refine aS (aS (aR ?_))
  refine ne zl (ne zl ?_)
  (first | (refine nx (a3h (gN rfl) rfl rfl rfl rfl rfl rfl rfl) (by first | rfl | kernel_rfl) ?_) | (refine nx (X2 (gN rfl) rfl rfl rfl rfl rfl rfl rfl) (by first | rfl | kernel_rfl) ?_) | (refine nx (M5 (gN rfl) rfl rfl rfl rfl rfl rfl rfl rfl) (by first | rfl | kernel_rfl) ?_))
  refine ne zi ?_
  refine aC rfl (fun hlt3=>?_) (fun hlt3=>?_)
  ·have hjl:j<c.length:=by simpa using hlt3
   obtain ⟨y,hy⟩:∃ y,c[j]?=some y:=⟨c[j],List.getElem?_eq_getElem hjl⟩
   have hy':=Lt.map_at hy
   have hT:=a7q hy
   have hnb:=hngc c j
   refine aK ?_
   refine aS (aB (aS (aR ?_)))
   refine ne zl (ne zl (ne (zq (j:=j) (H:=hy') (hz:=hsz)) ?_))
   (first | (refine nx (aF (gN rfl) rfl rfl rfl rfl rfl rfl rfl rfl rfl) (by first | rfl | kernel_rfl) ?_) | (refine nx (D5 (gN rfl) rfl rfl rfl rfl rfl rfl rfl rfl rfl rfl rfl) (by first | rfl | kernel_rfl) ?_) | (refine nx (K7 (gN rfl) rfl rfl rfl rfl rfl rfl rfl rfl rfl) (by first | rfl | kernel_rfl) ?_))
   (first | (refine nx (aL (gN rfl) rfl rfl rfl rfl rfl rfl rfl rfl rfl rfl rfl rfl) (by first | rfl | kernel_rfl) ?_) | (refine nx (w7 (gN rfl) rfl rfl rfl rfl rfl rfl rfl rfl rfl rfl rfl rfl rfl) (by first | rfl | kernel_rfl) ?_) | (refine nx (aLb (gN rfl) rfl rfl rfl rfl rfl rfl rfl rfl rfl rfl rfl rfl) (by first | rfl | kernel_rfl) ?_) | (refine nx (y9 (gN rfl) rfl rfl rfl rfl rfl rfl rfl rfl rfl) (by first | rfl | kernel_rfl) ?_) | (refine nx (v8 (gN rfl) rfl rfl rfl rfl rfl rfl rfl rfl rfl) (by first | rfl | kernel_rfl) ?_) | (refine nx (aLf (gN rfl) rfl rfl rfl rfl rfl rfl rfl rfl rfl rfl rfl rfl rfl) (by first | rfl | kernel_rfl) ?_) | (refine nx (a_load_fullv (gN rfl) rfl rfl rfl rfl rfl rfl rfl rfl rfl) (by first | rfl | kernel_rfl) ?_))
   refine aC rfl (fun hq=>?_) (fun hq=>?_)
   ·have hq:y.neg=true:=hq
    rw [if_pos hq] at hT
    refine aR ?_
    refine ne zl (ne zu (ne ze ?_))
    refine aR ?_
    refine ne zl (ne zu (ne ze ?_))
    refine ⟨hjl,a7 ⟨rfl,rfl,rfl,rfl,rfl,rfl,?_,rfl,trivial⟩⟩
    rw [hT];rfl
   ·have hq:y.neg=false:=hq
    rw [if_neg (by rw [hq];decide)] at hT
    refine aK ?_
    refine aR ?_
    refine ne zl (ne zu (ne ze ?_))
    refine ⟨hjl,a7 ⟨rfl,rfl,rfl,rfl,rfl,rfl,?_,rfl,trivial⟩⟩
    rw [hT];rfl
  have hjl:j=c.length:=by
   have:¬ j<c.length:=by simpa using hlt3
   omega
  subst hjl
  rw [List.take_length]
  have hnc:ngC c≤c.length:=by have:=hngc c c.length;rw [List.take_length] at this;exact this
  have g4:decide ((ngC d:Int)≠(ngC c:Int)-1)=false:=decide_eq_false (by omega)
  refine aE ?_
  refine aS (aR ?_)
  refine ne zl (ne zl (ne zj ?_))
  (first | (refine nx (b2Y (gN rfl) rfl rfl rfl rfl rfl rfl) (by first | rfl | kernel_rfl) ?_) | (refine nx (a_bne (gN rfl) rfl rfl rfl rfl rfl rfl rfl) (by first | rfl | kernel_rfl) ?_))
  refine aC rfl (fun h=>by rw [g4] at h;cases h) (fun _=>aK ?_)
  refine aR ?_
  refine ne zl (ne zu (ne ze ?_))
  exact ⟨hkl,a7 ⟨rfl,rfl,rfl,rfl,rfl,trivial⟩⟩
 ·have hkl:k=A.length:=by
   have:¬ k<A.length:=by simpa using hlt
   omega
  subst hkl
  refine aE ?_
  have hZr:∀ l∈Y.take n++(x::Y.drop n),l.rng:=fun l hl=>by
   rcases List.mem_append.1 hl with h | h
   ·exact hYr l (List.mem_of_mem_take h)
   ·rcases List.mem_cons.1 h with rfl | h
    ·exact hrg _ (List.mem_of_getElem? hx)
    ·exact hYr l (List.mem_of_mem_drop h)
  have hZs:a0S (Y.take n++(x::Y.drop n)) c=true:=by
   rw [a1w,List.map_append,List.map_cons,hY,←List.map_take,←List.map_drop,a6r,a6r]
   have e1:(L2 c n).take n=c.take n:=by
    unfold L2
    rw [List.take_append_of_le_length (by rw [List.length_take];omega),List.take_take,Nat.min_self]
   have e2:(L2 c n).drop n=c.drop (n+1):=by
    unfold L2
    rw [List.drop_append_of_le_length (by rw [List.length_take];omega),List.drop_of_length_le (by rw [List.length_take];omega),List.nil_append]
   rw [e1,e2]
   conv=>rhs;rw [a1D hx]
   rw [List.map_append,List.map_cons]
  have hsm:=a4J w (Y.take n++(x::Y.drop n)) c (by rw [List.length_append,List.length_cons,List.length_take,List.length_drop];omega) hZr hrg
  rw [hZs] at hsm
  have hZe:(Y.take n++(x::Y.drop n)).map Lt.cv=([]++(Y.map Lt.cv).take n)++(([]++[x.cw])++(Y.map Lt.cv).drop n):=by
   rw [List.map_append,List.map_cons,List.map_take,List.map_drop]
   rfl
  rw [hZe] at hsm
  have hs1:∀ z∈(Y.map Lt.cv).take n,z.size=5:=fun z hz=>hszY z (List.mem_of_mem_take hz)
  have hs2:∀ z∈(Y.map Lt.cv).drop n,z.size=5:=fun z hz=>hszY z (List.mem_of_mem_drop hz)
  have hs3:∀ z∈[x.cw]++(Y.map Lt.cv).drop n,z.size=5:=fun z hz=>by
   rcases List.mem_append.1 hz with hz | hz
   ·rw [List.mem_singleton.1 hz];rfl
   ·exact hs2 z hz
  have hb1:((Y.map Lt.cv).take n).length≤12:=by rw [List.length_take,hYm];omega
  have hb2:((Y.map Lt.cv).drop n).length≤12:=by rw [List.length_drop,hYm];omega
  refine aS (aD (by kernel_rfl) (by kernel_rfl) ?_)
  refine ne zS (ne zl (ne zl (ne zbM ?_)))
  (first | (refine nx (a9B (gN rfl) rfl rfl rfl rfl rfl rfl rfl rfl rfl rfl rfl rfl rfl rfl rfl (by first | assumption | exact sZ rfl | exact Tm.size_all _ | exact Bd.size_all _ | exact i7 _ | exact bys_size _ | exact Lt.size_all _) (by first | assumption | exact sZ rfl | exact Tm.size_all _ | exact Bd.size_all _ | exact i7 _ | exact bys_size _ | exact Lt.size_all _) (by first | omega | (simp only [List.length_map,List.length_append,List.length_cons,List.length_nil]<;>omega) | (simp<;>omega))) (by first | rfl | kernel_rfl) ?_) | (refine nx (a_app_nil (gN rfl) rfl rfl rfl rfl rfl rfl rfl rfl rfl rfl rfl (by first | assumption | exact sZ rfl | exact Tm.size_all _ | exact Bd.size_all _ | exact i7 _ | exact bys_size _ | exact Lt.size_all _) (by first | assumption | exact sZ rfl | exact Tm.size_all _ | exact Bd.size_all _ | exact i7 _ | exact bys_size _ | exact Lt.size_all _) (by first | omega | (simp only [List.length_map,List.length_append,List.length_cons,List.length_nil]<;>omega) | (simp<;>omega))) (by first | rfl | kernel_rfl) ?_))
  refine ne zS (ne zl (ne zl (ne (zq (j:=n) (H:=hx') (hz:=hsz)) ?_)))
  (first | (refine nx (aL (gN rfl) rfl rfl rfl rfl rfl rfl rfl rfl rfl rfl rfl rfl) (by first | rfl | kernel_rfl) ?_) | (refine nx (w7 (gN rfl) rfl rfl rfl rfl rfl rfl rfl rfl rfl rfl rfl rfl rfl) (by first | rfl | kernel_rfl) ?_) | (refine nx (aLb (gN rfl) rfl rfl rfl rfl rfl rfl rfl rfl rfl rfl rfl rfl) (by first | rfl | kernel_rfl) ?_) | (refine nx (y9 (gN rfl) rfl rfl rfl rfl rfl rfl rfl rfl rfl) (by first | rfl | kernel_rfl) ?_) | (refine nx (v8 (gN rfl) rfl rfl rfl rfl rfl rfl rfl rfl rfl) (by first | rfl | kernel_rfl) ?_) | (refine nx (aLf (gN rfl) rfl rfl rfl rfl rfl rfl rfl rfl rfl rfl rfl rfl rfl) (by first | rfl | kernel_rfl) ?_) | (refine nx (a_load_fullv (gN rfl) rfl rfl rfl rfl rfl rfl rfl rfl rfl) (by first | rfl | kernel_rfl) ?_))
  refine ne zD ?_
  (first | (refine nx (a9B (gN rfl) rfl rfl rfl rfl rfl rfl rfl rfl rfl rfl rfl rfl rfl rfl rfl (by first | assumption | exact sZ rfl | exact Tm.size_all _ | exact Bd.size_all _ | exact i7 _ | exact bys_size _ | exact Lt.size_all _) (by first | assumption | exact sZ rfl | exact Tm.size_all _ | exact Bd.size_all _ | exact i7 _ | exact bys_size _ | exact Lt.size_all _) (by first | omega | (simp only [List.length_map,List.length_append,List.length_cons,List.length_nil]<;>omega) | (simp<;>omega))) (by first | rfl | kernel_rfl) ?_) | (refine nx (a_app_nil (gN rfl) rfl rfl rfl rfl rfl rfl rfl rfl rfl rfl rfl (by first | assumption | exact sZ rfl | exact Tm.size_all _ | exact Bd.size_all _ | exact i7 _ | exact bys_size _ | exact Lt.size_all _) (by first | assumption | exact sZ rfl | exact Tm.size_all _ | exact Bd.size_all _ | exact i7 _ | exact bys_size _ | exact Lt.size_all _) (by first | omega | (simp only [List.length_map,List.length_append,List.length_cons,List.length_nil]<;>omega) | (simp<;>omega))) (by first | rfl | kernel_rfl) ?_))
  refine ne zl (ne zl (ne (zbz (lo:=n)) ?_))
  (first | (refine nx (a9B (gN rfl) rfl rfl rfl rfl rfl rfl rfl rfl rfl rfl rfl rfl rfl rfl rfl (by first | assumption | exact sZ rfl | exact Tm.size_all _ | exact Bd.size_all _ | exact i7 _ | exact bys_size _ | exact Lt.size_all _) (by first | assumption | exact sZ rfl | exact Tm.size_all _ | exact Bd.size_all _ | exact i7 _ | exact bys_size _ | exact Lt.size_all _) (by first | omega | (simp only [List.length_map,List.length_append,List.length_cons,List.length_nil]<;>omega) | (simp<;>omega))) (by first | rfl | kernel_rfl) ?_) | (refine nx (a_app_nil (gN rfl) rfl rfl rfl rfl rfl rfl rfl rfl rfl rfl rfl (by first | assumption | exact sZ rfl | exact Tm.size_all _ | exact Bd.size_all _ | exact i7 _ | exact bys_size _ | exact Lt.size_all _) (by first | assumption | exact sZ rfl | exact Tm.size_all _ | exact Bd.size_all _ | exact i7 _ | exact bys_size _ | exact Lt.size_all _) (by first | omega | (simp only [List.length_map,List.length_append,List.length_cons,List.length_nil]<;>omega) | (simp<;>omega))) (by first | rfl | kernel_rfl) ?_))
  (first | (refine nx (a9B (gN rfl) rfl rfl rfl rfl rfl rfl rfl rfl rfl rfl rfl rfl rfl rfl rfl (by first | assumption | exact sZ rfl | exact Tm.size_all _ | exact Bd.size_all _ | exact i7 _ | exact bys_size _ | exact Lt.size_all _) (by first | assumption | exact sZ rfl | exact Tm.size_all _ | exact Bd.size_all _ | exact i7 _ | exact bys_size _ | exact Lt.size_all _) (by first | omega | (simp only [List.length_map,List.length_append,List.length_cons,List.length_nil]<;>omega) | (simp<;>omega))) (by first | rfl | kernel_rfl) ?_) | (refine nx (a_app_nil (gN rfl) rfl rfl rfl rfl rfl rfl rfl rfl rfl rfl rfl (by first | assumption | exact sZ rfl | exact Tm.size_all _ | exact Bd.size_all _ | exact i7 _ | exact bys_size _ | exact Lt.size_all _) (by first | assumption | exact sZ rfl | exact Tm.size_all _ | exact Bd.size_all _ | exact i7 _ | exact bys_size _ | exact Lt.size_all _) (by first | omega | (simp only [List.length_map,List.length_append,List.length_cons,List.length_nil]<;>omega) | (simp<;>omega))) (by first | rfl | kernel_rfl) ?_))
  refine ne zl (ne (zw (z:=hsm)) (ne ze ?_))
  refine ⟨by kernel_rfl,?_⟩
  exact aT (And.intro (.inr rfl) rfl)
theorem b4A {n:Nat} {c:CV} (h:Shp Tryz.prog n 4 c):∃ b,c = .b b:=by
 cases n with
 | zero=>exact h.elim
 | succ n =>
  rw [Shp,Tryz.underlying4] at h
  exact h
theorem b4I {n:Nat} {c:CV} (h:Shp Tryz.prog n 22 c):∃ l:List Lt,c = .lst (l.map Lt.cv)∧okC l:=by
 cases n with
 | zero=>exact h.elim
 | succ n =>
  rw [Shp,Tryz.underlying22] at h
  obtain ⟨l,rfl,hl⟩:=h
  obtain ⟨m,h1,h2⟩:=a2o Lt.cv (fun l=>l.a.rng∧l.b.rng) (l:=l) (fun x hx=>by
   have hx:=hl x hx
   cases n with
   | zero=>exact hx.elim
   | succ n =>
    have hx:Shp Tryz.prog (n+1) 53 x:=hx
    rw [Shp,Tryz.underlying53] at hx
    obtain ⟨l,rfl,hl,hf⟩:=hx
    match l,hl with
    | [x,y,z],_ =>
     obtain ⟨b,rfl⟩:=b4A (hf 0 _ x rfl rfl)
     obtain ⟨t,rfl,ht⟩:=b0b n (hf 1 _ y rfl rfl)
     obtain ⟨u,rfl,hu⟩:=b0b n (hf 2 _ z rfl rfl)
     exact ⟨⟨b,t,u⟩,rfl,ht,hu⟩)
  exact ⟨m,by rw [h1],h2⟩
end Go.Proofs.YtglmoficcjphaaaGreat
