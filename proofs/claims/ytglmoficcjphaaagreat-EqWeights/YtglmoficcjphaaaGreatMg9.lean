/-
 KbFns KbFns2 KbFns3 KbFns4 OrFns1 ClMath OrFns2 ClLen TmAlive TmAb6
-/
import Derived.Test.YtglmoficcjphaaaGreatMg8
import Derived.Test.YtglmoficcjphaaaGreatMg3
import Derived.Test.YtglmoficcjphaaaGreatMg4
import Derived.Test.YtglmoficcjphaaaGreatMg2
namespace Go.Proofs.YtglmoficcjphaaaGreat
open Go.RowKit
set_option linter.unusedVariables false
set_option linter.unusedSimpArgs false
set_option maxRecDepth 100000
noncomputable def mrv (p:Int×Int):CV := .row [.i p.1,.i p.2]
theorem a0P (l:List (Int×Int)):w8 .i64 (l.map mrv):=fun r hr=>by
 obtain ⟨p,_,rfl⟩:=List.mem_map.1 hr
 exact ⟨p.1,.i p.2,rfl⟩
theorem b6k (l:List (Int×Int)) (v:Int):D6 .i64 v (l.map mrv)=(A9 l v).map CV.i:=by
 induction l with
 | nil=>rfl
 | cons p l ih =>
  obtain ⟨k,x⟩:=p
  rw [List.map_cons,mrv,O2,A9]
  split
  ·rfl
  ·exact ih
theorem b8V (l:List (Int×Int)) (v:Int):(D6 .i64 v (l.map mrv)).getD (.sc (.int .i64 0)) = .i (C0 l v):=by
 rw [b6k]
 unfold C0
 cases A9 l v<;>rfl
theorem b5R (l:List (Int×Int)) (v y:Int):a1Q .i64 v (.i y) (l.map mrv)=(R0 l v y).map mrv:=by
 induction l with
 | nil=>rfl
 | cons p l ih =>
  obtain ⟨k,x⟩:=p
  rw [List.map_cons,mrv,a3R,R0]
  split
  ·rfl
  ·rw [List.map_cons,ih];rfl
noncomputable def mB (l:List (Int×Int)):AV:=⟨if l=[] then 17 else 14,.lst (l.map mrv),0,0,[]⟩
noncomputable abbrev sst (s:Sc):AS:=[(450001,.obj),(35500100,.val (.i s.sz)),(35500101,.mref 300001),(35500102,.val (.i s.sp)),(35500103,.val (.i s.lk)),(300001,mB s.mp)]
noncomputable abbrev b9W (z p k:Int):AS:=[(450001,.obj),(35500100,.val (.i z)),(35500101,.mref 300001),(35500102,.val (.i p)),(35500103,.val (.i k)),(300001,.nmap)]
noncomputable abbrev b7L (z:Int) (l:List (Int×Int)) (p k:Int):AS:=[(450001,.obj),(35500100,.val (.i z)),(35500101,.mref 300001),(35500102,.val (.i p)),(35500103,.val (.i k)),(300001,.mp (l.map mrv))]
theorem b2W {s:Sc} (h:s.mp=[]):sst s=b9W s.sz s.sp s.lk:=by simp only [sst,mB,h,if_true];rfl
theorem b3c {s:Sc} (h:s.mp≠[]):sst s=b7L s.sz s.mp s.sp s.lk:=by simp only [sst,mB,if_neg h]
theorem x7 (s:Sc):(sst s).all L9=true:=by
 by_cases h:s.mp=[]
 ·rw [b2W h];kernel_rfl
 ·rw [b3c h];kernel_rfl
theorem q9 (s:Sc):(sst s).all (I6 (kO (sst s)))=true:=by
 by_cases h:s.mp=[]
 ·rw [b2W h];kernel_rfl
 ·rw [b3c h];kernel_rfl
structure Bds (s:Sc) (n:Nat):Prop where
 sz : -(n:Int)≤s.sz∧s.sz≤n
 sp : -(n:Int)≤s.sp∧s.sp≤n
 lk : -(n:Int)≤s.lk∧s.lk≤n
 at_:∀ v,-(n:Int)≤C0 s.mp v∧C0 s.mp v≤n
theorem Bds.node {s:Sc} {n:Nat} {σ:Int} (h:Bds s n) (hσ:σ=1∨σ = -1) (t:Tm):Bds (a6a σ s t) (n+1):=by
 obtain ⟨h1,h2,h3,h4⟩:=h
 unfold a6a
 split
 ·unfold B9
  have:=h4 (-1-t.f)
  refine ⟨by show _≤s.sz+σ∧s.sz+σ≤_;omega,by simp only;omega,by simp only;omega,fun v=>?_⟩
  simp only
  rw [a8y]
  have:=h4 v
  split<;>omega
 ·exact ⟨by show _≤s.sz+σ∧s.sz+σ≤_;omega,by simp only;omega,by simp only;omega,fun v=>by have:=h4 v;simp only;omega⟩
theorem Bds.fold {σ:Int} (hσ:σ=1∨σ = -1):∀ {l:List Tm} {s:Sc} {n:Nat},Bds s n→Bds (l.foldl (a6a σ) s) (n+l.length)
 | [],s,n,h=>h
 | t::l,s,n,h=>by
  rw [List.foldl_cons,List.length_cons,show n+(l.length+1)=n+1+l.length by omega]
  exact (h.node hσ t).fold hσ
theorem Bds.addL {σ:Int} (hσ:σ=1∨σ = -1) {l:List Tm} {s:Sc} {n:Nat} (h:Bds s n):Bds (addL σ s l) (n+(l.flatMap Tm.flat).length):=h.fold hσ
theorem Bds.addT {σ:Int} (hσ:σ=1∨σ = -1) {t:Tm} {s:Sc} {n:Nat} (h:Bds s n):Bds (addT σ s t) (n+t.size):=h.fold hσ
theorem J0 (W:World) (t:Tm):AFun Tryz.prog W 155 [t.cw] (.val (.b (decide (t.f<0)))):=by
 refine b6 (rs:=[.b (decide (t.f<0))]) Tryz.func155 Tryz.ntmps155 rfl rfl rfl rfl ?_
 intro w U hW
 refine aS (aR ?_)
 refine nc zd (nc ze ?_)
 refine aS (aR ?_)
 refine nc zg (nc zh (nc zi (nc ze ?_)))
 exact aT ⟨.inr rfl,rfl⟩
theorem a7h (W:World) (t:Tm) (h1 : -9223372036854775808≤t.f) (h2:t.f<0):AFun Tryz.prog W 157 [t.cw] (.val (.i (-1-t.f))):=by
 refine b6 (rs:=[.i (-1-t.f)]) Tryz.func157 Tryz.ntmps157 rfl rfl rfl rfl ?_
 intro w U hW
 refine aS (aR ?_)
 refine nc zd (nc ze ?_)
 refine aS (aR ?_)
 refine nc zg (nc zh (nc zj (nc ze ?_)))
 exact aT ⟨.inr rfl,rfl⟩
theorem a2u (W:World) (t:Tm):AFun Tryz.prog W 141 [t.cw] (.val (.lst (t.ps.map Tm.cv))):=by
 refine b6 (rs:=[.lst (t.ps.map Tm.cv)]) Tryz.func141 Tryz.ntmps141 rfl rfl rfl rfl ?_
 intro w U hW
 refine aS (aR ?_)
 refine nc zd (nc ze ?_)
 refine aS (aS (aR ?_))
 refine nc zy (nc (zw (z:=J0 w t)) ?_)
 refine aC rfl (fun hc=>?_) (fun hc=>?_)
 ·have hf:t.f<0:=by simpa using hc
  rw [Tm.ps_of_var hf]
  refine aS (aR ?_)
  refine nc ze ?_
  exact aT ⟨.inr rfl,rfl⟩
 ·have hf:¬ t.f<0:=by simpa using hc
  rw [Tm.ps_of_sym (by omega)]
  refine aK ?_
  refine aS (aR ?_)
  refine nc zg (nc zh (nc ze ?_))
  exact aT ⟨.inr rfl,rfl⟩
theorem a5F (s:Sc) (n:Nat) (hb:Bds s n) (hn:n≤1000000000000) (v σ:Int) (hσ:σ=1∨σ = -1) (hm:s.mp=[]):p6 Tryz.prog 156 (b9W s.sz s.sp s.lk) [.bp 350001 0 [],.val (.i v),.val (.i σ)] (.tup []) (b7L s.sz (B9 s v σ).mp (B9 s v σ).sp (B9 s v σ).lk):=by
 have hb2:=hb.sp
 have hb3:=hb.lk
 have hb4:=hb.at_ v
 have hg:C0 [] v=C0 s.mp v:=by rw [hm]
 obtain ⟨was,hwas⟩:∃ was,was=C0 s.mp v:=⟨_,rfl⟩
 rw [←hwas] at hb4
 refine j9 Tryz.func156 Tryz.ntmps156 rfl rfl rfl rfl rfl rfl ?_
 intro w U hU
 refine aS (aS (aR ?_))
 refine nc zl (nc z4 (nc zg (nc z5 (nc zbs ?_))))
 refine aC rfl (fun hc=>?_) (fun hc=>by cases hc)
 refine aR ?_
 refine nc zl (ne (zbt 300002) (nc z4 (nc zg (nc zba ?_))))
 refine aS (aR ?_)
 refine ne zl (ne z4 ?_)
 (first | (refine nx (aF (gN rfl) rfl rfl rfl rfl rfl rfl rfl rfl rfl) (by first | rfl | kernel_rfl) ?_) | (refine nx (D5 (gN rfl) rfl rfl rfl rfl rfl rfl rfl rfl rfl rfl rfl) (by first | rfl | kernel_rfl) ?_) | (refine nx (K7 (gN rfl) rfl rfl rfl rfl rfl rfl rfl rfl rfl) (by first | rfl | kernel_rfl) ?_))
 (first | (refine nx (aL (gN rfl) rfl rfl rfl rfl rfl rfl rfl rfl rfl rfl rfl rfl) (by first | rfl | kernel_rfl) ?_) | (refine nx (w7 (gN rfl) rfl rfl rfl rfl rfl rfl rfl rfl rfl rfl rfl rfl rfl) (by first | rfl | kernel_rfl) ?_) | (refine nx (aLb (gN rfl) rfl rfl rfl rfl rfl rfl rfl rfl rfl rfl rfl rfl) (by first | rfl | kernel_rfl) ?_) | (refine nx (y9 (gN rfl) rfl rfl rfl rfl rfl rfl rfl rfl rfl) (by first | rfl | kernel_rfl) ?_) | (refine nx (v8 (gN rfl) rfl rfl rfl rfl rfl rfl rfl rfl rfl) (by first | rfl | kernel_rfl) ?_) | (refine nx (aLf (gN rfl) rfl rfl rfl rfl rfl rfl rfl rfl rfl rfl rfl rfl rfl) (by first | rfl | kernel_rfl) ?_) | (refine nx (a_load_fullv (gN rfl) rfl rfl rfl rfl rfl rfl rfl rfl rfl) (by first | rfl | kernel_rfl) ?_))
 refine ne zl (ne (zbu (H :=  a0P [])) (ne ze ?_))
 refine AWp.wk (a7 (s':=[(0,AV.bp 350001 0 []),(1,.val (.i v)),(2,.val (.i σ)),(6,.val (.i was)),(450001,.obj),(35500100,.val (.i s.sz)),(35500101,.mref 300002),(35500102,.val (.i s.sp)),(35500103,.val (.i s.lk)),(300002,.mp (([]:List (Int×Int)).map mrv))]) ⟨rfl,rfl,rfl,?_,rfl,rfl,rfl,rfl,rfl,rfl,trivial⟩) ?_
 ·rw [hwas,←hg];rfl
 refine aS (aR ?_)
 refine nc zl (nc zl (nc zu (nc ze ?_)))
 refine aS (aR ?_)
 refine ne zl (ne z4 ?_)
 (first | (refine nx (aF (gN rfl) rfl rfl rfl rfl rfl rfl rfl rfl rfl) (by first | rfl | kernel_rfl) ?_) | (refine nx (D5 (gN rfl) rfl rfl rfl rfl rfl rfl rfl rfl rfl rfl rfl) (by first | rfl | kernel_rfl) ?_) | (refine nx (K7 (gN rfl) rfl rfl rfl rfl rfl rfl rfl rfl rfl) (by first | rfl | kernel_rfl) ?_))
 (first | (refine nx (aL (gN rfl) rfl rfl rfl rfl rfl rfl rfl rfl rfl rfl rfl rfl) (by first | rfl | kernel_rfl) ?_) | (refine nx (w7 (gN rfl) rfl rfl rfl rfl rfl rfl rfl rfl rfl rfl rfl rfl rfl) (by first | rfl | kernel_rfl) ?_) | (refine nx (aLb (gN rfl) rfl rfl rfl rfl rfl rfl rfl rfl rfl rfl rfl rfl) (by first | rfl | kernel_rfl) ?_) | (refine nx (y9 (gN rfl) rfl rfl rfl rfl rfl rfl rfl rfl rfl) (by first | rfl | kernel_rfl) ?_) | (refine nx (v8 (gN rfl) rfl rfl rfl rfl rfl rfl rfl rfl rfl) (by first | rfl | kernel_rfl) ?_) | (refine nx (aLf (gN rfl) rfl rfl rfl rfl rfl rfl rfl rfl rfl rfl rfl rfl rfl) (by first | rfl | kernel_rfl) ?_) | (refine nx (a_load_fullv (gN rfl) rfl rfl rfl rfl rfl rfl rfl rfl rfl) (by first | rfl | kernel_rfl) ?_))
 refine ne zl (ne zl (ne (zbf (G:=a0P [])) ?_))
 refine aS (aR ?_)
 refine nc zl (nc z4 (nc zg (nc z5 (nc zl (nc zbv (nc zl (nc zbv (nc zj (nc zu (nc z4 (nc zg (nc zba ?_))))))))))))
 refine aR ?_
 refine nc zl (nc z4 (nc zg (nc z5 (nc zl (nc zbw (nc zbv (nc zl (nc zbw (nc zbv (nc zj (nc zu (nc z4 (nc zg (nc zba ?_))))))))))))))
 refine ⟨.inl rfl,_,(a7 (s':=[(450001,.obj),(35500100,.val (.i s.sz)),(35500101,.mref 300002),(35500102,.val (.i (B9 s v σ).sp)),(35500103,.val (.i (B9 s v σ).lk)),(300002,.mp ((B9 s v σ).mp.map mrv))]) ⟨rfl,rfl,rfl,?_,?_,?_,trivial⟩).trans (C3 300002 300001 rfl rfl (by kernel_rfl) (by kernel_rfl)),rfl,rfl,rfl,rfl,rfl,rfl,rfl,trivial⟩
 ·unfold B9;rw [←hwas];rfl
 ·unfold B9;rw [←hwas];rfl
 ·unfold B9
  simp only
  rw [←hwas,hm,←b5R]
  rfl
theorem a5H (s:Sc) (n:Nat) (hb:Bds s n) (hn:n≤1000000000000) (v σ:Int) (hσ:σ=1∨σ = -1):p6 Tryz.prog 156 (b7L s.sz s.mp s.sp s.lk) [.bp 350001 0 [],.val (.i v),.val (.i σ)] (.tup []) (b7L s.sz (B9 s v σ).mp (B9 s v σ).sp (B9 s v σ).lk):=by
 have hb2:=hb.sp
 have hb3:=hb.lk
 have hb4:=hb.at_ v
 obtain ⟨was,hwas⟩:∃ was,was=C0 s.mp v:=⟨_,rfl⟩
 rw [←hwas] at hb4
 refine j9 Tryz.func156 Tryz.ntmps156 rfl rfl rfl rfl rfl rfl ?_
 intro w U hU
 refine aS (aS (aR ?_))
 refine nc zl (nc z4 (nc zg (nc z5 (nc zbx ?_))))
 refine aC rfl (fun hc=>by cases hc) (fun hc=>?_)
 refine aK ?_
 refine aS (aR ?_)
 refine ne zl (ne z4 ?_)
 (first | (refine nx (aF (gN rfl) rfl rfl rfl rfl rfl rfl rfl rfl rfl) (by first | rfl | kernel_rfl) ?_) | (refine nx (D5 (gN rfl) rfl rfl rfl rfl rfl rfl rfl rfl rfl rfl rfl) (by first | rfl | kernel_rfl) ?_) | (refine nx (K7 (gN rfl) rfl rfl rfl rfl rfl rfl rfl rfl rfl) (by first | rfl | kernel_rfl) ?_))
 (first | (refine nx (aL (gN rfl) rfl rfl rfl rfl rfl rfl rfl rfl rfl rfl rfl rfl) (by first | rfl | kernel_rfl) ?_) | (refine nx (w7 (gN rfl) rfl rfl rfl rfl rfl rfl rfl rfl rfl rfl rfl rfl rfl) (by first | rfl | kernel_rfl) ?_) | (refine nx (aLb (gN rfl) rfl rfl rfl rfl rfl rfl rfl rfl rfl rfl rfl rfl) (by first | rfl | kernel_rfl) ?_) | (refine nx (y9 (gN rfl) rfl rfl rfl rfl rfl rfl rfl rfl rfl) (by first | rfl | kernel_rfl) ?_) | (refine nx (v8 (gN rfl) rfl rfl rfl rfl rfl rfl rfl rfl rfl) (by first | rfl | kernel_rfl) ?_) | (refine nx (aLf (gN rfl) rfl rfl rfl rfl rfl rfl rfl rfl rfl rfl rfl rfl rfl) (by first | rfl | kernel_rfl) ?_) | (refine nx (a_load_fullv (gN rfl) rfl rfl rfl rfl rfl rfl rfl rfl rfl) (by first | rfl | kernel_rfl) ?_))
 refine ne zl (ne (zbu (H :=  a0P _)) (ne ze ?_))
 refine AWp.wk (a7 (s':=[(0,AV.bp 350001 0 []),(1,.val (.i v)),(2,.val (.i σ)),(6,.val (.i was)),(450001,.obj),(35500100,.val (.i s.sz)),(35500101,.mref 300001),(35500102,.val (.i s.sp)),(35500103,.val (.i s.lk)),(300001,.mp (s.mp.map mrv))]) ⟨rfl,rfl,rfl,?_,rfl,rfl,rfl,rfl,rfl,rfl,trivial⟩) ?_
 ·rw [hwas,←b8V];rfl
 refine aS (aR ?_)
 refine nc zl (nc zl (nc zu (nc ze ?_)))
 refine aS (aR ?_)
 refine ne zl (ne z4 ?_)
 (first | (refine nx (aF (gN rfl) rfl rfl rfl rfl rfl rfl rfl rfl rfl) (by first | rfl | kernel_rfl) ?_) | (refine nx (D5 (gN rfl) rfl rfl rfl rfl rfl rfl rfl rfl rfl rfl rfl) (by first | rfl | kernel_rfl) ?_) | (refine nx (K7 (gN rfl) rfl rfl rfl rfl rfl rfl rfl rfl rfl) (by first | rfl | kernel_rfl) ?_))
 (first | (refine nx (aL (gN rfl) rfl rfl rfl rfl rfl rfl rfl rfl rfl rfl rfl rfl) (by first | rfl | kernel_rfl) ?_) | (refine nx (w7 (gN rfl) rfl rfl rfl rfl rfl rfl rfl rfl rfl rfl rfl rfl rfl) (by first | rfl | kernel_rfl) ?_) | (refine nx (aLb (gN rfl) rfl rfl rfl rfl rfl rfl rfl rfl rfl rfl rfl rfl) (by first | rfl | kernel_rfl) ?_) | (refine nx (y9 (gN rfl) rfl rfl rfl rfl rfl rfl rfl rfl rfl) (by first | rfl | kernel_rfl) ?_) | (refine nx (v8 (gN rfl) rfl rfl rfl rfl rfl rfl rfl rfl rfl) (by first | rfl | kernel_rfl) ?_) | (refine nx (aLf (gN rfl) rfl rfl rfl rfl rfl rfl rfl rfl rfl rfl rfl rfl rfl) (by first | rfl | kernel_rfl) ?_) | (refine nx (a_load_fullv (gN rfl) rfl rfl rfl rfl rfl rfl rfl rfl rfl) (by first | rfl | kernel_rfl) ?_))
 refine ne zl (ne zl (ne (zbf (G:=a0P _)) ?_))
 refine aS (aR ?_)
 refine nc zl (nc z4 (nc zg (nc z5 (nc zl (nc zbv (nc zl (nc zbv (nc zj (nc zu (nc z4 (nc zg (nc zba ?_))))))))))))
 refine aR ?_
 refine nc zl (nc z4 (nc zg (nc z5 (nc zl (nc zbw (nc zbv (nc zl (nc zbw (nc zbv (nc zj (nc zu (nc z4 (nc zg (nc zba ?_))))))))))))))
 refine ⟨.inl rfl,_,(a7 (s':=b7L s.sz (B9 s v σ).mp (B9 s v σ).sp (B9 s v σ).lk) ⟨rfl,rfl,rfl,?_,?_,?_,trivial⟩),rfl,rfl,rfl,rfl,rfl,rfl,rfl,trivial⟩
 ·unfold B9;rw [←hwas];rfl
 ·unfold B9;rw [←hwas];rfl
 ·unfold B9
  simp only
  rw [←hwas,←b5R]
  rfl
theorem a6Y (s:Sc) (n:Nat) (hb:Bds s n) (hn:n≤1000000000000) (v σ:Int) (hσ:σ=1∨σ = -1):p6 Tryz.prog 156 (sst s) [.bp 350001 0 [],.val (.i v),.val (.i σ)] (.tup []) (sst (B9 s v σ)):=by
 rw [b3c (s:=B9 s v σ) (b6V _ _ _)]
 by_cases h:s.mp=[]
 ·rw [b2W h];exact a5F s n hb hn v σ hσ h
 ·rw [b3c h];exact a5H s n hb hn v σ hσ
def c1C (σ:Int) (t:Tm):Prop:=∀ (s:Sc) (n:Nat),Bds s n→n+t.size≤1000000000000→p6 Tryz.prog 142 (sst s) [.bp 350001 0 [],.val t.cw,.val (.i σ)] (.tup []) (sst (addT σ s t))
theorem a2D (σ:Int) (hσ:σ=1∨σ = -1) (l:List Tm) (hl:l.length≤1000000000000) (ih:∀ t∈l,c1C σ t) (s:Sc) (n:Nat) (hb:Bds s n) (hn:n+(l.flatMap Tm.flat).length≤1000000000000):p6 Tryz.prog 145 (sst s) [.bp 350001 0 [],.val (.lst (l.map Tm.cv)),.val (.i σ)] (.tup []) (sst (addL σ s l)):=by
 have hsz:=Tm.size_all l
 refine j9 Tryz.func145 Tryz.ntmps145 rfl rfl rfl rfl rfl rfl ?_
 intro w U hU
 refine aS (aR ?_)
 refine nc zl (nc zp (nc zl ?_))
 refine aB (o5 l.length (fun k=>(0,.bp 350001 0 [])::(2,.val (.i σ))::(8,.val (.lst (l.map Tm.cv)))::(9,.val (.i (l.map Tm.cv).length))::(10,.val (.i k))::sst (addL σ s (l.take k))) (a7 ⟨rfl,rfl,rfl,rfl,rfl,rfl,rfl,rfl,rfl,rfl,rfl,trivial⟩) ?_)
 intro k hk
 refine aS (aR ?_)
 refine nc zi ?_
 refine aS (aC rfl (fun hlt=>?_) (fun hlt=>?_))
 ·have hkl:k<l.length:=by simpa using hlt
  obtain ⟨x,hx⟩:∃ x,l[k]?=some x:=⟨l[k],List.getElem?_eq_getElem hkl⟩
  have hx':=Tm.map_at hx
  have hxm:=List.mem_of_getElem? hx
  obtain ⟨sk,hsk⟩:∃ sk,sk=addL σ s (l.take k):=⟨_,rfl⟩
  have hbk:Bds sk (n+((l.take k).flatMap Tm.flat).length):=by rw [hsk];exact hb.addL hσ
  have hnk:n+((l.take k).flatMap Tm.flat).length+x.size≤1000000000000:=by
   have h2:(l.flatMap Tm.flat).length=((l.take k).flatMap Tm.flat).length+((l.drop k).flatMap Tm.flat).length:=by
    conv=>lhs;rw [←List.take_append_drop k l]
    rw [List.flatMap_append,List.length_append]
   have h3:x.flat.length≤((l.drop k).flatMap Tm.flat).length:=Q4 Tm.flat (List.mem_of_getElem? (i:=0) (by rw [List.getElem?_drop];simpa using hx))
   unfold Tm.size
   omega
  have hstep:=b2y (σ:=σ) (s:=s) hx
  rw [←hsk] at hstep
  rw [←hsk]
  refine aK ?_
  refine aS (aB (aS (aR ?_)))
  refine nc (zq (j:=k) (H:=hx') (hz:=hsz)) (nc zr (ne zk (nc zo ?_)))
  refine aR ?_
  refine nc zl (nc zy (nc zl (nc (z0 (z:=ih x hxm sk _ hbk hnk) (B:=x7 _) (C:=q9 _) (G:=c9 (by first | rfl | kernel_rfl))) ?_)))
  refine aR ?_
  refine nc zu (nc zl ?_)
  refine ⟨hkl,a7 ⟨rfl,rfl,rfl,rfl,rfl,rfl,?_,rfl,?_,?_,?_,trivial⟩⟩
  all_goals (rw [hstep];rfl)
 ·have hkl:k=l.length:=by
   have:¬ k<l.length:=by simpa using hlt
   omega
  subst hkl
  rw [List.take_length]
  refine aE ?_
  exact ⟨.inl rfl,_,Wk.refl _,rfl,rfl,rfl,rfl,rfl,rfl,rfl,trivial⟩
theorem T1 (σ:Int) (hσ:σ=1∨σ = -1):∀ t:Tm,t.rng→t.ok→c1C σ t:=by
 intro t
 induction t using Tm.ind with
 | h f l ih =>
 intro hr hok s n hb hn
 have hok:=(Tm.ok_iff _).1 hok
 have hr:=(Tm.rng_iff _).1 hr
 simp only at hok hr
 have hb1:=hb.sz
 have hsp:=Tm.size_pos ⟨f,l⟩
 refine j9 Tryz.func142 Tryz.ntmps142 rfl rfl rfl rfl rfl rfl ?_
 intro w U hU
 refine aS (aR ?_)
 refine ne zd ?_
 refine aS (aR ?_)
 refine nc zl (nc z4 (nc zg (nc z5 (nc zl (nc zu (nc z4 (nc zg (nc zba ?_))))))))
 obtain ⟨s1,hs1⟩:∃ s1:Sc,s1=⟨s.sz+σ,s.mp,s.sp,s.lk⟩:=⟨_,rfl⟩
 have hb':Bds s1 (n+1):=by
  obtain ⟨b1,b2,b3,b4⟩:=hb
  rw [hs1]
  exact ⟨by show _≤s.sz+σ∧s.sz+σ≤_;omega,by simp only;omega,by simp only;omega,fun v=>by have:=b4 v;simp only;omega⟩
 refine AWp.wk (a7 (s':=(0,AV.bp 350001 0 [])::(2,.val (.i σ))::(4,.bp 4 0 [])::(100004,.bx (Tm.cw ⟨f,l⟩))::sst s1) ⟨rfl,rfl,rfl,rfl,rfl,?_,rfl,?_,?_,?_,trivial⟩) ?_
 ·rw [hs1];rfl
 ·rw [hs1];rfl
 ·rw [hs1];rfl
 ·rw [hs1];rfl
 refine aS (aS (aR ?_))
 refine nc zy ?_
 refine nc (zw (z:=J0 w ⟨f,l⟩)) ?_
 refine aC rfl (fun hc=>?_) (fun hc=>?_)
 ·have hf:f<0:=by simpa using hc
  rw [b3W (t:=⟨f,l⟩) hf,←hs1]
  refine aS (aR ?_)
  refine nc zl (nc zy ?_)
  refine nc (zw (z:=a7h w ⟨f,l⟩ hr.1.1 hf)) ?_
  refine nc zl (nc (z0 (z:=a6Y s1 (n+1) hb' (by omega) (-1-f) σ hσ) (B:=x7 _) (C:=q9 _) (G:=c9 (by first | rfl | kernel_rfl))) ?_)
  exact aT ⟨.inr rfl,_,Wk.refl _,rfl,rfl,rfl,rfl,rfl,rfl,rfl,trivial⟩
 ·have hf:¬ f<0:=by simpa using hc
  rw [b4s (t:=⟨f,l⟩) hf,←hs1]
  have hse:=Tm.size_eq ⟨f,l⟩
  rw [Tm.ps_of_sym (t:=⟨f,l⟩) (by show 0≤f;omega)] at hse
  simp only at hse
  have hlen:=Tm.len_ps ⟨f,l⟩
  rw [Tm.ps_of_sym (t:=⟨f,l⟩) (by show 0≤f;omega)] at hlen
  simp only at hlen
  refine aK ?_
  refine aR ?_
  refine nc zl (nc zg (nc zh (nc zl ?_)))
  refine nc (z0 (z:=a2D σ hσ l (by omega) (fun t ht=>ih t ht (hr.2 t ht) (hok.2 t ht)) s1 (n+1) hb' (by omega)) (B:=x7 _) (C:=q9 _) (G:=c9 (by first | rfl | kernel_rfl))) ?_
  exact ⟨.inl rfl,_,Wk.refl _,rfl,rfl,rfl,rfl,rfl,rfl,rfl,trivial⟩
theorem a1N (σ:Int) (hσ:σ=1∨σ = -1) (l:List Tm) (hl:l.length≤1000000000000) (hr:∀ t∈l,t.rng∧t.ok) (s:Sc) (n:Nat) (hb:Bds s n) (hn:n+(l.flatMap Tm.flat).length≤1000000000000):p6 Tryz.prog 145 (sst s) [.bp 350001 0 [],.val (.lst (l.map Tm.cv)),.val (.i σ)] (.tup []) (sst (addL σ s l)):=
 a2D σ hσ l hl (fun t ht=>T1 σ hσ t (hr t ht).1 (hr t ht).2) s n hb hn
def b3h (s:Sc) (w:Int):Int:=if s.sz≠0 then y7 s.sz 0 else w
def vdS (s:Sc) (w:Int):Int:=if (b3h s w=1∧0<s.lk)∨(b3h s w = -1∧0<s.sp) then 2 else b3h s w
theorem P4 (s:Sc) (x:Int):p6 Tryz.prog 143 (sst s) [.bp 350001 0 [],.val (.i x)] (.val (.i (vdS s x))) (sst s):=by
 refine j9 Tryz.func143 Tryz.ntmps143 rfl rfl rfl rfl rfl rfl ?_
 intro w U hU
 refine aS (aR ?_)
 refine nc ze ?_
 refine aS (aR ?_)
 refine nc zl (nc ze ?_)
 refine a3m ((0,AV.bp 350001 0 [])::(5,.val (.i (b3h s x)))::sst s) ?_ ?_
 ·unfold b3h
  refine aS (aR ?_)
  refine nc zl (nc z4 (nc zg (nc z5 (nc z7 ?_))))
  refine aC rfl (fun hc=>?_) (fun hc=>?_)
  ·have h:s.sz≠0:=by simpa using hc
   rw [if_pos h]
   refine aR ?_
   refine nc zl (nc z4 (nc zg (nc z5 (nc (zw (z:=a2J w s.sz 0)) (nc ze ?_)))))
   exact a7 ⟨rfl,rfl,rfl,rfl,rfl,rfl,rfl,rfl,trivial⟩
  ·have h:¬ s.sz≠0:=by simpa using hc
   rw [if_neg h]
   refine aK ?_
   exact a7 ⟨rfl,rfl,rfl,rfl,rfl,rfl,rfl,rfl,trivial⟩
 unfold vdS
 generalize b3h s x=o
 by_cases h1:o=1
 ·subst h1
  by_cases h2:0<s.lk
  ·have g:decide (s.lk>0)=true:=by simpa using h2
   rw [if_pos (.inl ⟨rfl,h2⟩)]
   refine aS (aS (aR ?_))
   refine nc zl (nc zt (nc zl (nc (zl (p:=gb)) (nc (z4 (r:=gb)) (nc (zg (r:=gb)) (nc (z5 (r:=gb)) (nc (zH (r:=gb)) (nc zM (nc zl (nc zby (nc zby (nc zby (nc (zby (p:=T9 rfl rfl rfl rfl)) (nc (zby (p:=T9 rfl rfl rfl rfl)) (nc (zby (p:=T9 rfl rfl rfl rfl)) (nc (zby (p:=T9 rfl rfl rfl rfl)) (nc (zby (p:=T9 rfl rfl rfl rfl)) (nc zby (nc zM ?_)))))))))))))))))))
   refine aC rfl (fun hc=>?_) (fun hc=>by cases hc)
   refine aS (aR ?_)
   refine nc ze ?_
   exact aT ⟨.inr rfl,_,Wk.refl _,rfl,rfl,rfl,rfl,rfl,rfl,rfl,trivial⟩
  ·have g:decide (s.lk>0)=false:=by simpa using h2
   rw [if_neg (by omega)]
   refine aS (aS (aR ?_))
   refine nc zl (nc zt (nc zl (nc (zl (p:=gb)) (nc (z4 (r:=gb)) (nc (zg (r:=gb)) (nc (z5 (r:=gb)) (nc (zH (r:=gb)) (nc zM (nc zl (nc (zl (p:=gb)) (nc (zt (r:=gb)) (nc (zl (p:=gb)) (nc zby (nc zby (nc zby (nc zby (nc zby (nc (zP (r:=gb)) (nc zP ?_)))))))))))))))))))
   refine aC rfl (fun hc=>by cases hc) (fun hc=>aK ?_)
   refine aS (aR ?_)
   refine nc zl (nc ze ?_)
   exact aT ⟨.inr rfl,_,Wk.refl _,rfl,rfl,rfl,rfl,rfl,rfl,rfl,trivial⟩
 ·have g1:decide (o=1)=false:=by simpa using h1
  by_cases h2:o = -1
  ·subst h2
   by_cases h3:0<s.sp
   ·have g:decide (s.sp>0)=true:=by simpa using h3
    rw [if_pos (.inr ⟨rfl,h3⟩)]
    refine aS (aS (aR ?_))
    refine nc zl (nc zt (nc zl (nc zby (nc zby (nc zby (nc zby (nc zby (nc zP (nc zl (nc (zl (p:=gb)) (nc (zt (r:=gb)) (nc (zl (p:=gb)) (nc (zl (p:=gb)) (nc (z4 (r:=gb)) (nc (zg (r:=gb)) (nc (z5 (r:=gb)) (nc (zH (r:=gb)) (nc (zM (r:=gb)) (nc zP ?_)))))))))))))))))))
    refine aC rfl (fun hc=>?_) (fun hc=>by rw [g] at hc;cases hc)
    refine aS (aR ?_)
    refine nc ze ?_
    exact aT ⟨.inr rfl,_,Wk.refl _,rfl,rfl,rfl,rfl,rfl,rfl,rfl,trivial⟩
   ·have g:decide (s.sp>0)=false:=by simpa using h3
    rw [if_neg (by omega)]
    refine aS (aS (aR ?_))
    refine nc zl (nc zt (nc zl (nc zby (nc zby (nc zby (nc zby (nc zby (nc zP (nc zl (nc (zl (p:=gb)) (nc (zt (r:=gb)) (nc (zl (p:=gb)) (nc (zl (p:=gb)) (nc (z4 (r:=gb)) (nc (zg (r:=gb)) (nc (z5 (r:=gb)) (nc (zH (r:=gb)) (nc (zM (r:=gb)) (nc zP ?_)))))))))))))))))))
    refine aC rfl (fun hc=>by rw [g] at hc;cases hc) (fun hc=>aK ?_)
    refine aS (aR ?_)
    refine nc zl (nc ze ?_)
    exact aT ⟨.inr rfl,_,Wk.refl _,rfl,rfl,rfl,rfl,rfl,rfl,rfl,trivial⟩
  ·have g2:decide (o = -1)=false:=by simpa using h2
   rw [if_neg (by omega)]
   refine aS (aS (aR ?_))
   refine nc zl (nc zt (nc zl (nc zby (nc zby (nc zby (nc zby (nc zby (nc zP (nc zl (nc (zl (p:=gb)) (nc (zt (r:=gb)) (nc (zl (p:=gb)) (nc zby (nc zby (nc zby (nc zby (nc zby (nc (zP (r:=gb)) (nc zP ?_)))))))))))))))))))
   refine aC rfl (fun hc=>by cases hc) (fun hc=>aK ?_)
   refine aS (aR ?_)
   refine nc zl (nc ze ?_)
   exact aT ⟨.inr rfl,_,Wk.refl _,rfl,rfl,rfl,rfl,rfl,rfl,rfl,trivial⟩
def orL:List Int→Int
 | []=>0
 | x::l=>if x≠0 then x else orL l
theorem b5v:∀ {l:List Int} {k:Nat} {x:Int},l[k]?=some x→x≠0→(∀ j y,j<k→l[j]?=some y→y=0)→orL l=x
 | [],k,x,h,_,_=>by simp at h
 | y::l,0,x,h,hx,_=>by
  simp at h
  subst h
  rw [orL,if_pos hx]
 | y::l,k+1,x,h,hx,hi=>by
  rw [orL,if_neg (by have:=hi 0 y (by omega) rfl;omega)]
  exact b5v (by simpa using h) hx fun j z hj hz=>hi (j+1) z (by omega) (by simpa using hz)
theorem a8q:∀ {l:List Int},(∀ x∈l,x=0)→orL l=0
 | [],_=>rfl
 | x::l,h=>by
  rw [orL,if_neg (by have:=h x (by simp);omega)]
  exact a8q fun y hy=>h y (List.mem_cons_of_mem _ hy)
theorem b8e (W:World) (l:List Int) (hl:l.length≤1000000000):AFun Tryz.prog W 158 [.lst (l.map CV.i)] (.val (.i (orL l))):=by
 have hsz:=i7 l
 refine b6 (rs:=[.i (orL l)]) Tryz.func158 Tryz.ntmps158 rfl rfl rfl rfl ?_
 intro w U hW
 refine aS (aR ?_)
 refine nc ze ?_
 refine aS (aR ?_)
 refine nc ze ?_
 refine aS (aS (aR ?_))
 refine nc zl (nc zp (nc zl ?_))
 refine aB (y0 l.length (fun k=>∀ j y,j<k→l[j]?=some y→y=0) (fun k=>[(3,.val (.i 0)),(6,.val (.lst (l.map CV.i))),(7,.val (.i (l.map CV.i).length)),(8,.val (.i k))]) (a7 ⟨rfl,rfl,rfl,rfl,trivial⟩) (fun j c hj=>by omega) ?_)
 intro k hk hI
 refine aS (aR ?_)
 refine nc zi ?_
 refine aS (aC rfl (fun hlt=>?_) (fun hlt=>?_))
 ·have hkl:k<l.length:=by simpa using hlt
  obtain ⟨x,hx⟩:∃ x,l[k]?=some x:=⟨l[k],List.getElem?_eq_getElem hkl⟩
  have hx':(l.map CV.i)[k]?=some (CV.i x):=by rw [List.getElem?_map,hx];rfl
  refine aK ?_
  refine aS (aB (aS (aR ?_)))
  refine nc (zq (j:=k) (H:=hx') (hz:=hsz)) (nc zr (nc ze ?_))
  refine aS (aR ?_)
  refine nc zl (nc zl (nc z7 ?_))
  refine aC rfl (fun hq=>?_) (fun hq=>?_)
  ·have hq:x≠0:=by simpa using hq
   refine aS (aR ?_)
   refine nc zl (nc ze ?_)
   rw [b5v hx hq hI]
   exact aT ⟨.inr rfl,rfl⟩
  ·have hq:x=0:=by simpa using hq
   refine aK ?_
   refine aR ?_
   refine nc zu (nc zl ?_)
   refine ⟨hkl,fun j c hj hc=>?_,a7 ⟨rfl,rfl,rfl,rfl,trivial⟩⟩
   rcases Nat.lt_or_ge j k with h | h
   ·exact hI j c h hc
   ·have:j=k:=by omega
    subst this
    rw [hx] at hc
    cases hc
    exact hq
 ·have hkl:¬ k<l.length:=by simpa using hlt
  rw [a8q (l:=l) fun x hx=>?_]
  ·refine aE ?_
   refine aS (aR ?_)
   refine nc zl (nc ze ?_)
   exact aT ⟨.inr rfl,rfl⟩
  ·obtain ⟨j,hj⟩:=List.getElem?_of_mem hx
   have hjl:j<l.length:=by
    rcases Nat.lt_or_ge j l.length with h | h
    ·exact h
    ·rw [List.getElem?_eq_none h] at hj;cases hj
   exact hI j x (by omega) hj
theorem c0I {a b:Tm} (h:¬ (a.f<0∨b.f<0)):hdK a b=orL [y7 a.f b.f,y7 a.l.length b.l.length]:=by
 unfold hdK
 rw [if_neg h]
 simp only [orL]
 rcases q8 a.f b.f with h1 | h1 | h1
 ·rw [if_pos (by omega),if_pos (by omega)]
 ·rw [if_neg (by omega),if_neg (by omega)]
  split
  ·rfl
  ·omega
 ·rw [if_pos (by omega),if_pos (by omega)]
theorem a3a (W:World) (a b:Tm):AFun Tryz.prog W 144 [a.cw,b.cw] (.val (.i (hdK a b))):=by
 refine b6 (rs:=[.i (hdK a b)]) Tryz.func144 Tryz.ntmps144 rfl rfl rfl rfl ?_
 intro w U hW
 refine aS (aR ?_)
 refine nc zd (nc zd (nc ze ?_))
 by_cases ha:a.f<0
 ·have g:decide (a.f<0)=true:=by simpa using ha
  refine aS (aS (aR ?_))
  refine nc zy (nc (zw (z:=J0 w a)) (nc zl (nc zO (nc zO (nc zM ?_)))))
  refine aC rfl (fun hc=>?_) (fun hc=>by cases hc)
  unfold hdK
  rw [if_pos (.inl ha)]
  refine aS (aR ?_)
  refine nc ze ?_
  exact aT ⟨.inr rfl,rfl⟩
 have g:decide (a.f<0)=false:=by simpa using ha
 refine aS (aS (aR ?_))
 refine nc zy (nc (zw (z:=J0 w a)) (nc zl (nc (zy (p:=gb)) (nc (zw (p:=gb) (z:=J0 w b)) (nc zP ?_)))))
 refine aC rfl (fun hc=>?_) (fun hc=>?_)
 ·have hb:b.f<0:=by simpa using hc
  unfold hdK
  rw [if_pos (.inr hb)]
  refine aS (aR ?_)
  refine nc ze ?_
  exact aT ⟨.inr rfl,rfl⟩
 ·have hb:¬ b.f<0:=by simpa using hc
  rw [c0I (by omega)]
  have e1:(a.l.map Tm.cv).length=a.l.length:=List.length_map ..
  have e2:(b.l.map Tm.cv).length=b.l.length:=List.length_map ..
  refine aK ?_
  refine aS (aD (by kernel_rfl) (by kernel_rfl) ?_)
  refine nc zg (nc zh (nc zg (nc zh (nc (zw (z:=a2J w a.f b.f)) (nc zg (nc zh (nc zp (nc zg (nc zh (nc zp (nc (zw (z:=a2J w _ _)) (nc zD (nc (zw (z:=b8e w [_,_] (by simp))) (nc ze ?_))))))))))))))
  refine ⟨by kernel_rfl,?_⟩
  rw [e1,e2]
  exact aT ⟨.inr rfl,rfl⟩
def emp:Sc:=⟨0,[],0,0⟩
noncomputable def a6I (c:Int) (s:Sc) (l m:List Tm) (r:Sc):Sc:=if c≠0 then addL (-1) (addL 1 s l) m else r
noncomputable def scS (p:Tm):Tm→Sc:=
 Tm.rec (motive_1:=fun _=>Tm→Sc) (motive_2:=fun _=>List Tm→Sc)
  (fun f l ih t=>if f≠t.f∨(Tm.mk f l).ps.length≠t.ps.length then addT (-1) (addT 1 emp ⟨f,l⟩) t else if f<0 then emp else ih t.l)
  (fun _=>emp)
  (fun x l ih1 ih2 ts=>match ts with | []=>emp | t::ts=>a6I (kb x t) (ih1 t) l ts (ih2 ts)) p
noncomputable def scs (ps:List Tm):List Tm→Sc:=
 Tm.rec_1 (motive_1:=fun _=>Tm→Sc) (motive_2:=fun _=>List Tm→Sc)
  (fun f l ih t=>if f≠t.f∨(Tm.mk f l).ps.length≠t.ps.length then addT (-1) (addT 1 emp ⟨f,l⟩) t else if f<0 then emp else ih t.l)
  (fun _=>emp)
  (fun x l ih1 ih2 ts=>match ts with | []=>emp | t::ts=>a6I (kb x t) (ih1 t) l ts (ih2 ts)) ps
theorem b8a (m:List Tm):scs [] m=emp:=rfl
theorem a3D (x:Tm) (l:List Tm) (y:Tm) (m:List Tm):scs (x::l) (y::m)=a6I (kb x y) (scS x y) l m (scs l m):=rfl
theorem a9T {a b:Tm} (h:a.f≠b.f∨a.ps.length≠b.ps.length):scS a b=addT (-1) (addT 1 emp a) b:=by
 cases a
 show (if _ then _ else _)=_
 rw [if_pos h]
theorem b0g {a b:Tm} (h:¬ (a.f≠b.f∨a.ps.length≠b.ps.length)):scS a b=scs a.ps b.ps:=by
 cases a with
 | mk f l =>
  show (if _ then _ else _)=_
  rw [if_neg h]
  by_cases hf:f<0
  ·rw [if_pos hf,Tm.ps_of_var (t:=⟨f,l⟩) hf,b8a]
  ·rw [if_neg hf,Tm.ps_of_sym (t:=⟨f,l⟩) (by show 0≤f;omega),Tm.ps_of_sym (t:=b) (by have:=Classical.not_not.1 (fun e=>h (.inl e));simp only at this;omega)]
   rfl
theorem b0i:∀ {l m:List Tm} {k:Nat} {x y:Tm},l[k]?=some x→m[k]?=some y→kb x y≠0→(∀ j u v,j<k→l[j]?=some u→m[j]?=some v→kb u v=0)→scs l m=addL (-1) (addL 1 (scS x y) (l.drop (k+1))) (m.drop (k+1))∧kbs l m=kb x y
 | [],_,k,x,y,h,_,_,_=>by simp at h
 | _::_,[],k,x,y,_,h,_,_=>by simp at h
 | u::l,v::m,0,x,y,h1,h2,hne,_=>by
  simp at h1 h2
  subst h1;subst h2
  rw [a3D,a0v]
  unfold a6I a0s
  rw [if_pos hne,if_pos hne]
  exact ⟨rfl,rfl⟩
 | u::l,v::m,k+1,x,y,h1,h2,hne,hi=>by
  have h0:=hi 0 u v (by omega) rfl rfl
  rw [a3D,a0v]
  unfold a6I a0s
  rw [if_neg (by omega),if_neg (by omega)]
  exact b0i (by simpa using h1) (by simpa using h2) hne fun j u v hj hu hv=>hi (j+1) u v (by omega) (by simpa using hu) (by simpa using hv)
theorem a3z:∀ {l m:List Tm},(∀ (j:Nat) u v,l[j]?=some u→m[j]?=some v→kb u v=0)→scs l m=emp∧kbs l m=0
 | [],_,_=>⟨rfl,rfl⟩
 | _::_,[],_=>⟨rfl,rfl⟩
 | u::l,v::m,hi=>by
  have h0:=hi 0 u v rfl rfl
  rw [a3D,a0v]
  unfold a6I a0s
  rw [if_neg (by omega),if_neg (by omega)]
  exact a3z fun j u v hu hv=>hi (j+1) u v (by simpa using hu) (by simpa using hv)
theorem emp_ss:Ss emp 0 fun _=>0:=⟨rfl,by simp [ndk,emp],rfl,rfl,fun _=>rfl⟩
theorem emp_bds:Bds emp 0:=⟨by simp [emp],by simp [emp],by simp [emp],fun _=>by simp [emp,C0,A9]⟩
def vD (a b:Tm) (v:Int):Int:=(a.vs.count v:Int)-b.vs.count v
theorem a7N:∀ (l m:List Tm),l.length=m.length→(∃ (k:Nat) (x y:Tm),l[k]?=some x∧m[k]?=some y∧kb x y≠0∧∀ (j:Nat) u v,j<k→l[j]?=some u→m[j]?=some v→kb u v=0)∨∀ (j:Nat) u v,l[j]?=some u→m[j]?=some v→kb u v=0
 | [],_,_ => .inr fun j u v h=>by simp at h
 | _::_,[],h=>by simp at h
 | u::l,v::m,h=>by
  by_cases h0:kb u v=0
  ·rcases a7N l m (by simpa using h) with ⟨k,x,y,h1,h2,h3,h4⟩ | h1
   ·left
    refine ⟨k+1,x,y,by simpa using h1,by simpa using h2,h3,fun j u' v' hj hu hv=>?_⟩
    cases j with
    | zero=>simp at hu hv;subst hu;subst hv;exact h0
    | succ j=>exact h4 j u' v' (by omega) (by simpa using hu) (by simpa using hv)
   ·right
    intro j u' v' hu hv
    cases j with
    | zero=>simp at hu hv;subst hu;subst hv;exact h0
    | succ j=>exact h1 j u' v' (by simpa using hu) (by simpa using hv)
  ·left;exact ⟨0,u,v,rfl,rfl,h0,fun j u v hj=>by omega⟩
theorem a0m:∀ {l m:List Tm} {k:Nat},k≤l.length→l.length=m.length→(∀ j u v,j<k→l[j]?=some u→m[j]?=some v→kb u v=0)→((l.take k).flatMap Tm.flat).length=((m.take k).flatMap Tm.flat).length∧(l.take k).flatMap Tm.vs=(m.take k).flatMap Tm.vs
 | _,_,0,_,_,_=>by simp
 | [],_,k+1,h,_,_=>by simp at h
 | _::_,[],k+1,_,h,_=>by simp at h
 | u::l,v::m,k+1,h,hl,hi=>by
  have h0:=(b6Y u v).1 (hi 0 u v (by omega) rfl rfl)
  obtain ⟨h1,h2⟩:=a0m (l:=l) (m:=m) (k:=k) (by simpa using h) (by simpa using hl) fun j u v hj hu hv=>hi (j+1) u v (by omega) (by simpa using hu) (by simpa using hv)
  have h3:u.flat.length=v.flat.length:=by have:=congrArg Tm.size h0;rw [Tm.strip_size,Tm.strip_size] at this;exact this
  have h4:u.vs=v.vs:=by have:=congrArg Tm.vs h0;rw [Tm.strip_vs,Tm.strip_vs] at this;exact this
  rw [List.take_succ_cons,List.take_succ_cons,List.flatMap_cons,List.flatMap_cons,List.flatMap_cons,List.flatMap_cons,List.length_append,List.length_append,h1,h2,h3,h4]
  exact ⟨rfl,rfl⟩
theorem W5 {l:List Tm} {k:Nat} {x:Tm} (h:l[k]?=some x):(l.flatMap Tm.flat).length=((l.take k).flatMap Tm.flat).length+(x.size+((l.drop (k+1)).flatMap Tm.flat).length)∧∀ v,(l.flatMap Tm.vs).count v=((l.take k).flatMap Tm.vs).count v+(x.vs.count v+((l.drop (k+1)).flatMap Tm.vs).count v):=by
 obtain ⟨h1,_⟩:=b3s h
 constructor
 ·conv=>lhs;rw [h1]
  rw [List.flatMap_append,List.flatMap_cons,List.length_append,List.length_append]
  rfl
 ·intro v
  conv=>lhs;rw [h1]
  rw [List.flatMap_append,List.flatMap_cons,List.count_append,List.count_append]
theorem a8w (a:Tm):∀ b,Bds (scS a b) (a.size+b.size)∧(kb a b=0→scS a b=emp)∧(kb a b≠0→Ss (scS a b) (szD a b) (vD a b)):=by
 induction a using Tm.indp with
 | h a ih =>
  intro b
  by_cases h:a.f≠b.f∨a.ps.length≠b.ps.length
  ·rw [a9T h]
   have h1:Bds (addT (-1) (addT 1 emp a) b) (0+a.size+b.size):=(emp_bds.addT (.inl rfl)).addT (.inr rfl)
   refine ⟨by rw [Nat.zero_add] at h1;exact h1,fun h2=>?_,fun _=>?_⟩
   ·rw [a2d,G6] at h2
    unfold wi at h2
    rw [if_pos h] at h2
    exact absurd h2 (b3e h)
   ·have h2:=(emp_ss.fold (σ:=1) (l:=a.flat)).fold (σ := -1) (l:=b.flat)
    refine ⟨?_,h2.nd,h2.sp,h2.lk,fun v=>?_⟩
    ·refine h2.sz.trans ?_
     unfold szD Tm.size;omega
    ·refine (h2.at_ v).trans ?_
     unfold vD Tm.vs;omega
  ·rw [b0g h]
   have hw:wi a b=kbs a.ps b.ps:=by unfold wi;rw [if_neg h]
   have hll:a.ps.length=b.ps.length:=by omega
   rcases a7N a.ps b.ps hll with ⟨k,x,y,h1,h2,h3,h4⟩ | h1
   ·obtain ⟨e1,e2⟩:=b0i h1 h2 h3 h4
    obtain ⟨b1,b2,b3⟩:=ih x (List.mem_of_getElem? h1) y
    have hk:k<a.ps.length:=by
     rcases Nat.lt_or_ge k a.ps.length with h | h
     ·exact h
     ·rw [List.getElem?_eq_none h] at h1;cases h1
    obtain ⟨v1,v2⟩:=a0m (Nat.le_of_lt hk) hll h4
    obtain ⟨l1,l2⟩:=W5 h1
    obtain ⟨m1,m2⟩:=W5 h2
    have sa:=a.size_eq
    have sb:=b.size_eq
    rw [e1]
    refine ⟨?_,fun h5=>?_,fun h5=>?_⟩
    ·have hB:=((b1.addL (.inl rfl) (l:=a.ps.drop (k+1))).addL (.inr rfl) (l:=b.ps.drop (k+1)))
     obtain ⟨q1,q2,q3,q4⟩:=hB
     exact ⟨by omega,by omega,by omega,fun v=>by have:=q4 v;omega⟩
    ·rw [a2d,G6,hw,e2] at h5
     exact absurd h5 h3
    ·have h6:=((b3 h3).fold (σ:=1) (l:=(a.ps.drop (k+1)).flatMap Tm.flat)).fold (σ := -1) (l:=(b.ps.drop (k+1)).flatMap Tm.flat)
     refine ⟨?_,h6.nd,h6.sp,h6.lk,fun v=>?_⟩
     ·refine h6.sz.trans ?_
      unfold szD;omega
     ·refine (h6.at_ v).trans ?_
      rw [S9,S9]
      have p1:=l2 v
      have p2:=m2 v
      rw [←v2] at p2
      have hf:a.f=b.f:=by omega
      have ha:a.vs=a.ps.flatMap Tm.vs:=by
       by_cases hv:a.f<0
       ·rw [Tm.ps_of_var hv] at hk;simp at hk
       ·rw [Tm.vs_sym hv,Tm.ps_of_sym (by omega)]
      have hb:b.vs=b.ps.flatMap Tm.vs:=by
       by_cases hv:b.f<0
       ·rw [Tm.ps_of_var (t:=a) (by omega)] at hk;simp at hk
       ·rw [Tm.vs_sym hv,Tm.ps_of_sym (by omega)]
      unfold vD
      rw [ha,hb]
      omega
   ·obtain ⟨e1,e2⟩:=a3z h1
    rw [e1]
    refine ⟨?_,fun _=>rfl,fun h5=>?_⟩
    ·obtain ⟨q1,q2,q3,q4⟩:=emp_bds
     exact ⟨by omega,by omega,by omega,fun v=>by have:=q4 v;omega⟩
    ·exfalso
     apply h5
     rw [a2d,G6,hw,e2]
theorem b3M (z w:Int):(if z≠0 then y7 z 0 else w)=b0Z z w:=by
 unfold b0Z
 rcases q8 z 0 with h | h | h
 ·rw [if_pos (by omega),if_neg (by omega),if_pos (by omega),h.1]
 ·rw [if_neg (by omega),if_neg (by omega),if_neg (by omega)]
 ·rw [if_pos (by omega),if_pos (by omega),h.1]
theorem b0B {s:Sc} {a b:Tm} (h:Ss s (szD a b) (vD a b)) {w:Int} (hw:w≠0):vdS s w=a6j (szD a b) (cov a b) (cov b a) w:=by
 have h1:0<s.lk↔¬ cov a b:=by
  obtain ⟨d1,d2⟩:=b4d h.nd
  rw [h.lk]
  have:dnS s.mp=0↔cov a b:=by
   rw [d2]
   unfold cov
   constructor
   ·intro h2 v;have:=h2 v;rw [h.at_] at this;unfold vD at this;omega
   ·intro h2 v;have:=h2 v;rw [h.at_];unfold vD;omega
  rw [←this];omega
 have h2:0<s.sp↔¬ cov b a:=by
  obtain ⟨d1,d2⟩:=b4l h.nd
  rw [h.sp]
  have:upS s.mp=0↔cov b a:=by
   rw [d2]
   unfold cov
   constructor
   ·intro h2 v;have:=h2 v;rw [h.at_] at this;unfold vD at this;omega
   ·intro h2 v;have:=h2 v;rw [h.at_];unfold vD;omega
  rw [←this];omega
 unfold vdS a6j b6d b3h
 rw [if_neg hw,h.sz,b3M]
 by_cases h3:(b0Z (szD a b) w=1∧¬ cov a b)∨(b0Z (szD a b) w = -1∧¬ cov b a)
 ·rw [if_pos h3,if_pos (by rw [h1,h2];exact h3)]
 ·rw [if_neg h3,if_neg (by rw [h1,h2];exact h3)]
set_option maxHeartbeats 1000000 in
theorem a5G:∀ a:Tm,a.rng→a.ok→a.size≤100000000000→∀ b:Tm,b.rng→b.ok→b.size≤100000000000→p6 Tryz.prog 115 (sst emp) [.bp 350001 0 [],.val a.cw,.val b.cw] (.val (.i (kb a b))) (sst (scS a b)):=by
 intro a
 induction a using Tm.indp with
 | h a ih =>
 intro hr hok has b hbr hbok hbs
 have hok':=(Tm.ok_iff _).1 hok
 have hr':=(Tm.rng_iff _).1 hr
 have hbok':=(Tm.ok_iff _).1 hbok
 have hbr':=(Tm.rng_iff _).1 hbr
 have hsz:=Tm.size_all a.ps
 have hsz2:=Tm.size_all b.ps
 have el:(a.ps.map Tm.cv).length=a.ps.length:=List.length_map ..
 have el2:(b.ps.map Tm.cv).length=b.ps.length:=List.length_map ..
 have hla:=a.len_ps
 have hlb:=b.len_ps
 obtain ⟨S,hS⟩:∃ S,S=scS a b:=⟨_,rfl⟩
 obtain ⟨sp1,sp2,sp3⟩:=a8w a b
 refine j9 Tryz.func115 Tryz.ntmps115 rfl rfl rfl rfl rfl rfl ?_
 intro w U hU
 refine aS (aR ?_)
 refine nc zd (nc zd (nc ze ?_))
 refine aS (aD (by kernel_rfl) (by kernel_rfl) ?_)
 refine nc zy (nc (zw (z:=a2u w a)) (nc zy (nc (zw (z:=a2u w b)) (nc ze (nc ze ?_)))))
 refine ⟨by kernel_rfl,?_⟩
 refine AWp.wk (a7 (s':=(0,AV.bp 350001 0 [])::(4,.bp 4 0 [])::(100004,.bx a.cw)::(5,.bp 5 0 [])::(100005,.bx b.cw)::(7,.val (.lst (a.ps.map Tm.cv)))::(8,.val (.lst (b.ps.map Tm.cv)))::sst emp) ⟨rfl,rfl,rfl,rfl,rfl,rfl,rfl,rfl,rfl,rfl,rfl,rfl,rfl,trivial⟩) ?_
 by_cases h:a.f≠b.f∨a.ps.length≠b.ps.length
 case pos =>
  have hw:wi a b=hdK a b:=by unfold wi;rw [if_pos h]
  have hk0:kb a b≠0:=by rw [a2d,ne_eq,G6,hw];exact b3e h
  have hres:vdS (addT (-1) (addT 1 emp a) b) (hdK a b)=kb a b:=by
   have:=b0B (w:=hdK a b) (by have:=sp3 hk0;rw [a9T h] at this;exact this) (b3e h)
   rw [this,a2d,hw]
  rw [a9T h]
  by_cases hf:a.f≠b.f
  ·have g:decide (a.f≠b.f)=true:=by simpa using hf
   refine aS (aS (aR ?_))
   refine nc zg (nc zh (nc zg (nc zh (nc z7 (nc zl (nc zO (nc zO (nc zO (nc zO (nc zO (nc zM ?_)))))))))))
   refine aC rfl (fun hc=>?_) (fun hc=>by cases hc)
   refine aS (aR ?_)
   refine nc zl (nc zy (nc (z0 (z:=T1 1 (.inl rfl) a hr hok emp 0 emp_bds (by omega)) (B:=x7 _) (C:=q9 _) (G:=c9 (by first | rfl | kernel_rfl))) ?_))
   refine aS (aR ?_)
   refine nc zl (nc zy (nc (z0 (z:=T1 (-1) (.inr rfl) b hbr hbok (addT 1 emp a) (0+a.size) (emp_bds.addT (.inl rfl)) (by omega)) (B:=x7 _) (C:=q9 _) (G:=c9 (by first | rfl | kernel_rfl))) ?_))
   refine aS (aR ?_)
   refine nc zl (nc zy (nc zy (nc (zw (z:=a3a w a b)) (nc (z0 (z:=P4 (addT (-1) (addT 1 emp a) b) (hdK a b)) (B:=x7 _) (C:=q9 _) (G:=c9 (by first | rfl | kernel_rfl))) (nc ze ?_)))))
   rw [hres]
   exact aT ⟨.inr rfl,_,Wk.refl _,rfl,rfl,rfl,rfl,rfl,rfl,rfl,trivial⟩
  ·have g:decide (a.f≠b.f)=false:=by simpa using hf
   refine aS (aS (aR ?_))
   refine nc zg (nc zh (nc zg (nc zh (nc z7 (nc zl (nc (zl (p:=gb)) (nc (zp (r:=gb)) (nc (zl (p:=gb)) (nc (zp (r:=gb)) (nc (z7 (r:=gb)) (nc zP ?_)))))))))))
   refine aC rfl (fun hc=>?_) (fun hc=>?_)
   case refine_2 =>
    exfalso
    have hc:=of_decide_eq_false hc
    simp only [List.length_map,ne_eq,Decidable.not_not] at hc
    omega
   refine aS (aR ?_)
   refine nc zl (nc zy (nc (z0 (z:=T1 1 (.inl rfl) a hr hok emp 0 emp_bds (by omega)) (B:=x7 _) (C:=q9 _) (G:=c9 (by first | rfl | kernel_rfl))) ?_))
   refine aS (aR ?_)
   refine nc zl (nc zy (nc (z0 (z:=T1 (-1) (.inr rfl) b hbr hbok (addT 1 emp a) (0+a.size) (emp_bds.addT (.inl rfl)) (by omega)) (B:=x7 _) (C:=q9 _) (G:=c9 (by first | rfl | kernel_rfl))) ?_))
   refine aS (aR ?_)
   refine nc zl (nc zy (nc zy (nc (zw (z:=a3a w a b)) (nc (z0 (z:=P4 (addT (-1) (addT 1 emp a) b) (hdK a b)) (B:=x7 _) (C:=q9 _) (G:=c9 (by first | rfl | kernel_rfl))) (nc ze ?_)))))
   rw [hres]
   exact aT ⟨.inr rfl,_,Wk.refl _,rfl,rfl,rfl,rfl,rfl,rfl,rfl,trivial⟩
 case neg =>
  have hf:a.f=b.f:=by omega
  have hll:a.ps.length=b.ps.length:=by omega
  have hw:wi a b=kbs a.ps b.ps:=by unfold wi;rw [if_neg h]
  have g:decide (a.f≠b.f)=false:=by simpa using hf
  refine aS (aS (aR ?_))
  refine nc zg (nc zh (nc zg (nc zh (nc z7 (nc zl (nc (zl (p:=gb)) (nc (zp (r:=gb)) (nc (zl (p:=gb)) (nc (zp (r:=gb)) (nc (z7 (r:=gb)) (nc zP ?_)))))))))))
  refine aC rfl (fun hc=>?_) (fun hc=>?_)
  ·exfalso
   have hc:=of_decide_eq_true hc
   simp only [List.length_map,ne_eq] at hc
   omega
  refine aK ?_
  refine aS (aS (aR ?_))
  refine nc zl (nc zp (nc zl ?_))
  refine aB (y0 a.ps.length (fun k=>∀ (j:Nat) u v,j<k→a.ps[j]?=some u→b.ps[j]?=some v→kb u v=0) (fun k=>(0,.bp 350001 0 [])::(7,.val (.lst (a.ps.map Tm.cv)))::(8,.val (.lst (b.ps.map Tm.cv)))::(39,.val (.i (a.ps.map Tm.cv).length))::(40,.val (.i k))::sst emp) (a7 ⟨rfl,rfl,rfl,rfl,rfl,rfl,rfl,rfl,rfl,rfl,rfl,trivial⟩) (fun j u v hj=>by omega) ?_)
  intro k hk hI
  refine aS (aR ?_)
  refine nc zi ?_
  refine aS (aC rfl (fun hlt=>?_) (fun hlt=>?_))
  ·have hkl:k<a.ps.length:=by simpa using hlt
   obtain ⟨x,hx⟩:∃ x,a.ps[k]?=some x:=⟨a.ps[k],List.getElem?_eq_getElem hkl⟩
   obtain ⟨y,hy⟩:∃ y,b.ps[k]?=some y:=⟨b.ps[k]'(by omega),List.getElem?_eq_getElem (by omega)⟩
   have hx':=Tm.map_at hx
   have hy':=Tm.map_at hy
   have hxm:=List.mem_of_getElem? hx
   have hym:=List.mem_of_getElem? hy
   have hxs:=Tm.size_part hxm
   have hys:=Tm.size_part hym
   have hrec:=ih x hxm (hr'.2 x (Tm.ps_mem hxm).1) (hok'.2 x (Tm.ps_mem hxm).1) (by omega) y (hbr'.2 y (Tm.ps_mem hym).1) (hbok'.2 y (Tm.ps_mem hym).1) (by omega)
   obtain ⟨q1,q2,q3⟩:=a8w x y
   refine aK ?_
   refine aS (aB (aS (aR ?_)))
   refine nc zl (nc ze ?_)
   refine aS (aD (by kernel_rfl) (by kernel_rfl) ?_)
   refine nc zl (nc zl (nc zl (nc (zq (j:=k) (H:=hx') (hz:=hsz)) (nc zr (nc zl (nc zl (nc (zq (j:=k) (H:=hy') (hz:=hsz2)) (nc zr (nc (z0 (z:=hrec) (B:=x7 _) (C:=q9 _) (G:=c9 (by first | rfl | kernel_rfl))) (nc ze ?_))))))))))
   refine ⟨by kernel_rfl,?_⟩
   refine aS (aR ?_)
   refine nc zl (nc z7 ?_)
   refine aC rfl (fun hc=>?_) (fun hc=>?_)
   ·have hne:kb x y≠0:=by simpa using hc
    obtain ⟨e1,e2⟩:=b0i hx hy hne hI
    have hk0:kb a b≠0:=by rw [a2d,ne_eq,G6,hw,e2];exact hne
    obtain ⟨l1,l2⟩:=W5 hx
    obtain ⟨m1,m2⟩:=W5 hy
    have sa:=a.size_eq
    have sb:=b.size_eq
    have hA:∀ t∈a.ps.drop (k+1),t.rng∧t.ok:=fun t ht=>⟨hr'.2 t (Tm.ps_mem (List.mem_of_mem_drop ht)).1,hok'.2 t (Tm.ps_mem (List.mem_of_mem_drop ht)).1⟩
    have hB:∀ t∈b.ps.drop (k+1),t.rng∧t.ok:=fun t ht=>⟨hbr'.2 t (Tm.ps_mem (List.mem_of_mem_drop ht)).1,hbok'.2 t (Tm.ps_mem (List.mem_of_mem_drop ht)).1⟩
    have c1:=a1N 1 (.inl rfl) (a.ps.drop (k+1)) (by rw [List.length_drop];omega) hA (scS x y) (x.size+y.size) q1 (by omega)
    have b1:=q1.addL (σ:=1) (.inl rfl) (l:=a.ps.drop (k+1))
    have c2:=a1N (-1) (.inr rfl) (b.ps.drop (k+1)) (by rw [List.length_drop];omega) hB _ _ b1 (by omega)
    rw [List.map_drop] at c1 c2
    have hres:vdS (addL (-1) (addL 1 (scS x y) (a.ps.drop (k+1))) (b.ps.drop (k+1))) (kb x y)=kb a b:=by
     have:=b0B (w:=kb x y) (by have:=sp3 hk0;rw [b0g h,e1] at this;exact this) hne
     rw [this,a2d a b,hw,e2]
    refine aS (aR ?_)
    refine nc zl (nc zl (nc zl (nc zu (nc (zbz (lo:=k+1)) (nc (z0 (z:=c1) (B:=x7 _) (C:=q9 _) (G:=c9 (by first | rfl | kernel_rfl))) ?_)))))
    refine aS (aR ?_)
    refine nc zl (nc zl (nc zl (nc zu (nc (zbz (lo:=k+1)) (nc (z0 (z:=c2) (B:=x7 _) (C:=q9 _) (G:=c9 (by first | rfl | kernel_rfl))) ?_)))))
    refine aS (aR ?_)
    refine nc zl (nc zl (nc (z0 (z:=P4 _ (kb x y)) (B:=x7 _) (C:=q9 _) (G:=c9 (by first | rfl | kernel_rfl))) (nc ze ?_)))
    rw [hres,b0g h,e1]
    exact aT ⟨.inr rfl,_,Wk.refl _,rfl,rfl,rfl,rfl,rfl,rfl,rfl,trivial⟩
   ·have h0:kb x y=0:=by simpa using hc
    rw [q2 h0]
    refine aK ?_
    refine aR ?_
    refine nc zu (nc zl ?_)
    refine ⟨hkl,fun j u v hj hu hv=>?_,a7 ⟨rfl,rfl,rfl,rfl,rfl,rfl,rfl,rfl,rfl,rfl,rfl,trivial⟩⟩
    rcases Nat.lt_or_ge j k with h | h
    ·exact hI j u v h hu hv
    ·have:j=k:=by omega
     subst this
     rw [hx] at hu
     rw [hy] at hv
     cases hu;cases hv
     exact h0
  ·have hkl:k=a.ps.length:=by
    have:¬ k<a.ps.length:=by simpa using hlt
    omega
   subst hkl
   obtain ⟨e1,e2⟩:=a3z (l:=a.ps) (m:=b.ps) fun j u v hu hv=>hI j u v (by
    rcases Nat.lt_or_ge j a.ps.length with h | h
    ·exact h
    ·rw [List.getElem?_eq_none h] at hu;cases hu) hu hv
   have h0:kb a b=0:=by rw [a2d,G6,hw,e2]
   rw [h0,sp2 h0]
   refine aE ?_
   refine aS (aR ?_)
   refine nc ze ?_
   exact aT ⟨.inr rfl,_,Wk.refl _,rfl,rfl,rfl,rfl,rfl,rfl,rfl,trivial⟩
theorem b9x:sst emp=b9W 0 0 0:=b2W rfl
theorem b3y (W:World) (a b:Tm) (hr:a.rng) (hok:a.ok) (hs:a.size≤100000000000) (hbr:b.rng) (hbok:b.ok) (hbs:b.size≤100000000000):AFun Tryz.prog W 82 [a.cw,b.cw] (.val (.i (kb a b))):=by
 have hc:=a5G a hr hok hs b hbr hbok hbs
 rw [b9x] at hc
 refine b6 (rs:=[.i (kb a b)]) Tryz.func82 Tryz.ntmps82 rfl rfl rfl rfl ?_
 intro w U hW
 refine aS (aR ?_)
 refine nc zd (nc zd (nc ze ?_))
 refine aS (aR ?_)
 refine nc (zbA 350001 (hnf:=fun v h=>by first | (rw [hW.1] at h;cases h) | (have h2:=hU _ v h;cases h2))) ?_
 refine AWp.wk ((a7 (s':=[(2,AV.bp 2 0 []),(100002,.bx a.cw),(3,.bp 3 0 []),(100003,.bx b.cw),(5,.bp 350001 0 []),(450001,.obj),(35500100,.val (.i 0)),(35500101,.val (.sc (.map none))),(35500102,.val (.i 0)),(35500103,.val (.i 0))]) ⟨rfl,rfl,rfl,rfl,rfl,by kernel_rfl,by kernel_rfl,by kernel_rfl,by kernel_rfl,by kernel_rfl,trivial⟩).trans (b6i 35500101 300001 rfl rfl rfl (by kernel_rfl) (by kernel_rfl))) ?_
 refine aS (aR ?_)
 refine nc zy (nc zy (nc (z0 (z:=hc) (B:=by kernel_rfl) (C:=q9 _) (G:=c9 (by first | rfl | kernel_rfl))) (nc ze ?_)))
 exact aT ⟨.inr rfl,rfl⟩
theorem a5x (W:World) (a b:Tm) (hr:a.rng) (hok:a.ok) (hs:a.size≤100000000000) (hbr:b.rng) (hbok:b.ok) (hbs:b.size≤100000000000):AFun Tryz.prog W 151 [a.cw,b.cw] (.val (.b (decide (kb a b=1)))):=by
 refine b6 (rs:=[.b (decide (kb a b=1))]) Tryz.func151 Tryz.ntmps151 rfl rfl rfl rfl ?_
 intro w U hW
 refine aS (aR ?_)
 refine nc zd (nc zd (nc ze ?_))
 refine aS (aR ?_)
 refine nc zy (nc zy (nc (zw (z:=b3y w a b hr hok hs hbr hbok hbs)) (nc zt (nc ze ?_))))
 exact aT ⟨.inr rfl,rfl⟩
noncomputable def c3l (a b:Tm):Bool:=haveI:=Classical.propDecidable;decide (cov a b)
def zTm:Tm:=⟨0,[]⟩
theorem b0G (a:List Tm) (k i:Nat) (hi:i<a.length) :
  (((a++List.replicate k zTm).map Tm.cv).take i++((((a++List.replicate k zTm).map Tm.cv).drop (i+1)).take (a.length-(i+1))++((a++List.replicate k zTm).map Tm.cv).drop (i+(a.length-(i+1))))).take (a.length-1)++(List.replicate (a.length-(a.length-1)) zTm.cv++(((a++List.replicate k zTm).map Tm.cv).take i++((((a++List.replicate k zTm).map Tm.cv).drop (i+1)).take (a.length-(i+1))++((a++List.replicate k zTm).map Tm.cv).drop (i+(a.length-(i+1))))).drop (a.length-1+(a.length-(a.length-1))))=(a.eraseIdx i++List.replicate (k+1) zTm).map Tm.cv:=by
 have e1:((a++List.replicate k zTm).map Tm.cv).take i=(a.take i).map Tm.cv:=by rw [←List.map_take,List.take_append_of_le_length (by omega)]
 have e2:(((a++List.replicate k zTm).map Tm.cv).drop (i+1)).take (a.length-(i+1))=(a.drop (i+1)).map Tm.cv:=by
  rw [←List.map_drop,←List.map_take,List.drop_append_of_le_length (by omega),List.take_append_of_le_length (by rw [List.length_drop];exact Nat.le_refl _),List.take_of_length_le (by rw [List.length_drop];exact Nat.le_refl _)]
 obtain ⟨E,hE⟩:∃ E,E=(a.eraseIdx i).map Tm.cv:=⟨_,rfl⟩
 have hEl:E.length=a.length-1:=by rw [hE,List.length_map,List.length_eraseIdx_of_lt hi]
 have e3:(a.take i).map Tm.cv++((a.drop (i+1)).map Tm.cv++((a++List.replicate k zTm).map Tm.cv).drop (i+(a.length-(i+1))))=E++((a++List.replicate k zTm).map Tm.cv).drop (a.length-1):=by
  rw [←List.append_assoc,←List.map_append,←List.eraseIdx_eq_take_drop_succ,←hE,show i+(a.length-(i+1))=a.length-1 by omega]
 rw [e1,e2,e3]
 have e4:a.length-(a.length-1)=1:=by omega
 have e5:a.length-1+1=a.length:=by omega
 have e7:(a.eraseIdx i++List.replicate (k+1) zTm).map Tm.cv=E++List.replicate (k+1) zTm.cv:=by rw [List.map_append,←hE,List.map_replicate]
 rw [e4,e5,←hEl,List.take_left,e7]
 have e6:(E++((a++List.replicate k zTm).map Tm.cv).drop E.length).drop a.length=List.replicate k zTm.cv:=by
  rw [List.drop_append,List.drop_eq_nil_of_le (by omega),List.nil_append,List.drop_drop,show E.length+(a.length-E.length)=a.length by omega,←List.map_drop,List.drop_left,List.map_replicate]
 rw [e6,List.replicate_succ]
 rfl
theorem a5K (a:List Tm) (k:Nat):((a++List.replicate k zTm).map Tm.cv).take a.length=a.map Tm.cv:=by rw [←List.map_take,List.take_left]
theorem a7O (W:World) (p:Tm→Bool) (fc:CV) (c:List Tm) (hl:c.length≤1000000) (hc:∀ W,∀ x∈c,L4 Tryz.prog W fc [x.cw] (.val (.b (p x)))):AFun Tryz.prog W 147 [.lst (c.map Tm.cv),fc] (.val (.i (match c.findIdx? p with | some i=>(i:Int) | none => -1))):=by
 have hsz:=Tm.size_all c
 obtain ⟨R,hR⟩:∃ R:Int,R=match c.findIdx? p with | some i=>(i:Int) | none => -1:=⟨_,rfl⟩
 rw [←hR]
 refine b6 (rs:=[.i R]) Tryz.func147 Tryz.ntmps147 rfl rfl rfl rfl ?_
 intro w U hW
 refine aS (aR ?_)
 refine nc ze ?_
 refine aS (aS (aR ?_))
 refine nc zl (nc zp (nc zl ?_))
 refine aB (y0 c.length (fun k=>∀ x∈c.take k,p x=false) (fun k=>[(0,.val (.lst (c.map Tm.cv))),(1,.val fc),(7,.val (.i (c.map Tm.cv).length)),(8,.val (.i k))]) (a7 ⟨rfl,rfl,rfl,rfl,trivial⟩) (by simp) ?_)
 intro k hk hI
 refine aS (aR ?_)
 refine nc zi ?_
 refine aS (aC rfl (fun hlt=>?_) (fun hlt=>?_))
 ·have hkl:k<c.length:=by simpa using hlt
  obtain ⟨x,hx⟩:∃ x,c[k]?=some x:=⟨c[k],List.getElem?_eq_getElem hkl⟩
  have hx':=Tm.map_at hx
  have hxm:=List.mem_of_getElem? hx
  refine aK ?_
  refine aS (aB (aS (aR ?_)))
  refine nc zl (nc ze ?_)
  refine aS (aR ?_)
  refine nc zl (nc zl (nc zl (nc (zq (j:=k) (H:=hx') (hz:=hsz)) (nc zr (nc (zK (E:=hc w x hxm)) ?_)))))
  refine aC rfl (fun hp=>?_) (fun hp=>?_)
  ·have hRk:R=k:=by
    rw [hR]
    have:c.findIdx? p=some k:=by
     rw [List.findIdx?_eq_some_iff_getElem]
     obtain ⟨hk2,e⟩:=List.getElem?_eq_some_iff.1 hx
     refine ⟨hk2,by rw [e];exact hp,fun j hj=>?_⟩
     have:=hI c[j] (List.mem_take_iff_getElem.2 ⟨j,by omega,rfl⟩)
     simpa using this
    rw [this]
   rw [hRk]
   refine aS (aR ?_)
   refine nc zl (nc ze ?_)
   exact aT (And.intro (.inr rfl) rfl)
  ·refine aK ?_
   refine aR ?_
   refine nc zu (nc zl ?_)
   refine ⟨hkl,?_,a7 ⟨rfl,rfl,rfl,rfl,trivial⟩⟩
   intro y hy
   rw [List.take_add_one,hx,List.mem_append] at hy
   rcases hy with hy | hy
   ·exact hI y hy
   ·simp at hy;rw [hy];exact hp
 ·have hkl:k=c.length:=by
   have:¬ k<c.length:=by simpa using hlt
   omega
  subst hkl
  rw [List.take_length] at hI
  have hRn:R = -1:=by
   rw [hR,List.findIdx?_eq_none_iff.2 fun x hx=>by rw [hI x hx]]
  rw [hRn]
  refine aE ?_
  refine aS (aR ?_)
  refine nc ze ?_
  exact aT (And.intro (.inr rfl) rfl)
theorem a7C (W:World) (p:Tm→Bool) (fc:CV) (c:List Tm) (hl:c.length≤1000000) (hc:∀ W,∀ x∈c,L4 Tryz.prog W fc [x.cw] (.val (.b (p x)))):AFun Tryz.prog W 126 [.lst (c.map Tm.cv),fc] (.val (.b (c.any p))):=by
 have e:decide ((match c.findIdx? p with | some i=>(i:Int) | none => -1)≥0)=c.any p:=by
  cases h:c.findIdx? p with
  | none =>
   have h1:=List.findIdx?_eq_none_iff.1 h
   have:c.any p=false:=by
    rw [List.any_eq_false]
    intro x hx
    rw [h1 x hx];simp
   rw [this];rfl
  | some i =>
   obtain ⟨hi,hp,_⟩:=List.findIdx?_eq_some_iff_getElem.1 h
   have:c.any p=true:=List.any_eq_true.2 ⟨_,List.getElem_mem hi,hp⟩
   rw [this]
   simp
 refine b6 (rs:=[.b (c.any p)]) Tryz.func126 Tryz.ntmps126 rfl rfl rfl rfl ?_
 intro w U hW
 refine aS (aR ?_)
 refine nc ze ?_
 refine aS (aR ?_)
 refine nc zl (nc zl (nc (zw (z:=a7O w p fc c hl hc)) (nc zbg (nc ze ?_))))
 rw [e]
 exact aT (And.intro (.inr rfl) rfl)
theorem a4j (a:List Tm) (k i:Nat) (hi:i<a.length) (hb:a.length+k≤1000000):p6 Tryz.prog 149 [(400001,.mrow 42 2 ((a++List.replicate k zTm).map Tm.cv))] [.sl 400001 0 a.length 2,.val (.i i),.val (.i ((i:Int)+1))] (.sl 400001 0 (a.length-1) 2) [(400001,.mrow 42 2 ((a.eraseIdx i++List.replicate (k+1) zTm).map Tm.cv))]:=by
 refine j9 Tryz.func149 Tryz.ntmps149 rfl rfl rfl rfl rfl rfl ?_
 intro w U hU
 obtain ⟨l,hl⟩:∃ l,l=(a++List.replicate k zTm).map Tm.cv:=⟨_,rfl⟩
 have hll:l.length=a.length+k:=by rw [hl];simp
 rw [←hl]
 refine aS (aR ?_)
 refine nc ze ?_
 refine aS (aR ?_)
 refine nc zl (nc zl (nc zl (nc zl (nc zV (nc (zbB (i) (i+1) (a.length)) ?_)))))
 refine aS (aS (aR ?_))
 refine nc zl (nc zl (nc zt ?_))
 refine aC rfl (fun h=>?_) (fun h=>?_)
 ·have h:decide ((i:Int)=(i:Int)+1)=true:=h
  have:=of_decide_eq_true h
  omega
 refine aK ?_
 refine AWp.wk (a7 (s':=[(0,.sl 400001 0 a.length 2),(1,.val (.i i)),(2,.val (.i ((i:Int)+1))),(400001,.mrow 42 2 l)]) ⟨rfl,rfl,rfl,rfl,trivial⟩) ?_
 refine aS (aR ?_)
 refine nc zl (nc zV (nc ze ?_))
 refine aS (aD (by kernel_rfl) (by kernel_rfl) ?_)
 refine nc zl (nc zl (nc (zZ (j:=i)) (nc zl (nc zl (nc (zW (j:=i+1)) (nc zbC (nc ze ?_)))))))
 refine ⟨by kernel_rfl,?_⟩
 obtain ⟨r1,hr1⟩:∃ r1,r1=l.take i++((l.drop (0+(i+1))).take (a.length-(i+1))++l.drop (i+(a.length-(i+1)))):=⟨_,rfl⟩
 have hr1l:r1.length=l.length:=by rw [hr1];simp only [List.length_append,List.length_take,List.length_drop];omega
 have e1:i+(a.length-(i+1))=a.length-1:=by omega
 refine AWp.wk (a7 (s':=[(0,.sl 400001 0 (a.length-1) 2),(7,.val (.i a.length)),(400001,.mrow 42 2 r1)]) ⟨by rw [←e1];rfl,rfl,by rw [hr1];rfl,trivial⟩) ?_
 refine aS (aR ?_)
 refine nc zl (nc zl (nc zV (nc zl (nc (zbD (a.length-1) (a.length)) (nc zY ?_)))))
 refine aS (aR ?_)
 refine nc zl (nc ze ?_)
 refine aT ⟨.inr rfl,_,Wk.refl _,rfl,?_,trivial⟩
 show some (AV.mrow _ _ _)=some (AV.mrow _ _ _)
 have e2:=b0G a k i hi
 rw [←hl] at e2
 rw [←e2,hr1,Nat.zero_add]
 rfl
theorem a4i (a:List Tm) (k i:Nat) (hi:i<a.length) (hb:a.length+k≤1000000):p6 Tryz.prog 149 [(400002,.mrow 42 2 ((a++List.replicate k zTm).map Tm.cv))] [.sl 400002 0 a.length 2,.val (.i i),.val (.i ((i:Int)+1))] (.sl 400002 0 (a.length-1) 2) [(400002,.mrow 42 2 ((a.eraseIdx i++List.replicate (k+1) zTm).map Tm.cv))]:=by
 refine j9 Tryz.func149 Tryz.ntmps149 rfl rfl rfl rfl rfl rfl ?_
 intro w U hU
 obtain ⟨l,hl⟩:∃ l,l=(a++List.replicate k zTm).map Tm.cv:=⟨_,rfl⟩
 have hll:l.length=a.length+k:=by rw [hl];simp
 rw [←hl]
 refine aS (aR ?_)
 refine nc ze ?_
 refine aS (aR ?_)
 refine nc zl (nc zl (nc zl (nc zl (nc zV (nc (zbB (i) (i+1) (a.length)) ?_)))))
 refine aS (aS (aR ?_))
 refine nc zl (nc zl (nc zt ?_))
 refine aC rfl (fun h=>?_) (fun h=>?_)
 ·have h:decide ((i:Int)=(i:Int)+1)=true:=h
  have:=of_decide_eq_true h
  omega
 refine aK ?_
 refine AWp.wk (a7 (s':=[(0,.sl 400002 0 a.length 2),(1,.val (.i i)),(2,.val (.i ((i:Int)+1))),(400002,.mrow 42 2 l)]) ⟨rfl,rfl,rfl,rfl,trivial⟩) ?_
 refine aS (aR ?_)
 refine nc zl (nc zV (nc ze ?_))
 refine aS (aD (by kernel_rfl) (by kernel_rfl) ?_)
 refine nc zl (nc zl (nc (zZ (j:=i)) (nc zl (nc zl (nc (zW (j:=i+1)) (nc zbC (nc ze ?_)))))))
 refine ⟨by kernel_rfl,?_⟩
 obtain ⟨r1,hr1⟩:∃ r1,r1=l.take i++((l.drop (0+(i+1))).take (a.length-(i+1))++l.drop (i+(a.length-(i+1)))):=⟨_,rfl⟩
 have hr1l:r1.length=l.length:=by rw [hr1];simp only [List.length_append,List.length_take,List.length_drop];omega
 have e1:i+(a.length-(i+1))=a.length-1:=by omega
 refine AWp.wk (a7 (s':=[(0,.sl 400002 0 (a.length-1) 2),(7,.val (.i a.length)),(400002,.mrow 42 2 r1)]) ⟨by rw [←e1];rfl,rfl,by rw [hr1];rfl,trivial⟩) ?_
 refine aS (aR ?_)
 refine nc zl (nc zl (nc zV (nc zl (nc (zbD (a.length-1) (a.length)) (nc zY ?_)))))
 refine aS (aR ?_)
 refine nc zl (nc ze ?_)
 refine aT ⟨.inr rfl,_,Wk.refl _,rfl,?_,trivial⟩
 show some (AV.mrow _ _ _)=some (AV.mrow _ _ _)
 have e2:=b0G a k i hi
 rw [←hl] at e2
 rw [←e2,hr1,Nat.zero_add]
 rfl
theorem b2m (W:World) (t u:Tm) (ht:t.rng) (hu:u.rng):AFun Tryz.prog W 148 [u.cw,.ptr t.cw] (.val (.b (B0 t u))):=by
 refine b6 (rs:=[.b (B0 t u)]) Tryz.func148 Tryz.ntmps148 rfl rfl rfl rfl ?_
 intro w U hW
 refine aS (aR ?_)
 refine nc zd (nc ze ?_)
 refine aS (aR ?_)
 refine nc zbE (nc zy (nc (zw (z:=b3H w ht hu)) (nc ze ?_)))
 exact aT (And.intro (.inr rfl) rfl)
noncomputable def rwT (n:Nat) (a:List Tm) (k:Nat):Nat×AV:=(n,.mrow 42 2 ((a++List.replicate k zTm).map Tm.cv))
theorem a3s:∀ (n:Nat) (a b:List Tm),(I1 n a b).1.length≤a.length∧(I1 n a b).2.length≤b.length
 | 0,a,b=>⟨Nat.le_refl _,Nat.le_refl _⟩
 | n+1,a,b=>by
  unfold I1
  split
  ·exact a3s n a b
  ·split
   ·exact a3s n a b
   ·rename_i k hk
    have h:=a3s n (a.eraseIdx n) (b.eraseIdx k)
    exact ⟨Nat.le_trans h.1 (List.length_eraseIdx_le _ _),Nat.le_trans h.2 (List.length_eraseIdx_le _ _)⟩
theorem a3d:∀ (n:Nat) (a b:List Tm),(∀ t∈(I1 n a b).1,t∈a)∧∀ t∈(I1 n a b).2,t∈b
 | 0,a,b=>⟨fun _ h=>h,fun _ h=>h⟩
 | n+1,a,b=>by
  unfold I1
  split
  ·exact a3d n a b
  ·split
   ·exact a3d n a b
   ·rename_i k hk
    have h:=a3d n (a.eraseIdx n) (b.eraseIdx k)
    exact ⟨fun t ht=>List.mem_of_mem_eraseIdx (h.1 t ht),fun t ht=>List.mem_of_mem_eraseIdx (h.2 t ht)⟩
theorem b4P (a b:List Tm) (ha:∀ t∈a,t.rng) (hb:∀ t∈b,t.rng) (hal:a.length≤100000) (hbl:b.length≤100000) :
  b2Z Tryz.prog 123 [rwT 400001 a 0,rwT 400002 b 0] 400001 400002 (fun v1 v2=>[.val (.sc (a4m v1 a.length)),.val (.sc (a4m v2 b.length))]) (fun v1 v2 => .tup [.sc (a4m v1 (I1 a.length a b).1.length),.sc (a4m v2 (I1 a.length a b).2.length)]) [rwT 400001 (I1 a.length a b).1 (a.length-(I1 a.length a b).1.length),rwT 400002 (I1 a.length a b).2 (b.length-(I1 a.length a b).2.length)]:=by
 refine b5f 2 400001 3 400002 Tryz.func123 Tryz.ntmps123 rfl rfl (fun _ _=>rfl) rfl rfl rfl rfl rfl ?_
 intro v1 v2 w U hU
 obtain ⟨X,Y,hXY⟩:∃ X Y,I1 a.length a b=(X,Y):=⟨_,_,rfl⟩
 rw [hXY]
 have hla:((a++List.replicate 0 zTm).map Tm.cv).length=a.length:=by simp
 have hlb:((b++List.replicate 0 zTm).map Tm.cv).length=b.length:=by simp
 refine AWp.wk ((b1m 0 400001 2 a.length (e:=42) (z:=2) (l:=(a++List.replicate 0 zTm).map Tm.cv) rfl rfl rfl rfl (by omega)).trans ((b1m 1 400002 3 b.length (e:=42) (z:=2) (l:=(b++List.replicate 0 zTm).map Tm.cv) rfl rfl rfl rfl (by omega)).trans (a7 (s':=[(2,.hdl v1 400001),(3,.hdl v2 400002),(0,.sl 400001 0 a.length 2),(1,.sl 400002 0 b.length 2),rwT 400001 a 0,rwT 400002 b 0]) ⟨rfl,rfl,rfl,rfl,rfl,rfl,trivial⟩))) ?_
 refine aS (aR ?_)
 refine nc ze (nc ze ?_)
 refine aS (aS (aR ?_))
 refine nc zl (nc zV (nc zj (nc ze ?_)))
 let st:Nat→List Tm→List Tm→Nat→Nat→AS:=fun m A B ka kb=>[(2,.hdl v1 400001),(3,.hdl v2 400002),(0,.sl 400001 0 A.length 2),(1,.sl 400002 0 B.length 2),(6,.val (.i ((m:Int)-1))),rwT 400001 A ka,rwT 400002 B kb]
 refine aB (l6 (fun j s=>∃ A B ka kb,I1 j A B=(X,Y)∧j≤A.length∧A.length+ka=a.length∧B.length+kb=b.length∧(∀ t∈A,t.rng)∧(∀ t∈B,t.rng)∧s=st j A B ka kb) (s':=st a.length a b 0 0) (a7 ⟨rfl,rfl,rfl,rfl,rfl,rfl,rfl,trivial⟩) ⟨a,b,0,0,hXY,Nat.le_refl _,rfl,rfl,ha,hb,rfl⟩ ?_)
 rintro m s ⟨A,B,ka,kb,hc,hm,hka,hkb,hA,hB,rfl⟩
 refine aS (aS (aR ?_))
 refine nc zl (nc zbg ?_)
 refine aC rfl (fun hlt=>?_) (fun hlt=>?_)
 ·have hm0:0<m:=by have h3:decide ((m:Int)-1≥0)=true:=hlt;have:=of_decide_eq_true h3;omega
  obtain ⟨m,rfl⟩:∃ q,m=q+1:=⟨m-1,by omega⟩
  have hmA:m<A.length:=by omega
  obtain ⟨t,ht⟩:∃ t,A[m]?=some t:=⟨A[m],List.getElem?_eq_getElem hmA⟩
  have htr:t.rng:=hA t (List.mem_of_getElem? ht)
  have ht':((A++List.replicate ka zTm).map Tm.cv)[m]?=some t.cw:=Tm.map_at (by rw [List.getElem?_append_left hmA];exact ht)
  have hlA:((A++List.replicate ka zTm).map Tm.cv).length=A.length+ka:=by simp
  have hlB:((B++List.replicate kb zTm).map Tm.cv).length=B.length+kb:=by simp
  obtain ⟨lA,hlA2⟩:∃ lA,lA=(A++List.replicate ka zTm).map Tm.cv:=⟨_,rfl⟩
  refine aK ?_
  refine AWp.wk (a7 (s':=[(2,.hdl v1 400001),(3,.hdl v2 400002),(0,.sl 400001 0 A.length 2),(1,.sl 400002 0 B.length 2),(6,.val (.i (((m+1:Nat):Int)-1))),(400001,.mrow 42 2 lA),rwT 400002 B kb]) ⟨rfl,rfl,rfl,rfl,rfl,by rw [hlA2];rfl,rfl,trivial⟩) ?_
  rw [←hlA2] at ht' hlA
  refine aS (aB (aS (aR ?_)))
  refine nc zl (nc zl (nc (zI (k:=m)) (nc (zJ (G:=ht')) (nc zk (nc zo ?_)))))
  refine AWp.wk (N2 7 rfl rfl rfl (s':=[(2,.hdl v1 400001),(3,.hdl v2 400002),(0,.sl 400001 0 A.length 2),(1,.sl 400002 0 B.length 2),(6,.val (.i (((m+1:Nat):Int)-1))),(400001,.mrow 42 2 lA),rwT 400002 B kb]) ⟨rfl,rfl,rfl,rfl,rfl,rfl,rfl,trivial⟩ rfl rfl rfl) ?_
  have hI:=a7O w (B0 t) (.fn 148 0 [.ptr t.cw]) B (by omega) (fun w x hx => .inl ⟨_,_,_,rfl,b2m w t x htr (hB x hx)⟩)
  rw [←a5K B kb] at hI
  have hI2:=a9k (e:=42) (z:=2) (nm:=400002) (N:=B.length) (by omega) (by omega) (by omega) hI
  refine aS (aR ?_)
  refine nc zl (nc zB (nc (z0 (z:=hI2) (G:=c9 (by first | rfl | kernel_rfl))) (nc ze ?_)))
  obtain ⟨J,hJ⟩:∃ J:Int,J=(match B.findIdx? (B0 t) with | some i=>(i:Int) | none => -1):=⟨_,rfl⟩
  refine AWp.wk (a7 (s':=[(2,.hdl v1 400001),(3,.hdl v2 400002),(0,.sl 400001 0 A.length 2),(1,.sl 400002 0 B.length 2),(6,.val (.i (((m+1:Nat):Int)-1))),(8,.val (.i J)),(400001,.mrow 42 2 lA),rwT 400002 B kb]) ⟨rfl,rfl,rfl,rfl,rfl,by rw [hJ];rfl,rfl,rfl,trivial⟩) ?_
  refine aS (aR ?_)
  refine nc zl (nc zbg ?_)
  unfold I1 at hc
  rw [ht] at hc
  simp only at hc
  refine aC rfl (fun hf=>?_) (fun hf=>?_)
  ·have hf:decide (J≥0)=true:=hf
   cases hfi:B.findIdx? (B0 t) with
   | none=>rw [hfi] at hJ;rw [hJ] at hf;simp at hf
   | some k =>
    rw [hfi] at hJ hc
    have hc:I1 m (A.eraseIdx m) (B.eraseIdx k)=(X,Y):=hc
    obtain ⟨hkl,_,_⟩:=List.findIdx?_eq_some_iff_getElem.1 hfi
    refine AWp.wk (a7 (s':=[(2,.hdl v1 400001),(3,.hdl v2 400002),(0,.sl 400001 0 A.length 2),(1,.sl 400002 0 B.length 2),(6,.val (.i (m:Int))),(8,.val (.i (k:Int))),rwT 400001 A ka,rwT 400002 B kb]) ⟨rfl,rfl,rfl,rfl,?_,by rw [hJ];rfl,by rw [hlA2];rfl,rfl,trivial⟩) ?_
    ·show some (AV.val (.i (((m+1:Nat):Int)-1)))=some (AV.val (.i (m:Int)))
     rw [show ((m+1:Nat):Int)-1=(m:Int) by omega]
    refine aR ?_
    refine nc zl (nc zl (nc zl (nc zu (nc (z0 (z:=a4j A ka m hmA (by omega)) (G:=c9 (by first | rfl | kernel_rfl))) (nc zl (nc zl (nc zl (nc zu (nc (z0 (z:=a4i B kb k hkl (by omega)) (G:=c9 (by first | rfl | kernel_rfl))) (nc ze (nc ze ?_)))))))))))
    have hAe:(A.eraseIdx m).length=A.length-1:=List.length_eraseIdx_of_lt hmA
    have hBe:(B.eraseIdx k).length=B.length-1:=List.length_eraseIdx_of_lt hkl
    refine AWp.wk (a7 (s':=[(2,.hdl v1 400001),(3,.hdl v2 400002),(0,.sl 400001 0 (A.eraseIdx m).length 2),(1,.sl 400002 0 (B.eraseIdx k).length 2),(6,.val (.i (m:Int))),rwT 400001 (A.eraseIdx m) (ka+1),rwT 400002 (B.eraseIdx k) (kb+1)]) ⟨rfl,rfl,by rw [hAe];rfl,by rw [hBe];rfl,rfl,rfl,rfl,trivial⟩) ?_
    refine aR ?_
    refine nc zl (nc zj (nc ze ?_))
    refine ⟨m,st m (A.eraseIdx m) (B.eraseIdx k) (ka+1) (kb+1),by omega,⟨_,_,_,_,hc,by omega,by omega,by omega,fun t h=>hA t (List.mem_of_mem_eraseIdx h),fun t h=>hB t (List.mem_of_mem_eraseIdx h),rfl⟩,a7 ⟨rfl,rfl,rfl,rfl,rfl,rfl,rfl,trivial⟩⟩
  ·have hf:decide (J≥0)=false:=hf
   cases hfi:B.findIdx? (B0 t) with
   | some k=>rw [hfi] at hJ;rw [hJ] at hf;simp at hf
   | none =>
    rw [hfi] at hc
    have hc:I1 m A B=(X,Y):=hc
    refine aK ?_
    refine AWp.wk (a7 (s':=[(2,.hdl v1 400001),(3,.hdl v2 400002),(0,.sl 400001 0 A.length 2),(1,.sl 400002 0 B.length 2),(6,.val (.i (m:Int))),rwT 400001 A ka,rwT 400002 B kb]) ⟨rfl,rfl,rfl,rfl,?_,by rw [hlA2];rfl,rfl,trivial⟩) ?_
    ·show some (AV.val (.i (((m+1:Nat):Int)-1)))=some (AV.val (.i (m:Int)))
     rw [show ((m+1:Nat):Int)-1=(m:Int) by omega]
    refine aR ?_
    refine nc zl (nc zj (nc ze ?_))
    refine ⟨m,st m A B ka kb,by omega,⟨_,_,_,_,hc,by omega,hka,hkb,hA,hB,rfl⟩,a7 ⟨rfl,rfl,rfl,rfl,rfl,rfl,rfl,trivial⟩⟩
 ·have hm0:m=0:=by have h3:decide ((m:Int)-1≥0)=false:=hlt;have:=of_decide_eq_false h3;omega
  subst hm0
  unfold I1 at hc
  cases hc
  have hkA:ka=a.length-X.length:=by omega
  have hkB:kb=b.length-Y.length:=by omega
  subst hkA hkB
  refine aE ?_
  refine aS (aR ?_)
  refine nc zl (nc zl (nc ze (nc ze ?_)))
  refine aT ⟨.inr rfl,_,(a2X 4 400001 2 rfl rfl rfl).trans (a2X 5 400002 3 rfl rfl rfl),rfl,rfl,rfl,trivial⟩
end Go.Proofs.YtglmoficcjphaaaGreat
namespace Go.Proofs.YtglmoficcjphaaaGreat
open Go.RowKit
set_option linter.unusedVariables false
structure Lt where
 neg:Bool
 a:Tm
 b:Tm
noncomputable abbrev Lt.cw (l:Lt):CV := .row [.b l.neg,l.a.cw,l.b.cw]
noncomputable def Lt.cv (l:Lt):CV:=l.cw
theorem Lt.size_all (c:List Lt):∀ x∈c.map Lt.cv,x.size=5:=by
 intro x hx
 obtain ⟨l,_,rfl⟩:=List.mem_map.1 hx
 rfl
theorem Lt.map_at {c:List Lt} {i:Nat} {l:Lt} (h:c[i]?=some l):(c.map Lt.cv)[i]?=some l.cw:=by rw [List.getElem?_map,h];rfl
def Lt.strip (l:Lt):Lt:=⟨l.neg,l.a.strip,l.b.strip⟩
def Lt.rng (l:Lt):Prop:=l.a.rng∧l.b.rng
def Lt.ok (l:Lt):Prop:=l.a.ok∧l.b.ok
end Go.Proofs.YtglmoficcjphaaaGreat
namespace Go.Proofs.YtglmoficcjphaaaGreat
open Go.RowKit
set_option linter.unusedVariables false
set_option linter.unusedSimpArgs false
set_option maxRecDepth 100000
def Tm.fit (t:Tm):Prop:=t.rng∧t.ok∧t.size≤90000000000
theorem b4u (W:World) (t u:Tm) (ht:t.fit) (hu:u.fit):AFun Tryz.prog W 150 [u.cw,.ptr t.cw] (.val (.b (decide (kb u t=1)))):=by
 refine b6 (rs:=[.b (decide (kb u t=1))]) Tryz.func150 Tryz.ntmps150 rfl rfl rfl rfl ?_
 intro w U hW
 refine aS (aR ?_)
 refine nc zd (nc ze ?_)
 refine aS (aR ?_)
 refine nc zy (nc zbE (nc (zw (z:=a5x w u t hu.1 hu.2.1 (Nat.le_trans hu.2.2 (by omega)) ht.1 ht.2.1 (Nat.le_trans ht.2.2 (by omega)))) (nc ze ?_)))
 exact aT (And.intro (.inr rfl) rfl)
theorem b1Y (W:World) (t:Tm) (l:List Tm) (ht:t.fit) (hl:∀ u∈l,u.fit) (hn:l.length≤100000):AFun Tryz.prog W 125 [t.cw,.lst (l.map Tm.cv)] (.val (.b (l.any fun u=>decide (kb u t=1)))):=by
 refine b6 (rs:=[.b (l.any fun u=>decide (kb u t=1))]) Tryz.func125 Tryz.ntmps125 rfl rfl rfl rfl ?_
 intro w U hW
 refine aS (aR ?_)
 refine nc zd (nc ze ?_)
 refine AWp.wk (N2 2 rfl rfl rfl (s':=[(1,.val (.lst (l.map Tm.cv)))]) ⟨rfl,trivial⟩ rfl rfl rfl) ?_
 refine aS (aR ?_)
 refine nc zl (nc zB ?_)
 refine nc (zw (z:=a7C w (fun u=>decide (kb u t=1)) (.fn 150 0 [.ptr t.cw]) l (by omega) (fun w x hx => .inl ⟨_,_,_,rfl,b4u w t x ht (hl x hx)⟩))) ?_
 refine nc ze ?_
 exact aT (And.intro (.inr rfl) rfl)
theorem b4O (W:World) (t:Tm) (l:List Tm) (ht:t.fit) (hl:∀ u∈l,u.fit) (hn:l.length≤100000):AFun Tryz.prog W 124 [t.cw,.ptr (.lst (l.map Tm.cv))] (.val (.b (!(l.any fun u=>decide (kb u t=1))))):=by
 refine b6 (rs:=[.b (!(l.any fun u=>decide (kb u t=1)))]) Tryz.func124 Tryz.ntmps124 rfl rfl rfl rfl ?_
 intro w U hW
 refine aS (aR ?_)
 refine nc zd (nc ze ?_)
 refine aS (aR ?_)
 refine nc zy (nc zbE (nc (zw (z:=b1Y w t l ht hl hn)) (nc zX (nc ze ?_))))
 exact aT (And.intro (.inr rfl) rfl)
theorem b3J (a b:List Tm) (ha:∀ t∈a,t.fit) (hb:∀ t∈b,t.fit) (hal:a.length≤100000) (hbl:b.length≤100000) :
  p6 Tryz.prog 97 [rwT 400001 a 0,rwT 400002 b 0] [.sl 400001 0 a.length 2,.sl 400002 0 b.length 2] (.val (.b (a9e a b))) [rwT 400001 (I1 a.length a b).1 (a.length-(I1 a.length a b).1.length),rwT 400002 (I1 a.length a b).2 (b.length-(I1 a.length a b).2.length)]:=by
 have hC:=b4P a b (fun t h=>(ha t h).1) (fun t h=>(hb t h).1) hal hbl
 have hcl:=a3s a.length a b
 have hcm:=a3d a.length a b
 have hmB:a9e a b=b3i (I1 a.length a b).1 (I1 a.length a b).2:=rfl
 rw [hmB]
 obtain ⟨X,Y,hXY⟩:∃ X Y,I1 a.length a b=(X,Y):=⟨_,_,rfl⟩
 rw [hXY] at hC hcl hcm ⊢
 simp only at hC hcl hcm ⊢
 have hX:∀ t∈X,t.fit:=fun t h=>ha t (hcm.1 t h)
 have hY:∀ t∈Y,t.fit:=fun t h=>hb t (hcm.2 t h)
 refine j9 Tryz.func97 Tryz.ntmps97 rfl rfl rfl rfl rfl rfl ?_
 intro w U hU
 refine AWp.hdl 20 400001 rfl rfl rfl fun v1=>?_
 refine AWp.hdl 21 400002 rfl rfl rfl fun v2=>?_
 refine AWp.wk ((a2X 0 400001 20 rfl rfl rfl).trans ((a2X 1 400002 21 rfl rfl rfl).trans (a7 (s':=[(20,.hdl v1 400001),(21,.hdl v2 400002),(0,.val (.sc (a4m v1 a.length))),(1,.val (.sc (a4m v2 b.length))),rwT 400001 a 0,rwT 400002 b 0]) ⟨rfl,rfl,rfl,rfl,rfl,rfl,trivial⟩))) ?_
 refine aS (aR ?_)
 refine nc zd (nc ze ?_)
 refine aS (aR ?_)
 refine nc zy (nc zl (nc (zbF 20 21 (x:=hC) (hnb:=c9 (by first | rfl | kernel_rfl))) (nc zl (nc zx (nc zx (nc zo (nc ze ?_)))))))
 obtain ⟨kx,hkx⟩:∃ kx,kx=a.length-X.length:=⟨_,rfl⟩
 obtain ⟨ky,hky⟩:∃ ky,ky=b.length-Y.length:=⟨_,rfl⟩
 rw [←hkx,←hky]
 refine AWp.wk (a7 (s':=[(20,.hdl v1 400001),(21,.hdl v2 400002),(1,.val (.sc (a4m v2 Y.length))),(2,.bp 2 0 []),(100002,.bx (.sc (a4m v1 X.length))),rwT 400001 X kx,rwT 400002 Y ky]) ⟨rfl,rfl,rfl,rfl,rfl,rfl,rfl,trivial⟩) ?_
 refine b4U (R:=fun e=>e = .normal∨e = .ret) [(1,.lst (Y.map Tm.cv)),(2,.ptr (.lst (X.map Tm.cv)))] 4 (.bool (b3i X Y)) [rwT 400001 X kx,rwT 400002 Y ky] ?_ ?_ ⟨rfl,rfl,trivial⟩ rfl rfl rfl (fun e he=>⟨he,_,Wk.refl _,rfl,rfl,rfl,trivial⟩)
 ·intro a w D hv h q hq
  obtain ⟨_,_,hr1,hx1⟩:∃ u,a.tmps[20]?=some u∧RN 400001∧hv 400001=v1:=h.slot 20 _ rfl (by omega)
  obtain ⟨_,_,hr2,hx2⟩:∃ u,a.tmps[21]?=some u∧RN 400002∧hv 400002=v2:=h.slot 21 _ rfl (by omega)
  have w1:=h.view (n:=400001) (e:=42) (z:=2) (l:=(X++List.replicate kx zTm).map Tm.cv) (len:=X.length) rfl hr1 (by simp)
  have w2:=h.view (n:=400002) (e:=42) (z:=2) (l:=(Y++List.replicate ky zTm).map Tm.cv) (len:=Y.length) rfl hr2 (by simp)
  rw [a5K,hx1] at w1
  rw [a5K,hx2] at w2
  rcases List.mem_cons.1 hq with rfl | hq
  ·obtain ⟨u,g1,g2⟩:=h.slot 1 _ rfl (by omega)
   obtain ⟨rfl,_⟩:=l8.1 g2.1
   exact ⟨_,g1,w2⟩
  ·rcases List.mem_cons.1 hq with rfl | hq
   ·exact h.viewBox 2 rfl rfl (by omega) (by show (1:Nat)≠2;decide) w1
   ·cases hq
 ·intro w
  have hW:Hw w w c0a:=⟨fun _=>rfl,fun _ h=>h⟩
  refine aS (aR ?_)
  refine nc zB (nc ze ?_)
  have hcon:=a7C w (fun t=>!(X.any fun u=>decide (kb u t=1))) (.fn 124 0 [.ptr (.lst (X.map Tm.cv))]) Y (by omega) (fun w x hx => .inl ⟨_,_,_,rfl,b4O w x X (hY x hx) hX (by omega)⟩)
  by_cases hX0:0<X.length
  ·have g:decide (((X.map Tm.cv).length:Int)>0)=true:=by simp;omega
   have e:b3i X Y=!(Y.any fun t=>!(X.any fun u=>decide (kb u t=1))):=by unfold b3i;rw [decide_eq_true hX0,Bool.true_and]
   rw [e]
   refine aS (aR ?_)
   refine nc zbE (nc zp (nc zH (nc zl (nc (zl (p:=gb)) (nc (zl (p:=gb)) (nc (zw (p:=gb) (z:=hcon)) (nc (zX (r:=gb)) (nc zM (nc ze ?_)))))))))
   exact aT ⟨.inr rfl,rfl⟩
  ·have g:decide (((X.map Tm.cv).length:Int)>0)=false:=decide_eq_false (by rw [List.length_map];omega)
   have e:b3i X Y=false:=by unfold b3i;rw [decide_eq_false hX0,Bool.false_and]
   rw [e]
   refine aS (aR ?_)
   refine nc zbE (nc zp (nc zH (nc zl (nc zO (nc zO (nc zO (nc zO (nc zP (nc ze ?_)))))))))
   exact aT ⟨.inr rfl,rfl⟩
def H3 (l:Lt):List Tm:=if l.neg then [l.a,l.a,l.b,l.b] else [l.a,l.b]
theorem a8t {l:Lt} {p:Tm→Prop} (h:p l.a∧p l.b):∀ t∈H3 l,p t:=by
 intro t ht
 unfold H3 at ht
 split at ht<;>simp at ht<;>rcases ht with rfl | rfl
 all_goals first | exact h.1 | exact h.2
theorem a8s (l:Lt):(H3 l).length≤4:=by unfold H3;split<;>simp
theorem a7e (l:Lt):p6 Tryz.prog 98 [] [.val l.cw] (.sl 400001 0 (H3 l).length 2) [rwT 400001 (H3 l) 0]:=by
 refine j9 Tryz.func98 Tryz.ntmps98 rfl rfl rfl rfl rfl rfl ?_
 intro w U hU
 have hUf:U.f 400001=none:=by
  cases e:U.f 400001 with
  | none=>rfl
  | some v=>have:=hU _ v e;cases this
 have e1:l.a.cw=l.a.cv:=(Tm.cv_eq _).symm
 have e2:l.b.cw=l.b.cv:=(Tm.cv_eq _).symm
 refine aS (aR ?_)
 refine nc zd (nc ze ?_)
 refine aS (aS (aR ?_))
 refine nc zg (nc zh ?_)
 refine aC rfl (fun hc=>?_) (fun hc=>?_)
 ·have e:H3 l=[l.a,l.a,l.b,l.b]:=by unfold H3;rw [if_pos hc]
  rw [e]
  refine aS (aR ?_)
  refine nc zg (nc zh (nc zg (nc zh (nc zg (nc zh (nc zg (nc zh (nc (zbG 250007) (nc ze ?_)))))))))
  refine aT ⟨.inr rfl,_,(a7 (s':=[(2,.sl 250007 0 4 2),(250007,.mrow 42 2 (([l.a,l.a,l.b,l.b]++List.replicate 0 zTm).map Tm.cv))]) ⟨rfl,?_,trivial⟩).trans (t7 250007 400001 rfl rfl hUf rfl rfl rfl),rfl,rfl,trivial⟩
  show some (AV.mrow _ _ _)=some (AV.mrow _ _ _)
  simp only [List.replicate_zero,List.append_nil,List.map_cons,List.map_nil,Tm.cv_eq]
  rfl
 ·have e:H3 l=[l.a,l.b]:=by unfold H3;rw [if_neg (by rw [hc];decide)]
  rw [e]
  refine aK ?_
  refine aS (aR ?_)
  refine nc zg (nc zh (nc zg (nc zh (nc (zbG 250007) (nc ze ?_)))))
  refine aT ⟨.inr rfl,_,(a7 (s':=[(2,.sl 250007 0 2 2),(250007,.mrow 42 2 (([l.a,l.b]++List.replicate 0 zTm).map Tm.cv))]) ⟨rfl,?_,trivial⟩).trans (t7 250007 400001 rfl rfl hUf rfl rfl rfl),rfl,rfl,trivial⟩
  show some (AV.mrow _ _ _)=some (AV.mrow _ _ _)
  simp only [List.replicate_zero,List.append_nil,List.map_cons,List.map_nil,Tm.cv_eq]
  rfl
theorem a6N (l:Lt):p6 Tryz.prog 98 [] [.val l.cw] (.sl 400002 0 (H3 l).length 2) [rwT 400002 (H3 l) 0]:=by
 refine j9 Tryz.func98 Tryz.ntmps98 rfl rfl rfl rfl rfl rfl ?_
 intro w U hU
 have hUf:U.f 400002=none:=by
  cases e:U.f 400002 with
  | none=>rfl
  | some v=>have:=hU _ v e;cases this
 have e1:l.a.cw=l.a.cv:=(Tm.cv_eq _).symm
 have e2:l.b.cw=l.b.cv:=(Tm.cv_eq _).symm
 refine aS (aR ?_)
 refine nc zd (nc ze ?_)
 refine aS (aS (aR ?_))
 refine nc zg (nc zh ?_)
 refine aC rfl (fun hc=>?_) (fun hc=>?_)
 ·have e:H3 l=[l.a,l.a,l.b,l.b]:=by unfold H3;rw [if_pos hc]
  rw [e]
  refine aS (aR ?_)
  refine nc zg (nc zh (nc zg (nc zh (nc zg (nc zh (nc zg (nc zh (nc (zbG 250007) (nc ze ?_)))))))))
  refine aT ⟨.inr rfl,_,(a7 (s':=[(2,.sl 250007 0 4 2),(250007,.mrow 42 2 (([l.a,l.a,l.b,l.b]++List.replicate 0 zTm).map Tm.cv))]) ⟨rfl,?_,trivial⟩).trans (t7 250007 400002 rfl rfl hUf rfl rfl rfl),rfl,rfl,trivial⟩
  show some (AV.mrow _ _ _)=some (AV.mrow _ _ _)
  simp only [List.replicate_zero,List.append_nil,List.map_cons,List.map_nil,Tm.cv_eq]
  rfl
 ·have e:H3 l=[l.a,l.b]:=by unfold H3;rw [if_neg (by rw [hc];decide)]
  rw [e]
  refine aK ?_
  refine aS (aR ?_)
  refine nc zg (nc zh (nc zg (nc zh (nc (zbG 250007) (nc ze ?_)))))
  refine aT ⟨.inr rfl,_,(a7 (s':=[(2,.sl 250007 0 2 2),(250007,.mrow 42 2 (([l.a,l.b]++List.replicate 0 zTm).map Tm.cv))]) ⟨rfl,?_,trivial⟩).trans (t7 250007 400002 rfl rfl hUf rfl rfl rfl),rfl,rfl,trivial⟩
  show some (AV.mrow _ _ _)=some (AV.mrow _ _ _)
  simp only [List.replicate_zero,List.append_nil,List.map_cons,List.map_nil,Tm.cv_eq]
  rfl
theorem b7A (W:World) (x y:Lt) (hx:x.a.fit∧x.b.fit) (hy:y.a.fit∧y.b.fit):AFun Tryz.prog W 69 [x.cw,y.cw] (.val (.b (a9e (H3 x) (H3 y)))):=by
 have hT1:=a7e x
 have hT2:=a6N y
 have l1:=a8s x
 have l2:=a8s y
 have hO:=b3J (H3 x) (H3 y) (a8t hx) (a8t hy) (by omega) (by omega)
 refine b6 (rs:=[.b (a9e (H3 x) (H3 y))]) Tryz.func69 Tryz.ntmps69 rfl rfl rfl rfl ?_
 intro w U hW
 refine aS (aR ?_)
 refine nc zd (nc zd (nc ze ?_))
 refine aS (aD (by kernel_rfl) (by kernel_rfl) ?_)
 refine nc zy ?_
 refine nc (z0 (z:=hT1) (G:=fun k v h=>by first | (rw [hW.1] at h;cases h) | (have h2:=hU k v h;cases h2))) ?_
 refine nc zy ?_
 refine nc (z0 (z:=hT2) (G:=fun k v h=>by first | (rw [hW.1] at h;cases h) | (have h2:=hU k v h;cases h2))) ?_
 refine nc (z0 (z:=hO) (G:=c9 (by first | rfl | kernel_rfl))) (nc ze ?_)
 refine ⟨by kernel_rfl,?_⟩
 exact aT (And.intro (.inr rfl) rfl)
def c3L (n:Nat):Int:=if n=0 then 0 else if n=1 then 1 else if n<4 then 2 else if n<8 then 3 else 4
end Go.Proofs.YtglmoficcjphaaaGreat
namespace Go.Proofs.YtglmoficcjphaaaGreat
open Go.RowKit
set_option linter.unusedVariables false
set_option linter.unusedSimpArgs false
def c2H (l:List Tm):Bool:=l.all fun t=>decide (0≤n5 t 60 20)
theorem PsT.at {w:World} {base:Nat} {a:Option Addr} {n c:Nat} {ps:List (List Int)} (h:PsT w base (.slice a n c) ps) {i:Nat} (hi:i<ps.length) :
  ∃ (b off:Nat) (x:Pr),a=some ⟨b,off,none⟩∧ps[i]?=some x.p∧x.ok (fun b=>base≤b) w∧w.cell? ⟨b,off+i,none⟩=some (.slice x.a x.n x.c):=by
 obtain ⟨xs,h1,h2,h3⟩:=h
 obtain ⟨a',c',e1,e2,e3,e4,e5⟩:=F6 h1
 cases e1
 have hxl:xs.length=ps.length:=by rw [←h2,List.length_map]
 have hix:i<xs.length:=by omega
 rcases e5 with h | ⟨b,off,ha,hlt,hc⟩
 ·rw [List.map_eq_nil_iff] at h;rw [h] at hix;simp at hix
 ·refine ⟨b,off,xs[i],ha,?_,(h3 _ (List.getElem_mem hix)).keep fun b h _=>⟨h.1,rfl⟩,?_⟩
  ·rw [←h2,List.getElem?_map,List.getElem?_eq_getElem hix];rfl
  ·rw [hc i (by rw [List.length_map];exact hix),List.getElem?_map,List.getElem?_eq_getElem hix];rfl
theorem Pr.ok.at {U:Nat→Prop} {w:World} {x:Pr} (h:x.ok U w) {i:Nat} (hi:i<x.n):∃ b off z,x.a=some ⟨b,off,none⟩∧U b∧b<w.heap.size∧x.p[i]?=some z∧w.cell? ⟨b,off+i,none⟩=some (.int .i64 z):=by
 obtain ⟨h1,h2,h3,h4,h5⟩:=h
 have hip:i<x.p.length:=by omega
 rcases h5 with h | ⟨b,off,ha,hu,hlt,hc⟩
 ·unfold b5N at h;rw [List.map_eq_nil_iff] at h;rw [h] at hip;simp at hip
 ·refine ⟨b,off,x.p[i],ha,hu,hlt,List.getElem?_eq_getElem hip,?_⟩
  rw [hc i (by unfold b5N;rw [List.length_map];exact hip)]
  unfold b5N
  rw [List.getElem?_map,List.getElem?_eq_getElem hip];rfl
def c3s:Tm := .mk 1 [.mk (-1) [],.mk 2 []]
end Go.Proofs.YtglmoficcjphaaaGreat
namespace Go.Proofs.YtglmoficcjphaaaGreat
open Go.RowKit
set_option linter.unusedVariables false
set_option linter.unusedSimpArgs false
set_option maxRecDepth 100000
theorem a1L (W:World) {t s:Tm} (ht:t.rng) (hs:s.rng):AFun Tryz.prog W 90 [t.cw,s.cw] (.val (.i (v9 t s))):=by
 refine ⟨C1 Tryz.func90 rfl rfl,.inl rfl,rfl,?_⟩
 rintro U w vs hW ⟨u1,us1,rfl,h1,u2,us2,rfl,h2,h3⟩
 have h3:us2=[]:=h3
 subst h3
 obtain ⟨a,n,c,rfl,h4⟩:=A5 ht h1
 obtain ⟨a',n',c',rfl,h5⟩:=A5 hs h2
 refine (a1V t s a a' n c n' c' w h4 h5).mono ?_
 rintro e w' ⟨rfl,hb⟩
 exact ⟨_,rfl,l8.2 ⟨rfl,rfl⟩,hb⟩
end Go.Proofs.YtglmoficcjphaaaGreat
