/-
 What came in,of whatever type of b2A,bools,strings,slices and structs: a tree of that shape.
-/
import Derived.Test.YteegmcfobgpemaaGreatMg13
import Derived.Test.YteegmcfobgpemaaGreatMg2
import Derived.OpenShut
import Derived.ChangeArms
import Derived.Below
namespace Go.Proofs.YteegmcfobgpemaaGreat
open List (length_append length_cons length_map length_nil)
set_option linter.unusedVariables false
set_option linter.unusedSimpArgs false
section
open Go.RowKit Go.ChangeShapes
def Shp(P:Program):Nat->TypeId->CV->Prop
 | 0,_,_=>False
 | n+1,ty,c=>match P.underlying ty with
  | some (.int k)=>∃z,c=.sc (.int k z)/\(Lit.int k z).wf=true
  | some .bool=>∃b,c=.b b
  | some .string=>∃s:ByteArray,c=.sc (.string s)/\s.size<=maxLen
  | some (.slice e)=>∃l,c=.lst l/\∀x∈l,Shp P n e x
  | some (.struct fs)=>∃l,c=.row l/\l.length=fs.size/\∀(i:Nat) (f:Field) (x:CV),fs[i]?=some f->l[i]?=some x->Shp P n f.type x
  | _=>False
def c2p(P:Program)(ts:List TypeId):Bool:=ts.all λt=>match P.underlying t with
 | some (.int _) | some .bool | some .string=>true
 | some (.slice e)=>ts.contains e&&Nat.blt 0 (P.cellsOf e)
 | some (.struct fs)=>(fs.toList.all λf=>ts.contains f.type)&&(match szO P fs.toList 0 with | some sz=>Nat.beq sz.sum (P.cellsOf t) | none=>false)
 | _=>false
section
variable{H:Type}{enc:TypeId×Value->H}{w:World}{held:Bool}{P:Program}
theorem a2Z{n:Nat}{cs:List Value}:∀{fs:List Field} {o:Nat} {sz:List Nat},szO P fs o=some sz->(∀f∈fs,∃c,Rep (λ_ _=>True) w c ((cs.drop f.offset).take (P.cellsOf f.type))/\Shp P n f.type c)->cs.length=o+sz.sum ->
  ∃l:List CV,l.length=fs.length/\Sq (l.map λc=>Rep (λ_ _=>True) w c) (cs.drop o)/\∀(i:Nat) (f:Field) (x:CV),fs[i]?=some f->l[i]?=some x->Shp P n f.type x
 | [],o,sz,h,_,hl=>by
  simp[szO]at h;subst h;exact⟨[],rfl,by show cs.drop o=[];rw[List.drop_eq_nil_of_le (by simp at hl;omega)],λi f x hi=>by simp at hi⟩
 | f::fs,o,sz,h,hf,hl=>by
  unfold szO at h;split at h
  ·rename_i it h1 h2;split at h
   ·rename_i r hr;cases h;have ho:f.offset=o:=Nat.eq_of_beq_eq_true h1;have hc:P.cellsOf f.type=it.size:=by simp[Program.cellsOf,h2]
    obtain⟨c,gG,hshp⟩:=hf f (by simp);rw[ho,hc]at gG;rw[List.sum_cons]at hl;obtain⟨l,g1,g2,g3⟩:=a2Z (n:=n) hr (λg hg=>hf g (List.mem_cons_of_mem _ hg)) (by omega);refine⟨c::l,by simp[g1],⟨(cs.drop o).take it.size,cs.drop (o+it.size),?_,gG,g2⟩,λi g x hi hx=>?_⟩
    ·rw[<-List.drop_drop,List.take_append_drop]
    ·cases i with
     | zero=>simp at hi hx;subst hi;subst hx;exact hshp
     | succ i=>exact g3 i g x (by simpa using hi) (by simpa using hx)
   ·cases h
  ·cases h
theorem b4T{ts:List TypeId}(aQ:c2p P ts=true):∀(fuel:Nat) {ty:TypeId} {cs:List Value} {x:DataW H×List MemPlace},ty∈ts->DataW.trod enc P w 0 (λ_=>true) held fuel ty cs=some x->∃c,Rep (λ_ _=>True) w c cs/\Shp P fuel ty c:=by
 intro fuel
 induction fuel with
 | zero=>intro ty cs x _ h;simp[DataW.trod]at h
 | succ n ih =>
  intro ty cs x hty h;have kH:=(List.all_eq_true.1 aQ) ty hty;cases hu:P.underlying ty with
  | none=>rw[hu]at kH;cases kH
  | some d =>
   rw[hu]at kH;cases d with
   | int k =>
    obtain⟨z,rfl,_,hw⟩:=DataW.trod_int hu h;exact⟨_,a8i k z,by rw[Shp,hu];exact⟨z,rfl,hw⟩⟩
   | bool =>
    obtain⟨b,rfl,_⟩:=DataW.trod_bool hu h;exact⟨_,b7j b,by rw[Shp,hu];exact⟨b,rfl⟩⟩
   | string =>
    obtain⟨s,rfl,_,hs⟩:=DataW.trod_string hu h;exact⟨.sc (.string s),L6.2 ⟨rfl,rfl⟩,by rw[Shp,hu];exact⟨s,rfl,hs⟩⟩
   | slice e =>
    simp only[Bool.and_eq_true]at kH;have he:e∈ts:=by simpa using kH.1
    have hz:=bL kH.2;rcases DataW.trod_slice hu h with⟨rfl,_⟩ | ⟨ad,len,cap,elems,rest,m,hm,rfl,_,_,cS,mQ,hel,hr,_⟩
    ·exact⟨_,a8P _ _,by rw[Shp,hu];exact⟨[],rfl,λx hx=>by cases hx⟩⟩
    ·obtain rfl:n=m:=by omega
     obtain⟨z,hzd⟩:∃z,z=P.cellsOf e:=⟨_,rfl⟩
     rw[<-hzd]at hz hr;have each:∀i,i<len->∃(c:CV) (ys:List Value),Rep (λ_ _=>True) w c ys/\Shp P n e c/\ys.length=z/\∀j,j<z->w.cell? (ad.add (i*z+j))=ys[j]?:=by intro i hi;have h1:=hr i hi;rw[List.getElem?_eq_getElem (by omega),Option.bind_eq_some_iff]at h1;obtain⟨ys,h2,h3⟩:=h1;obtain⟨_,h4,h5⟩:=World.cells?_some h2;obtain⟨c,h6,h7⟩:=ih he h3;exact⟨c,ys,h6,h7,h4,λj hj=>by rw[<-Addr.add_add];exact h5 j hj⟩
     have build:∀k,k<=len->∃(l:List CV) (ys:List Value),l.length=k/\ys.length=k*z/\Sq (l.map λc=>Rep (λ_ _=>True) w c) ys/\(∀x∈l,Shp P n e x)/\∀i,i<k*z->w.cell? (ad.add i)=ys[i]?:=by
      intro k
      induction k with
      | zero=>intro _;exact⟨[],[],rfl,by simp,rfl,(λx hx=>by cases hx),(λi hi=>by rw[Nat.zero_mul]at hi;omega)⟩
      | succ k ih2 =>
       intro hk;obtain⟨l,ys,h1,h0,h2,h3,h4⟩:=ih2 (by omega);obtain⟨c,zs,g1,g2,g3,g4⟩:=each k (by omega);refine⟨l++[c],ys++zs,by simp[h1],by rw[length_append,h0,g3,Nat.add_mul,Nat.one_mul],?_,λx hx=>?_,λi hi=>?_⟩
       ·rw[List.map_append];exact y8 h2 (b5a g1)
       ·rcases List.mem_append.1 hx with hx | hx
        ·exact h3 x hx
        ·rw[List.mem_singleton.1 hx];exact g2
       ·rcases Nat.lt_or_ge i (k*z)with h | h
        ·rw[h4 i h,List.getElem?_append_left (by omega)]
        ·rw[List.getElem?_append_right (by omega),h0];have:=g4 (i-k*z) (by rw[Nat.add_mul,Nat.one_mul]at hi;omega);rw[show k*z+(i-k*z)=i by omega]at this;exact this
     obtain⟨l,ys,h1,h0,h2,h3,h4⟩:=build len (Nat.le_refl _);refine⟨.lst l,N7.2 ⟨some ad,len,cap,rfl,h1.symm,cS,mQ,(λh=>by cases h),ys,?_,h2⟩,by rw[Shp,hu];exact⟨l,rfl,h3⟩⟩;rcases Nat.eq_zero_or_pos len with hz0 | hz0
     ·exact .inl (List.eq_nil_of_length_eq_zero (by rw[h0,hz0];simp))
     ·obtain⟨b,off,spot⟩:=ad;have gO:0<len*z:=Nat.mul_pos hz0 hz;have vJ:=h4 0 gO;rw[List.getElem?_eq_getElem (by omega)]at vJ;have xY:spot=none:=by simpa[Addr.add]using World.cell?_spot vJ
      subst xY;refine .inr ⟨b,off,rfl,λi hi=>⟨trivial,?_⟩⟩;have:=h4 i (by omega);rw[show(⟨b,off,none⟩:Addr).add i=⟨b,off+i,none⟩ by unfold Addr.add;split<;>simp_all]at this;exact this
   | struct fs =>
    simp only[Bool.and_eq_true]at kH;obtain⟨xs,m,hm,_,hl,hx,hf⟩:=DataW.trod_struct hu h;obtain rfl:n=m:=by omega
    have kC:∃sz,szO P fs.toList 0=some sz/\sz.sum=P.cellsOf ty:=by
     have h2:=kH.2;split at h2
     ·rename_i sz hs;exact⟨sz,hs,Nat.eq_of_beq_eq_true h2⟩
     ·cases h2
    obtain⟨sz,dG,lX⟩:=kC;have yT:∀f∈fs.toList,∃c,Rep (λ_ _=>True) w c ((cs.drop f.offset).take (P.cellsOf f.type))/\Shp P n f.type c:=λf hfm=>by
     obtain⟨i,hi,he⟩:=List.mem_iff_getElem.1 hfm;have gH:fs[i]?=some f:=by rw[<-Array.getElem?_toList,List.getElem?_eq_getElem hi,he]
     have h3:=hf i f gH;have eO:i<xs.length:=by rw[hx];simpa using hi
     rw[List.getElem?_eq_getElem eO]at h3;refine ih ?_ h3;have:=(List.all_eq_true.1 kH.1) f hfm;simpa using this
    obtain⟨l,g1,g2,g3⟩:=a2Z (P:=P) (w:=w) (n:=n) (cs:=cs) dG yT (by rw[hl,lX];omega);refine⟨.row l,J0.2 (by simpa using g2),?_⟩;rw[Shp,hu];exact⟨l,rfl,by simpa using g1,λi f x hi hx=>g3 i f x (by rw[<-Array.getElem?_toList]at hi;exact hi) hx⟩
   | _=>cases kH
theorem c4p{ty:TypeId}{fs:Array Field}(hu:P.underlying ty=some (.struct fs)){n:Nat}{c:CV}{cs:Array Value}(h1:Rep (λ_ _=>True) w c cs.toList)(h2:Shp P n ty c):VRep (λ_ _=>True) w c (.agg cs):=by
 cases n with
 | zero=>exact h2.elim
 | succ n =>
  rw[Shp,hu]at h2;obtain⟨l,rfl,_⟩:=h2;exact⟨cs.toList,by simp,h1⟩
theorem b4R{ty e:TypeId}(hu:P.underlying ty=some (.slice e)){n:Nat}{c:CV}{v:Value}(h1:Rep (λ_ _=>True) w c [v])(h2:Shp P n ty c):VRep (λ_ _=>True) w c v:=by
 cases n with
 | zero=>exact h2.elim
 | succ n =>
  rw[Shp,hu]at h2;obtain⟨l,rfl,_⟩:=h2;exact h1
end
end
end Go.Proofs.YteegmcfobgpemaaGreat
