/-
 What came in,of whatever type of a2e,bools,strings,slices and structs: a tree of that shape.
-/
import Derived.Test.YtekboofbedakcaaGreatMg10
import Derived.Test.YtekboofbedakcaaGreatMg2
import Derived.OpenShut
import Derived.ChangeArms
import Derived.Below
namespace Go.Proofs.YtekboofbedakcaaGreat
open Go.RowKit Go.ChangeShapes
set_option linter.unusedVariables false
set_option linter.unusedSimpArgs false
def Shp (P:Program):Nat→TypeId→CV→Prop
 | 0,_,_=>False
 | n+1,ty,c=>match P.underlying ty with
  | some (.int k)=>∃ z,c = .sc (.int k z)∧(Lit.int k z).wf=true
  | some .bool=>∃ b,c = .b b
  | some .string=>∃ s:ByteArray,c = .sc (.string s)∧s.size≤maxLen
  | some (.slice e)=>∃ l,c = .lst l∧∀ x∈l,Shp P n e x
  | some (.struct fs)=>∃ l,c = .row l∧l.length=fs.size∧∀ (i:Nat) (f:Field) (x:CV),fs[i]?=some f→l[i]?=some x→Shp P n f.type x
  | _=>False
def b6J (P:Program) (ts:List TypeId):Bool:=ts.all fun t=>match P.underlying t with
 | some (.int _) | some .bool | some .string=>true
 | some (.slice e)=>ts.contains e&&Nat.blt 0 (P.cellsOf e)
 | some (.struct fs)=>(fs.toList.all fun f=>ts.contains f.type)&&(match szO P fs.toList 0 with | some sz=>Nat.beq sz.sum (P.cellsOf t) | none=>false)
 | _=>false
section
variable {H:Type} {enc:TypeId×Value→H} {w:World} {held:Bool} {P:Program}
theorem a1J {n:Nat} {cs:List Value}:∀ {fs:List Field} {o:Nat} {sz:List Nat},szO P fs o=some sz→(∀ f∈fs,∃ c,Rep (fun _ _=>True) w c ((cs.drop f.offset).take (P.cellsOf f.type))∧Shp P n f.type c)→cs.length=o+sz.sum →
  ∃ l:List CV,l.length=fs.length∧Sq (l.map fun c=>Rep (fun _ _=>True) w c) (cs.drop o)∧∀ (i:Nat) (f:Field) (x:CV),fs[i]?=some f→l[i]?=some x→Shp P n f.type x
 | [],o,sz,h,_,hl=>by
  simp [szO] at h
  subst h
  exact ⟨[],rfl,by show cs.drop o=[];rw [List.drop_eq_nil_of_le (by simp at hl;omega)],fun i f x hi=>by simp at hi⟩
 | f::fs,o,sz,h,hf,hl=>by
  unfold szO at h
  split at h
  ·rename_i it h1 h2
   split at h
   ·rename_i r hr
    cases h
    have ho:f.offset=o:=Nat.eq_of_beq_eq_true h1
    have hc:P.cellsOf f.type=it.size:=by simp [Program.cellsOf,h2]
    obtain ⟨c,hrep,hshp⟩:=hf f (by simp)
    rw [ho,hc] at hrep
    rw [List.sum_cons] at hl
    obtain ⟨l,g1,g2,g3⟩:=a1J (n:=n) hr (fun g hg=>hf g (List.mem_cons_of_mem _ hg)) (by omega)
    refine ⟨c::l,by simp [g1],⟨(cs.drop o).take it.size,cs.drop (o+it.size),?_,hrep,g2⟩,fun i g x hi hx=>?_⟩
    ·rw [←List.drop_drop,List.take_append_drop]
    ·cases i with
     | zero=>simp at hi hx;subst hi;subst hx;exact hshp
     | succ i=>exact g3 i g x (by simpa using hi) (by simpa using hx)
   ·cases h
  ·cases h
theorem a3a {ts:List TypeId} (hts:b6J P ts=true):∀ (fuel:Nat) {ty:TypeId} {cs:List Value} {x:DataW H×List MemPlace},ty∈ts→DataW.trod enc P w 0 (fun _=>true) held fuel ty cs=some x→∃ c,Rep (fun _ _=>True) w c cs∧Shp P fuel ty c:=by
 intro fuel
 induction fuel with
 | zero=>intro ty cs x _ h;simp [DataW.trod] at h
 | succ n ih =>
  intro ty cs x hty h
  have hok:=(List.all_eq_true.1 hts) ty hty
  cases hu:P.underlying ty with
  | none=>rw [hu] at hok;cases hok
  | some d =>
   rw [hu] at hok
   cases d with
   | int k =>
    obtain ⟨z,rfl,_,hw⟩:=DataW.trod_int hu h
    exact ⟨_,F3 k z,by rw [Shp,hu];exact ⟨z,rfl,hw⟩⟩
   | bool =>
    obtain ⟨b,rfl,_⟩:=DataW.trod_bool hu h
    exact ⟨_,b3u b,by rw [Shp,hu];exact ⟨b,rfl⟩⟩
   | string =>
    obtain ⟨s,rfl,_,hs⟩:=DataW.trod_string hu h
    exact ⟨.sc (.string s),t7.2 ⟨rfl,rfl⟩,by rw [Shp,hu];exact ⟨s,rfl,hs⟩⟩
   | slice e =>
    simp only [Bool.and_eq_true] at hok
    have he:e∈ts:=by simpa using hok.1
    have hz:=bL hok.2
    rcases DataW.trod_slice hu h with ⟨rfl,_⟩ | ⟨ad,len,cap,elems,rest,m,hm,rfl,_,_,hle,hcm,hel,hr,_⟩
    ·exact ⟨_,a5v _ _,by rw [Shp,hu];exact ⟨[],rfl,fun x hx=>by cases hx⟩⟩
    ·obtain rfl:n=m:=by omega
     obtain ⟨z,hzd⟩:∃ z,z=P.cellsOf e:=⟨_,rfl⟩
     rw [←hzd] at hz hr
     have each:∀ i,i<len→∃ (c:CV) (ys:List Value),Rep (fun _ _=>True) w c ys∧Shp P n e c∧ys.length=z∧∀ j,j<z→w.cell? (ad.add (i*z+j))=ys[j]?:=by
      intro i hi
      have h1:=hr i hi
      rw [List.getElem?_eq_getElem (by omega),Option.bind_eq_some_iff] at h1
      obtain ⟨ys,h2,h3⟩:=h1
      obtain ⟨_,h4,h5⟩:=World.cells?_some h2
      obtain ⟨c,h6,h7⟩:=ih he h3
      exact ⟨c,ys,h6,h7,h4,fun j hj=>by rw [←Addr.add_add];exact h5 j hj⟩
     have build:∀ k,k≤len→∃ (l:List CV) (ys:List Value),l.length=k∧ys.length=k*z∧Sq (l.map fun c=>Rep (fun _ _=>True) w c) ys∧(∀ x∈l,Shp P n e x)∧∀ i,i<k*z→w.cell? (ad.add i)=ys[i]?:=by
      intro k
      induction k with
      | zero=>intro _;exact ⟨[],[],rfl,by simp,rfl,(fun x hx=>by cases hx),(fun i hi=>by rw [Nat.zero_mul] at hi;omega)⟩
      | succ k ih2 =>
       intro hk
       obtain ⟨l,ys,h1,h0,h2,h3,h4⟩:=ih2 (by omega)
       obtain ⟨c,zs,g1,g2,g3,g4⟩:=each k (by omega)
       refine ⟨l++[c],ys++zs,by simp [h1],by rw [List.length_append,h0,g3,Nat.add_mul,Nat.one_mul],?_,fun x hx=>?_,fun i hi=>?_⟩
       ·rw [List.map_append];exact D6 h2 (b1L g1)
       ·rcases List.mem_append.1 hx with hx | hx
        ·exact h3 x hx
        ·rw [List.mem_singleton.1 hx];exact g2
       ·rcases Nat.lt_or_ge i (k*z) with h | h
        ·rw [h4 i h,List.getElem?_append_left (by omega)]
        ·rw [List.getElem?_append_right (by omega),h0]
         have:=g4 (i-k*z) (by rw [Nat.add_mul,Nat.one_mul] at hi;omega)
         rw [show k*z+(i-k*z)=i by omega] at this
         exact this
     obtain ⟨l,ys,h1,h0,h2,h3,h4⟩:=build len (Nat.le_refl _)
     refine ⟨.lst l,I0.2 ⟨some ad,len,cap,rfl,h1.symm,hle,hcm,(fun h=>by cases h),ys,?_,h2⟩,by rw [Shp,hu];exact ⟨l,rfl,h3⟩⟩
     rcases Nat.eq_zero_or_pos len with hz0 | hz0
     ·exact .inl (List.eq_nil_of_length_eq_zero (by rw [h0,hz0];simp))
     ·obtain ⟨b,off,spot⟩:=ad
      have hpos:0<len*z:=Nat.mul_pos hz0 hz
      have hc0:=h4 0 hpos
      rw [List.getElem?_eq_getElem (by omega)] at hc0
      have hspot:spot=none:=by simpa [Addr.add] using World.cell?_spot hc0
      subst hspot
      refine .inr ⟨b,off,rfl,fun i hi=>⟨trivial,?_⟩⟩
      have:=h4 i (by omega)
      rw [show (⟨b,off,none⟩:Addr).add i=⟨b,off+i,none⟩ by unfold Addr.add;split<;>simp_all] at this
      exact this
   | struct fs =>
    simp only [Bool.and_eq_true] at hok
    obtain ⟨xs,m,hm,_,hl,hx,hf⟩:=DataW.trod_struct hu h
    obtain rfl:n=m:=by omega
    have hsz:∃ sz,szO P fs.toList 0=some sz∧sz.sum=P.cellsOf ty:=by
     have h2:=hok.2
     split at h2
     ·rename_i sz hs;exact ⟨sz,hs,Nat.eq_of_beq_eq_true h2⟩
     ·cases h2
    obtain ⟨sz,hs1,hs2⟩:=hsz
    have hfs:∀ f∈fs.toList,∃ c,Rep (fun _ _=>True) w c ((cs.drop f.offset).take (P.cellsOf f.type))∧Shp P n f.type c:=fun f hfm=>by
     obtain ⟨i,hi,he⟩:=List.mem_iff_getElem.1 hfm
     have hi':fs[i]?=some f:=by rw [←Array.getElem?_toList,List.getElem?_eq_getElem hi,he]
     have h3:=hf i f hi'
     have hil:i<xs.length:=by rw [hx];simpa using hi
     rw [List.getElem?_eq_getElem hil] at h3
     refine ih ?_ h3
     have:=(List.all_eq_true.1 hok.1) f hfm
     simpa using this
    obtain ⟨l,g1,g2,g3⟩:=a1J (P:=P) (w:=w) (n:=n) (cs:=cs) hs1 hfs (by rw [hl,hs2];omega)
    refine ⟨.row l,s8.2 (by simpa using g2),?_⟩
    rw [Shp,hu]
    exact ⟨l,rfl,by simpa using g1,fun i f x hi hx=>g3 i f x (by rw [←Array.getElem?_toList] at hi;exact hi) hx⟩
   | _=>cases hok
theorem a7I {ty:TypeId} {fs:Array Field} (hu:P.underlying ty=some (.struct fs)) {n:Nat} {c:CV} {cs:Array Value} (h1:Rep (fun _ _=>True) w c cs.toList) (h2:Shp P n ty c):VRep (fun _ _=>True) w c (.agg cs):=by
 cases n with
 | zero=>exact h2.elim
 | succ n =>
  rw [Shp,hu] at h2
  obtain ⟨l,rfl,_⟩:=h2
  exact ⟨cs.toList,by simp,h1⟩
theorem b0n {ty e:TypeId} (hu:P.underlying ty=some (.slice e)) {n:Nat} {c:CV} {v:Value} (h1:Rep (fun _ _=>True) w c [v]) (h2:Shp P n ty c):VRep (fun _ _=>True) w c v:=by
 cases n with
 | zero=>exact h2.elim
 | succ n =>
  rw [Shp,hu] at h2
  obtain ⟨l,rfl,_⟩:=h2
  exact h1
end
end Go.Proofs.YtekboofbedakcaaGreat
